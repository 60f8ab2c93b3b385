import PyProof.Rows.All
import Wide.All
import OpenK.AllK
import Wide.FinOn
import PySem.Challenge.RW_makes_k38_least_values
set_option genSizeOf false
set_option genInjectivity false
set_option bootstrap.genMatcherCode false
noncomputable section
set_option maxHeartbeats 2000000
set_option Elab.async false
set_option linter.all false
set_option maxRecDepth 100000
local macro_rules | `(tactic| trivial) => `(tactic| first | exact .inl rfl | exact .inr rfl | rfl | decide | (intro _; rfl) | exact Or.inl rfl | exact Or.inr rfl | assumption | exact ⟨rfl, rfl, rfl, by decide +kernel, rfl, by decide +kernel, by decide +kernel⟩ | fail)
theorem XH{p:Prop}(h:p:=by omega):p:=h
theorem XU{p:Prop}(h:p:=by decide +kernel):p:=h
theorem XA{p:Prop}(h:p:=by decide):p:=h
theorem XI{p:Prop}(h:p:=by simp):p:=h
section
open PySem
abbrev XC:List Str:=["_law_script","_law_tape_here","_law_k","_law_make_here"]
abbrev XN:List Str:=["_law_one","_law_make_here","_law_shape"]
abbrev XR:List Str:=["_law_number","_law_tape_here"]
abbrev XS:List Str:=["_law_part"]
end
def XB:=@List.find?_eq_none
def XF:=@Int.toNat_natCast
def XG:=@List.length_set
def XY:=@List.length_range
def XJ:=@List.append_nil
def XQ:=@List.append_assoc
def XX:=@List.any_eq_true
def XZ:=@List.pairwise_cons
def ZE:=@List.length_singleton
def ZI:=@Option.bind_eq_some_iff
section
open PySem
abbrev ZW:=Value->Shared->Prop
abbrev ZV:=Str->Option Value
abbrev ZY:=List (Addr×Obj)
abbrev ZK:=List (Str×NameKind)
abbrev ZG:=List (Option Nat)
abbrev ZF:=Array (Option Value)
abbrev ZM:=List Value
abbrev ZD:=List Str
abbrev ZT:=Option Value
abbrev ZC:=List Expr
abbrev ZN:=Array Value
abbrev ZL:=List Int
abbrev ZR:=Option Int
abbrev ZS:=Array Nat
abbrev ZH:=Option Nat
abbrev ZP:=Option Addr
abbrev ZU:=List Addr
abbrev ZA:=Str->Nat
abbrev ZO:=Unit->Shared->Prop
end
section
open PySem PyProof.Rows
def Yc:=@List.length_map
def Ve:=@List.not_mem_nil
def Jh:=@List.size_toArray
def Nm:=@List.mem_singleton
def Xy:=@List.map_append
def Gn:=@decide_eq_true
def Yk:=@Nat.le_refl
def Zj:=@wpAny_bind
def Zr:=@wpAny_pure
def Ry:=@List.mem_map
def Qv:=@List.getElem?_map
def Rk:=@List.getElem?_eq_some_iff
def qj:=@List.mem_append
def Yx:=@Option.map_eq_some_iff
def Qw:=@List.length_append
def Je:=@Option.some.inj
def Yu:=@List.mem_cons_self
def Y3:=@List.mem_cons_of_mem
def G0l:=@List.getElem?_append_left
def G0e:=@List.getElem_mem
def Vs:=@List.forall_mem_cons
def B0f:=@Bool.false_eq_true
def D4:=@List.getElem?_eq_getElem
def qd:=@beq_eq_false_iff_ne
def Rv:=@Nat.lt_of_lt_of_le
def B9:=@List.length_cons
def D2:=@List.map_cons
def Yn:=@Heap.get?_push_of_some
def Yf:=@List.mem_cons
def Dc:=@of_decide_eq_true
def Y8:=@Bool.and_eq_true
def D0:=@Nat.le_trans
def D5:=@Bool.false_ne_true
def Ur:=@Heap.get?_push_size
def Ye:=@Heap.lt_size
def L0t:=@List.length_take
def T0l:=@List.take_of_length_le
def N0o:=@Nat.lt_of_le_of_lt
def B0:=@Nat.zero_le
def qt:=@Array.length_toList
def Dz:=@Nat.ne_of_lt
def K8:=@List.all_eq_true
def n6:=@Bool.and_eq_true_iff
def Gr:=@decide_eq_false
def nk:=@List.mem_append_right
def rm:=@Array.getElem?_eq_getElem
end
namespace L2
open PySem PySem.Spec PyProof.Rows
noncomputable def inClass(s:Stmt)(j:Nat):Stmt:=match s with
 | .ClassDef _ _ _ body _ _ _ _ _ _ _=>body.getD j (.Pass ⟨0,0,0,0⟩)
 | _=>.Pass ⟨0,0,0,0⟩
noncomputable def Y5(s:Stmt):Arguments:=match s with
 | .FunctionDef _ a _ _ _ _ _ _ _ _=>a
 | _=>{ posonlyargs:=[],args:=[],vararg:=none,kwonlyargs:=[],kw_defaults:=[],kwarg:=none,defaults:=[] }
def Z7(s:Stmt):List Stmt:=match s with
 | .FunctionDef _ _ b _ _ _ _ _ _ _=>b
 | _=>[]
noncomputable def Zw(s:Stmt):Scope:=match s with
 | .FunctionDef _ _ _ _ _ _ sc _ _ _=>sc
 | _=>{ kind:=.function,names:=[],isGenerator:=false,isCoroutine:=false }
end L2
namespace K38
open PySem PySem.Spec PyProof.Rows
noncomputable def top(i:Nat):Stmt:=PySem.Challenge.pw_makes_k38_least_values.main.body.getD i (.Pass ⟨0,0,0,0⟩)
end K38
namespace L2
open PySem PySem.W PySem.Calls PyProof.Rows
section
variable{tb:String->Option Builtin}{p:Program}{w:World}{m:Nat}{a:ZT}
def u9(tb:String->Option Builtin)(p:Program)(w:World)(m:Nat)(a:ZT):Nat->SharedT->Thread->Option SharedT
 | 0,_,_=>none
 | k+1,s,t=>bif through t then some s else bif stepOk m a t then (match stepT (denote tb) p w s t with | some (s',t')=>u9 tb p w m a k s' t' | none=>none) else none
theorem Az:∀{k:Nat} {s s':SharedT} {t:Thread},u9 tb p w m a k s t=some s'->topRun tb p w m a k s.abs t=some s'.abs
 | 0,_,_,_,h=>by cases h
 | k+1,s,s',t,h=>by
  unfold u9 at h;unfold topRun;cases ht:through t with
  | true=>rw[ht]at h;cases h;rfl
  | false =>
   rw[ht]at h;cases hk:stepOk m a t with
   | false=>rw[hk]at h;cases h
   | true =>
    rw[hk]at h;cases hs:stepT (denote tb) p w s t with
    | none=>rw[hs]at h;cases h
    | some r =>
     obtain⟨s₂,t₂⟩:=r;rw[hs]at h;rw[stepT_spec hs];exact Az h
end
def mkT:List Obj->Nat->BT->BT
 | [],_,t=>t
 | o::l,i,t=>mkT l (i+1) (t.ins i o)
noncomputable abbrev Oe(w:World)(os:OsState):Shared:=⟨boot_heap w.params,Array.mk [],boot_drawn,boot_toks,os⟩
noncomputable abbrev Zqd(w:World)(os:OsState):SharedT:=⟨mkT (boot_heap w.params).objs.toList 0 .nil,(boot_heap w.params).objs.size,(boot_heap w.params).life,Array.mk [],boot_drawn,boot_toks,os⟩
theorem boot_abs(w:World)(os:OsState):(Zqd w os).abs=Oe w os:=by kernel_rfl
noncomputable abbrev Rj(p:Program)(N:Nat)(w:World)(os:OsState):Option SharedT:=u9 treeTable p w (boot_heap w.params).objs.size ((boot_heap w.params).nsMap mainGlobals "__annotations__") N (Zqd w os) (topStub p)
noncomputable abbrev cq(p:Program)(w:World)(s:Shared):Bool:=staticsOk (importedModules p.main.body) (boot_heap w.params) s.heap&&namesBound p s.heap&&gensDone s&&laidKept (boot_heap w.params) s.heap
theorem ns_ok(w:World):((boot_heap w.params).isNs mainGlobals&&(Array.mk []:Array GenState).size==0)=true:=by kernel_rfl
theorem Gu{Z:Type _}{o:Option SharedT}{f:Shared->Z}{r:Z}(h:(o.map λs=>f s.abs)=some r):∃s,o=some s/\f s.abs=r:=by
 obtain⟨s,e,q⟩:=Yx.mp h;exact⟨s,e,q⟩
theorem top_of{Z U:Type}{p:Program}{N:Nat}{w:World}{os:OsState}{f:Shared->Z}{g:Shared->U}{x:Z}{y:U}(h1:((Rj p N w os).map λs=>cq p w s.abs)=some true)
  (h2:((Rj p N w os).map λs=>f s.abs)=some x) (h3:((Rj p N w os).map λs=>g s.abs)=some y) :
  (topFrom treeTable p w N (Oe w os)).map (λs=>(f s,g s))=some (x,y):=by
 obtain⟨s,e,c⟩:=Gu h1;obtain⟨s2,e2,c2⟩:=Gu h2;obtain⟨s3,e3,c3⟩:=Gu h3;rw[e]at e2 e3;cases e2;cases e3;have r:=Az e;rw[boot_abs]at r;unfold topFrom;rw[show ((Oe w os).heap.isNs mainGlobals&&(Oe w os).gens.size==0)=true from ns_ok w];show Option.map _ (Option.bind (topRun treeTable p w (boot_heap w.params).objs.size ((boot_heap w.params).nsMap mainGlobals "__annotations__") N (Oe w os) (topStub p)) _)=_;rw[r];show Option.map _ (match cq p w s.abs with | true=>some s.abs | false=>none)=_;rw[c];show some (f s.abs,g s.abs)=_;rw[c2,c3]
end L2
namespace K38
open PySem PySem.Spec PyProof.Rows L2
noncomputable def viewK:Program:={ PySem.Challenge.pw_makes_k38_least_values with main:={ PySem.Challenge.pw_makes_k38_least_values.main with body:=[top 1,top 3,top 5,top 6,top 7,top 8,top 9,top 11,top 12,top 13,top 14,top 15,top 16,top 17,top 18,top 19,top 20,top 21,top 22,top 23,top 24,top 25,top 26,top 27,top 28,top 29,top 30,top 31,top 32] } }
def Ym:ZD:=[]
abbrev en(P:Params)(x:Str)(t:Tok)(v:Value):DictEntry:=⟨PyData.keyHash P x,.str x t,v⟩
noncomputable abbrev fo(cls:Value)(nm q:Str)(s:Stmt)(kw doc pm:Value)(an:ZP)(cd ct:Value)(sl:ZF):Obj:=⟨cls,none,.func (W.fnOf nm q (L2.Y5 s) (L2.Z7 s) (L2.Zw s) .none kw doc pm an cd ct),sl⟩
noncomputable abbrev fn(nm q:Str)(s:Stmt)(md:Str)(t:Nat)(c:Addr):Obj:=fo (.type "function") nm q s .none .none (.str md t) .none (.ref c) .none #[]
noncomputable abbrev cd(x:Str)(a:Nat)(q:Str)(b c:Nat)(l k:Int)(r1 r2 r3 r4 r5:Addr)(e f:Int)(g:Nat):Obj:=⟨.type "code",.none,.fields #[.str x a,.str q b,.str "/claim/cut.py" c,.int l 0,.int k 0,.int 0 0,.int 0 0,.int 3 0,.ref r1,.bool Bool.true,.int 181 0,.ref r2,.none,.ref r3,.ref r4,.ref r5,.int e 0,.int f 0,.str "/claim/cut.py" g], #[]⟩
noncomputable def L0:Params->W.Frag:=λP =>
 (nat_lit 4,⟨.type "module",some 0,.plain, #[]⟩) ::
 (nat_lit 3,⟨.type "dict",.none,.dict #[en P "__name__" 165 (.str "law_makes_k38_least_values" 244),en P "__doc__" 166 (.none),en P "__package__" 167 (.none),en P "__loader__" 168 (.builtin "__main__.__loader__#opaque"),en P "__spec__" 169 (.none),en P "__annotations__" 170 (.ref 6),en P "__builtins__" 171 (.ref 4),en P "__file__" 173 (.str "/claim/cut.py" 172),en P "__cached__" 174 (.none),en P "may_be_left_out" 195 (.ref 21),en P "form_of" 205 (.ref 28),en P "least_value" 216 (.ref 35),en P "leasts_of" 222 (.ref 40),en P "least_by" 231 (.ref 47),en P "least_record" 237 (.ref 52),en P "least_choice" 243 (.ref 57),en P "_law_tape" 252 (.ref 64),en P "_law_draw" 265 (.ref 71),en P "_law_price" 271 (.ref 76),en P "_law_prices" 282 (.ref 83),en P "_law_light" 291 (.ref 90),en P "_law_word" 297 (.ref 95),en P "_law_names" 303 (.ref 100),en P "_law_plain" 312 (.ref 107),en P "_law_default" 320 (.ref 114),en P "_law_numbers" 326 (.ref 119),en P "_law_parts" 340 (.ref 126),en P "_law_struck" 346 (.ref 131),en P "_law_make" 352 (.ref 136),en P "_law_number_turned" 362 (.ref 143),en P "_law_shape_turned" 368 (.ref 148),en P "_law_fixed" 382 (.ref 155),en P "_law_turned" 394 (.ref 162),en P "_law_written" 400 (.ref 167),en P "_law_is_own" 406 (.ref 172),en P "_law_count" 412 (.ref 177),en P "_law_right" 422 (.ref 184),en P "law" 432 (.ref 191)] 38, #[]⟩) ::
 (nat_lit 20,cd "may_be_left_out" 189 "may_be_left_out" 190 191 2 1 15 16 17 18 19 193 2 194) ::
 (nat_lit 21,fn "may_be_left_out" "may_be_left_out" (top 1) "makes.shapes" 187 20) ::
 (nat_lit 27,cd "form_of" 198 "form_of" 199 200 5 2 22 23 24 25 26 203 5 204) ::
 (nat_lit 28,fn "form_of" "form_of" (top 3) "makes.forms" 196 27) ::
 (nat_lit 34,cd "least_value" 208 "least_value" 209 210 8 2 29 30 31 32 33 214 8 215) ::
 (nat_lit 35,fn "least_value" "least_value" (top 5) "makes.empties" 206 34) ::
 (nat_lit 39,⟨.type "code",.none,.fields #[.str "leasts_of" 217,.str "leasts_of" 218,.str "/claim/cut.py" 219,.int 11 0,.int 1 0,.int 0 0,.int 0 0,.int 3 0,.ref 36,.bool Bool.true,.int 181 0,.ref 37,.none,.none,.none,.ref 38,.int 220 0,.int 11 0,.str "/claim/cut.py" 221], #[]⟩) ::
 (nat_lit 40,fn "leasts_of" "leasts_of" (top 6) "makes.empties" 206 39) ::
 (nat_lit 46,cd "least_by" 223 "least_by" 224 225 16 2 41 42 43 44 45 229 16 230) ::
 (nat_lit 47,fn "least_by" "least_by" (top 7) "makes.empties" 206 46) ::
 (nat_lit 51,⟨.type "code",.none,.fields #[.str "least_record" 232,.str "least_record" 233,.str "/claim/cut.py" 234,.int 29 0,.int 2 0,.int 0 0,.int 0 0,.int 3 0,.ref 48,.bool Bool.true,.int 181 0,.ref 49,.none,.none,.none,.ref 50,.int 235 0,.int 29 0,.str "/claim/cut.py" 236], #[]⟩) ::
 (nat_lit 52,fn "least_record" "least_record" (top 8) "makes.empties" 206 51) ::
 (nat_lit 56,⟨.type "code",.none,.fields #[.str "least_choice" 238,.str "least_choice" 239,.str "/claim/cut.py" 240,.int 34 0,.int 2 0,.int 0 0,.int 0 0,.int 3 0,.ref 53,.bool Bool.true,.int 181 0,.ref 54,.none,.none,.none,.ref 55,.int 241 0,.int 34 0,.str "/claim/cut.py" 242], #[]⟩) ::
 (nat_lit 57,fn "least_choice" "least_choice" (top 9) "makes.empties" 206 56) ::
 (nat_lit 63,cd "_law_tape" 246 "_law_tape" 247 248 41 1 58 59 60 61 62 250 41 251) ::
 (nat_lit 64,fn "_law_tape" "_law_tape" (top 11) "law_makes_k38_least_values" 244 63) ::
 (nat_lit 70,cd "_law_draw" 253 "_law_draw" 254 255 43 2 65 66 67 68 69 263 43 264) ::
 (nat_lit 71,fn "_law_draw" "_law_draw" (top 12) "law_makes_k38_least_values" 244 70) ::
 (nat_lit 75,⟨.type "code",.none,.fields #[.str "_law_price" 266,.str "_law_price" 267,.str "/claim/cut.py" 268,.int 61 0,.int 2 0,.int 0 0,.int 0 0,.int 3 0,.ref 72,.bool Bool.true,.int 181 0,.ref 73,.none,.none,.none,.ref 74,.int 269 0,.int 61 0,.str "/claim/cut.py" 270], #[]⟩) ::
 (nat_lit 76,fn "_law_price" "_law_price" (top 13) "law_makes_k38_least_values" 244 75) ::
 (nat_lit 82,cd "_law_prices" 272 "_law_prices" 273 274 69 1 77 78 79 80 81 280 69 281) ::
 (nat_lit 83,fn "_law_prices" "_law_prices" (top 14) "law_makes_k38_least_values" 244 82) ::
 (nat_lit 89,cd "_law_light" 283 "_law_light" 284 285 77 2 84 85 86 87 88 289 77 290) ::
 (nat_lit 90,fn "_law_light" "_law_light" (top 15) "law_makes_k38_least_values" 244 89) ::
 (nat_lit 94,⟨.type "code",.none,.fields #[.str "_law_word" 292,.str "_law_word" 293,.str "/claim/cut.py" 294,.int 83 0,.int 1 0,.int 0 0,.int 0 0,.int 3 0,.ref 91,.bool Bool.true,.int 181 0,.ref 92,.none,.none,.none,.ref 93,.int 295 0,.int 83 0,.str "/claim/cut.py" 296], #[]⟩) ::
 (nat_lit 95,fn "_law_word" "_law_word" (top 16) "law_makes_k38_least_values" 244 94) ::
 (nat_lit 99,⟨.type "code",.none,.fields #[.str "_law_names" 298,.str "_law_names" 299,.str "/claim/cut.py" 300,.int 85 0,.int 1 0,.int 0 0,.int 0 0,.int 3 0,.ref 96,.bool Bool.true,.int 181 0,.ref 97,.none,.none,.none,.ref 98,.int 301 0,.int 85 0,.str "/claim/cut.py" 302], #[]⟩) ::
 (nat_lit 100,fn "_law_names" "_law_names" (top 17) "law_makes_k38_least_values" 244 99) ::
 (nat_lit 106,cd "_law_plain" 304 "_law_plain" 305 306 89 2 101 102 103 104 105 310 89 311) ::
 (nat_lit 107,fn "_law_plain" "_law_plain" (top 18) "law_makes_k38_least_values" 244 106) ::
 (nat_lit 113,cd "_law_default" 313 "_law_default" 314 315 94 2 108 109 110 111 112 318 94 319) ::
 (nat_lit 114,fn "_law_default" "_law_default" (top 19) "law_makes_k38_least_values" 244 113) ::
 (nat_lit 118,⟨.type "code",.none,.fields #[.str "_law_numbers" 321,.str "_law_numbers" 322,.str "/claim/cut.py" 323,.int 102 0,.int 1 0,.int 0 0,.int 0 0,.int 3 0,.ref 115,.bool Bool.true,.int 181 0,.ref 116,.none,.none,.none,.ref 117,.int 324 0,.int 102 0,.str "/claim/cut.py" 325], #[]⟩) ::
 (nat_lit 119,fn "_law_numbers" "_law_numbers" (top 20) "law_makes_k38_least_values" 244 118) ::
 (nat_lit 125,cd "_law_parts" 327 "_law_parts" 328 329 105 4 120 121 122 123 124 338 105 339) ::
 (nat_lit 126,fn "_law_parts" "_law_parts" (top 21) "law_makes_k38_least_values" 244 125) ::
 (nat_lit 130,⟨.type "code",.none,.fields #[.str "_law_struck" 341,.str "_law_struck" 342,.str "/claim/cut.py" 343,.int 114 0,.int 2 0,.int 0 0,.int 0 0,.int 3 0,.ref 127,.bool Bool.true,.int 181 0,.ref 128,.none,.none,.none,.ref 129,.int 344 0,.int 114 0,.str "/claim/cut.py" 345], #[]⟩) ::
 (nat_lit 131,fn "_law_struck" "_law_struck" (top 22) "law_makes_k38_least_values" 244 130) ::
 (nat_lit 135,⟨.type "code",.none,.fields #[.str "_law_make" 347,.str "_law_make" 348,.str "/claim/cut.py" 349,.int 117 0,.int 1 0,.int 0 0,.int 0 0,.int 3 0,.ref 132,.bool Bool.true,.int 181 0,.ref 133,.none,.none,.none,.ref 134,.int 350 0,.int 117 0,.str "/claim/cut.py" 351], #[]⟩) ::
 (nat_lit 136,fn "_law_make" "_law_make" (top 23) "law_makes_k38_least_values" 244 135) ::
 (nat_lit 142,cd "_law_number_turned" 353 "_law_number_turned" 354 355 135 4 137 138 139 140 141 360 135 361) ::
 (nat_lit 143,fn "_law_number_turned" "_law_number_turned" (top 24) "law_makes_k38_least_values" 244 142) ::
 (nat_lit 147,⟨.type "code",.none,.fields #[.str "_law_shape_turned" 363,.str "_law_shape_turned" 364,.str "/claim/cut.py" 365,.int 137 0,.int 3 0,.int 0 0,.int 0 0,.int 3 0,.ref 144,.bool Bool.true,.int 181 0,.ref 145,.none,.none,.none,.ref 146,.int 366 0,.int 137 0,.str "/claim/cut.py" 367], #[]⟩) ::
 (nat_lit 148,fn "_law_shape_turned" "_law_shape_turned" (top 25) "law_makes_k38_least_values" 244 147) ::
 (nat_lit 154,cd "_law_fixed" 369 "_law_fixed" 370 371 170 2 149 150 151 152 153 380 170 381) ::
 (nat_lit 155,fn "_law_fixed" "_law_fixed" (top 26) "law_makes_k38_least_values" 244 154) ::
 (nat_lit 161,cd "_law_turned" 383 "_law_turned" 384 385 188 2 156 157 158 159 160 392 188 393) ::
 (nat_lit 162,fn "_law_turned" "_law_turned" (top 27) "law_makes_k38_least_values" 244 161) ::
 (nat_lit 166,⟨.type "code",.none,.fields #[.str "_law_written" 395,.str "_law_written" 396,.str "/claim/cut.py" 397,.int 197 0,.int 3 0,.int 0 0,.int 0 0,.int 3 0,.ref 163,.bool Bool.true,.int 181 0,.ref 164,.none,.none,.none,.ref 165,.int 398 0,.int 197 0,.str "/claim/cut.py" 399], #[]⟩) ::
 (nat_lit 167,fn "_law_written" "_law_written" (top 28) "law_makes_k38_least_values" 244 166) ::
 (nat_lit 171,⟨.type "code",.none,.fields #[.str "_law_is_own" 401,.str "_law_is_own" 402,.str "/claim/cut.py" 403,.int 217 0,.int 3 0,.int 0 0,.int 0 0,.int 3 0,.ref 168,.bool Bool.true,.int 181 0,.ref 169,.none,.none,.none,.ref 170,.int 404 0,.int 217 0,.str "/claim/cut.py" 405], #[]⟩) ::
 (nat_lit 172,fn "_law_is_own" "_law_is_own" (top 29) "law_makes_k38_least_values" 244 171) ::
 (nat_lit 176,⟨.type "code",.none,.fields #[.str "_law_count" 407,.str "_law_count" 408,.str "/claim/cut.py" 409,.int 240 0,.int 1 0,.int 0 0,.int 0 0,.int 3 0,.ref 173,.bool Bool.true,.int 181 0,.ref 174,.none,.none,.none,.ref 175,.int 410 0,.int 240 0,.str "/claim/cut.py" 411], #[]⟩) ::
 (nat_lit 177,fn "_law_count" "_law_count" (top 30) "law_makes_k38_least_values" 244 176) ::
 (nat_lit 183,cd "_law_right" 413 "_law_right" 414 415 247 1 178 179 180 181 182 420 247 421) ::
 (nat_lit 184,fn "_law_right" "_law_right" (top 31) "law_makes_k38_least_values" 244 183) ::
 (nat_lit 190,cd "law" 423 "law" 424 425 257 1 185 186 187 188 189 430 257 431) ::
 (nat_lit 191,fn "law" "law" (top 32) "law_makes_k38_least_values" 244 190) ::
 []
noncomputable def heapK:Params->W.Frag:=λP=>(nat_lit 164,⟨.none,none,.fields #[], #[]⟩)::L0 P
theorem ff(P:Params):(L0 P).lookup 164=none:=by kernel_rfl
noncomputable def asK:ZU:=[164,4,3,20,21,27,28,34,35,39,40,46,47,51,52,56,57,63,64,70,71,75,76,82,83,89,90,94,95,99,100,106,107,113,114,118,119,125,126,130,131,135,136,142,143,147,148,154,155,161,162,166,167,171,172,176,177,183,184,190,191]
theorem Fp(P:Params):asK=(heapK P).map (·.1):=by kernel_rfl
noncomputable abbrev Dk:W.Hook:=W.kHook heapK asK Fp
noncomputable abbrev xtK(s:Shared):Bool:=W.xlAt viewK [] s&&W.recOk (W.RowW.records PySem.Challenge.rw_makes_k38_least_values.row.toRowW) s
abbrev K2(w:World):Prop:=(W.openEnds treeTable PySem.Challenge.pw_makes_k38_least_values w 1898).map (λs=>(W.openSeen viewK Ym (importedModules PySem.Challenge.pw_makes_k38_least_values.main.body) xtK true s,Dk.obs s))=some (W.openGood viewK Ym,Dk.val w)
abbrev Vd(s:Shared):=W.openSeen viewK Ym (importedModules PySem.Challenge.pw_makes_k38_least_values.main.body) xtK true s
abbrev wK(w:World)(b:Bool):World:=w.withFollow "special-get-raises" b
theorem chkF(w:World)(os:OsState):((L2.Rj PySem.Challenge.pw_makes_k38_least_values 1898 (wK w false) os).map λs=>L2.cq PySem.Challenge.pw_makes_k38_least_values (wK w false) s.abs)=some true:=by kernel_rfl
theorem chkR(w:World)(os:OsState):((L2.Rj PySem.Challenge.pw_makes_k38_least_values 1898 (wK w true) os).map λs=>L2.cq PySem.Challenge.pw_makes_k38_least_values (wK w true) s.abs)=some true:=by kernel_rfl
theorem seenF1(w:World)(os:OsState):((L2.Rj PySem.Challenge.pw_makes_k38_least_values 1898 (wK w false) os).map λs=>(Vd s.abs).1)=some (W.openGood viewK Ym).1:=by kernel_rfl
theorem seenF2(w:World)(os:OsState):((L2.Rj PySem.Challenge.pw_makes_k38_least_values 1898 (wK w false) os).map λs=>(Vd s.abs).2.1)=some (W.openGood viewK Ym).2.1:=by kernel_rfl
theorem seenF3(w:World)(os:OsState):((L2.Rj PySem.Challenge.pw_makes_k38_least_values 1898 (wK w false) os).map λs=>(Vd s.abs).2.2)=some (W.openGood viewK Ym).2.2:=by kernel_rfl
theorem seenT1(w:World)(os:OsState):((L2.Rj PySem.Challenge.pw_makes_k38_least_values 1898 (wK w true) os).map λs=>(Vd s.abs).1)=some (W.openGood viewK Ym).1:=by kernel_rfl
theorem seenT2(w:World)(os:OsState):((L2.Rj PySem.Challenge.pw_makes_k38_least_values 1898 (wK w true) os).map λs=>(Vd s.abs).2.1)=some (W.openGood viewK Ym).2.1:=by kernel_rfl
theorem seenT3(w:World)(os:OsState):((L2.Rj PySem.Challenge.pw_makes_k38_least_values 1898 (wK w true) os).map λs=>(Vd s.abs).2.2)=some (W.openGood viewK Ym).2.2:=by kernel_rfl
theorem Ho{w:World}{os:OsState}(h1:((L2.Rj PySem.Challenge.pw_makes_k38_least_values 1898 w os).map λs=>(Vd s.abs).1)=some (W.openGood viewK Ym).1)(h2:((L2.Rj PySem.Challenge.pw_makes_k38_least_values 1898 w os).map λs=>(Vd s.abs).2.1)=some (W.openGood viewK Ym).2.1)
  (h3:((L2.Rj PySem.Challenge.pw_makes_k38_least_values 1898 w os).map λs=>(Vd s.abs).2.2)=some (W.openGood viewK Ym).2.2):((L2.Rj PySem.Challenge.pw_makes_k38_least_values 1898 w os).map λs=>Vd s.abs)=some (W.openGood viewK Ym):=by
 obtain⟨s,e,c1⟩:=L2.Gu (f:=λs=>(Vd s).1) h1;obtain⟨s2,e2,c2⟩:=L2.Gu (f:=λs=>(Vd s).2.1) h2;obtain⟨s3,e3,c3⟩:=L2.Gu (f:=λs=>(Vd s).2.2) h3;rw[e]at e2 e3;cases e2;cases e3;rw[e];exact congrArg some (Prod.ext c1 (Prod.ext c2 c3))
theorem seenF(w:World)(os:OsState):((L2.Rj PySem.Challenge.pw_makes_k38_least_values 1898 (wK w false) os).map λs=>Vd s.abs)=some (W.openGood viewK Ym):=Ho (seenF1 w os) (seenF2 w os) (seenF3 w os)
theorem seenT(w:World)(os:OsState):((L2.Rj PySem.Challenge.pw_makes_k38_least_values 1898 (wK w true) os).map λs=>Vd s.abs)=some (W.openGood viewK Ym):=Ho (seenT1 w os) (seenT2 w os) (seenT3 w os)
theorem obsF(w:World)(os:OsState):((L2.Rj PySem.Challenge.pw_makes_k38_least_values 1898 (wK w false) os).map λs=>Dk.obs s.abs)=some (Dk.val (wK w false)):=by kernel_rfl
theorem obsT(w:World)(os:OsState):((L2.Rj PySem.Challenge.pw_makes_k38_least_values 1898 (wK w true) os).map λs=>Dk.obs s.abs)=some (Dk.val (wK w true)):=by kernel_rfl
theorem A4(w:World)(h1:∀os,((L2.Rj PySem.Challenge.pw_makes_k38_least_values 1898 w os).map λs=>L2.cq PySem.Challenge.pw_makes_k38_least_values w s.abs)=some true)(h2:∀os,((L2.Rj PySem.Challenge.pw_makes_k38_least_values 1898 w os).map λs=>Vd s.abs)=some (W.openGood viewK Ym))(h3:∀os,((L2.Rj PySem.Challenge.pw_makes_k38_least_values 1898 w os).map λs=>Dk.obs s.abs)=some (Dk.val w)):K2 w:=by
 obtain⟨⟨hp,g,d,k,os⟩,hs,hv⟩:=Yx.mp (W.boot_open (p:=PySem.Challenge.pw_makes_k38_least_values) (N:=1898) rfl XA (λs=>rfl) w);simp only[Prod.mk.injEq]at hv;obtain⟨rfl,rfl,rfl,rfl⟩:=hv;show Option.map _ (Option.bind (W.fencedOpening treeTable PySem.Challenge.pw_makes_k38_least_values w 1898) (W.topFrom treeTable PySem.Challenge.pw_makes_k38_least_values w 1898))=_;rw[hs];exact L2.top_of (h1 os) (h2 os) (h3 os)
theorem leftF(w:World):K2 (w.withFollow "special-get-raises" false):=A4 _ (chkF w) (seenF w) (obsF w)
theorem leftT(w:World):K2 (w.withFollow "special-get-raises" true):=A4 _ (chkR w) (seenT w) (obsT w)
theorem leftK:W.LeftO PySem.Challenge.pw_makes_k38_least_values viewK Ym xtK Dk.obs Dk.val 1898:=W.byRow2 "special-get-raises" leftF leftT
end K38
namespace L2
open PySem PySem.Spec PyProof.Rows
abbrev Key:=Sum Int Str
noncomputable def Bv:Key->Value->Bool
 | .inl k,v=>Value.isInt k v
 | .inr x,v=>Value.isStrOf x v
def keyH(w:World):Key->Int
 | .inl k=>hashInt k
 | .inr x=>hashStr w x
theorem Zi:∀{k:Key} {v:Value},Bv k v=true->(∃i t,k=Sum.inl i/\v=Value.int i t)\/(∃x t,k=Sum.inr x/\v=Value.str x t)
 | .inl i,v,h=>by
  obtain⟨t,e⟩:=Value.isInt_shape (k:=i) (v:=v) h;exact .inl ⟨i,t,rfl,e⟩
 | .inr x,v,h=>by
  obtain⟨t,e⟩:=Value.isStrOf_shape (x:=x) (v:=v) h;exact .inr ⟨x,t,rfl,e⟩
theorem zi(i:Int)(t:Tok):Bv (.inl i) (.int i t)=true:=by simp[Bv,Value.isInt]
theorem zu(x:Str)(t:Tok):Bv (.inr x) (.str x t)=true:=by simp[Bv,Value.isStrOf]
theorem key_ll(a b:Int):decide ((Sum.inl a:Key)=Sum.inl b)=(a==b):=by
 by_cases e:a=b
 .subst e;simp
 .have h:¬ (Sum.inl a:Key)=Sum.inl b:=λq=>e (Sum.inl.inj q);rw[Gr h];exact(qd.mpr e).symm
theorem key_rr(a b:Str):decide ((Sum.inr a:Key)=Sum.inr b)=decide (a=b):=by
 by_cases e:a=b
 .subst e;simp
 .have h:¬ (Sum.inr a:Key)=Sum.inr b:=λq=>e (Sum.inr.inj q);rw[Gr h,Gr e]
theorem key_lr(a:Int)(b:Str):decide ((Sum.inl a:Key)=Sum.inr b)=false:=Gr (λq=>nomatch q)
theorem key_rl(a:Str)(b:Int):decide ((Sum.inr a:Key)=Sum.inl b)=false:=Gr (λq=>nomatch q)
noncomputable def Zd(prog:Program)(w:World):PySem.KeyKind prog w Key where
 is:=Bv
 hash:=keyH w
 inj:=λv a b ha hb=>by
  rcases Zi ha with ⟨i,t,rfl,rfl⟩ | ⟨x,t,rfl,rfl⟩
  .rcases Zi hb with ⟨j,u,rfl,e⟩ | ⟨y,u,rfl,e⟩
   .injection e with e1 _;rw[e1]
   .exact nomatch e
  .rcases Zi hb with ⟨j,u,rfl,e⟩ | ⟨y,u,rfl,e⟩
   .exact nomatch e
   .injection e with e1 _;rw[e1]
 byValue:=λk v h=>by
  rcases Zi h with ⟨i,t,rfl,rfl⟩ | ⟨x,t,rfl,rfl⟩<;>rfl
 pyHash:=λhv h=>by
  rcases Zi hv with ⟨i,t,rfl,rfl⟩ | ⟨x,t,rfl,rfl⟩
  .exact wpAny_pyHash_int h
  .exact wpAny_pyHash_str h
 eqBool:=λhu hv h=>by
  rcases Zi hu with ⟨i,t,rfl,rfl⟩ | ⟨x,t,rfl,rfl⟩
  .rcases Zi hv with ⟨j,u,rfl,rfl⟩ | ⟨y,u,rfl,rfl⟩
   .rw[key_ll]at h;exact wpAny_eqBool_int h
   .rw[key_lr]at h;exact SeqAt.EqAt.int_str i t y u _ _ _ _ h
  .rcases Zi hv with ⟨j,u,rfl,rfl⟩ | ⟨y,u,rfl,rfl⟩
   .rw[key_rl]at h;exact SeqAt.EqAt.str_int x t j u _ _ _ _ h
   .rw[key_rr]at h;exact wpAny_eqBool_str h
 «strs»:=λk x t v h=>by
  rcases Zi h with ⟨i,u,rfl,e⟩ | ⟨y,u,rfl,e⟩
  .exact nomatch e
  .injection e with e1 _
   subst e1;cases v<;>rfl
theorem Pb(prog:Program)(w:World)(i:Int)(t:Tok):(Zd prog w).is (.inl i) (.int i t)=true:=zi i t
theorem Pf(prog:Program)(w:World)(x:Str)(t:Tok):(Zd prog w).is (.inr x) (.str x t)=true:=zu x t
inductive V where
 | non | bl(b:Bool) | int(i:Int) | str(x:Str) | byt(b:Array UInt8) | flt(b:UInt64) | ref(a:Addr) | ty(n:String)
 deriving DecidableEq
abbrev ZQ:=List V
abbrev ZJ:=List (Option V)
def RelV:V->Value->Prop
 | .non,u=>u=Value.none
 | .bl b,u=>u=Value.bool b
 | .int i,u=>∃t,u=Value.int i t
 | .str x,u=>∃t,u=Value.str x t
 | .byt b,u=>∃t,u=Value.bytes b t
 | .flt b,u=>∃t,u=Value.float b t
 | .ref a,u=>u=Value.ref a
 | .ty n,u=>u=Value.type n
abbrev Zf:ZQ->ZM->Prop:=Paired RelV
theorem Zf.length{xs:ZQ}{us:ZM}(r:Zf xs us):xs.length=us.length:=Paired.length r
theorem Zf.get:∀{xs:ZQ} {us:ZM} {i:Nat} {x:V},Zf xs us->xs[i]?=some x->∃u,us[i]?=some u/\RelV x u
 | _,_,_,_,.nil,e=>by simp at e
 | _,_,0,_,.cons r _,e=>by simp at e;subst e;exact⟨_,rfl,r⟩
 | _,_,i+1,x,.cons _ t,e=>by
  obtain⟨u,h1,h2⟩:=Zf.get (i:=i) (x:=x) t (by simpa using e);exact⟨u,by simpa using h1,h2⟩
theorem Zf.set{x:V}{u:Value}(r:RelV x u):∀{xs:ZQ} {us:ZM} (i:Nat),Zf xs us->Zf (xs.set i x) (us.set i u)
 | _,_,_,.nil=>.nil
 | _,_,0,.cons _ t=>.cons r t
 | _,_,i+1,.cons q t=>.cons q (Zf.set r i t)
theorem Zf.append:∀{xs ys:ZQ} {us ws:ZM},Zf xs us->Zf ys ws->Zf (xs++ys) (us++ws)
 | _,_,_,_,.nil,s=>s
 | _,_,_,_,.cons r t,s=>.cons r (Zf.append t s)
theorem Zf.take:∀{xs:ZQ} {us:ZM} (n:Nat),Zf xs us->Zf (xs.take n) (us.take n)
 | _,_,0,_=>.nil
 | _,_,_+1,.nil=>.nil
 | _,_,n+1,.cons r t=>.cons r (Zf.take n t)
theorem Zf.drop:∀{xs:ZQ} {us:ZM} (n:Nat),Zf xs us->Zf (xs.drop n) (us.drop n)
 | _,_,0,r=>r
 | _,_,_+1,.nil=>.nil
 | _,_,n+1,.cons _ t=>Zf.drop n t
def N7:Option V->ZT->Prop
 | some v,some u=>RelV v u
 | none,none=>True
 | _,_=>False
def KV{Z:Type}:List (Z×V)->List (Z×Value)->Prop:=Paired λ(p:Z×V) (q:Z×Value)=>p.1=q.1/\RelV p.2 q.2
def kV:Key->V
 | .inl i=>.int i
 | .inr x=>.str x
inductive HO where
 | lst(xs:ZQ)
 | tup (xs:ZQ)
 | dK (XD:List (Key×V)) | dT (XD:List (List Key×V))
 | set (S:Int->Bool) (n:Nat)
 | ins (C dx:Addr) (fs:List (Str×V))
 | own (x:Addr)
 | xd (fs:List (Str×V))
 | met (f x:Addr)
 | rng (lo hi:Int)
 | frz (o:Obj) (u:HO)
 | tbl (ps:ZN)
 | ext (φ:Heap->Prop)
abbrev Hp:=Addr->Option HO
def upd(H:Hp)(a:Addr)(o:HO):Hp:=λb=>if b=a then some o else H b
theorem Zx{H:Hp}{a:Addr}{o:HO}:upd H a o a=some o:=by unfold upd;rw[if_pos rfl]
theorem Zz{H:Hp}{a b:Addr}{o:HO}(h:b≠a):upd H a o b=H b:=by unfold upd;rw[if_neg h]
theorem ne_of{H:Hp}{a b:Addr}{o u:HO}(h:H a=some o)(h':H b=some u)(d:o≠u):a≠b:=by
 intro e;subst e;rw[h]at h';exact d (Je h')
theorem Z1{H:Hp}{a b:Addr}{o:HO}(h:H a=some o)(h':H b=none):a≠b:=by
 intro e;subst e;rw[h]at h';cases h'
section
variable(P:Program)(w:World)
def C7(h:Heap)(a:Addr)(XT:ZN):Prop:=∃o,h.get? a=some o/\o.cls=.type "tuple" /\ (∃n,o.data=.seq XT n)/\o.dict=none
theorem C7.tup{h:Heap}{a:Addr}{XT:ZN}(x:C7 h a XT):IsTup h a XT:=let ⟨o,e,c,d,_⟩:=x;⟨o,e,c,d⟩
theorem C7.lt{h:Heap}{a:Addr}{XT:ZN}(x:C7 h a XT):a<h.objs.size:=x.tup.lt
theorem C7.new(h:Heap)(XT:ZN):C7 (h.push { cls:=.type "tuple",data:=.seq XT }) h.objs.size XT:=⟨_,Ur _ rfl,rfl,⟨_,rfl⟩,rfl⟩
def Zp(H:Hp)(h:Heap)(a:Addr):HO->Prop
 | .lst xs=>xs.length<=sizeLine/\∃(XT:ZM) (n:Nat),Zf xs XT/\h.get? a=some { cls:=.type "list",data:=.seq XT.toArray n }
 | .tup xs=>xs.length<=sizeLine/\∃XT:ZM,Zf xs XT/\C7 h a XT.toArray
 | .dK XD=>XD.length<=sizeLine/\(a==sysModules)=false/\∃vs,KV XD vs/\h.DictOf (Zd P w) a vs
 | .dT XD=>XD.length<=sizeLine/\(a==sysModules)=false/\∃xs:List (List Key×Addr×Value),
   Paired (λ(p:List Key×V) (q:List Key×Addr×Value)=>p.1=q.1/\H q.2.1=some (.tup (p.1.map kV))/\RelV p.2 q.2.2) XD xs /\
   ∃o es ep,h.get? a=some o/\o.ExactDict/\o.data=.dict es ep/\es.toList=xs.map (entryOfKey (tupleKind (Zd P w)))/\(xs.map (·.1)).Nodup
 | .set S n=>h.SetOf (intKind P w) a S n
 | .ins C dx fs=>H dx=some (.own a)/\fs.length<=1000/\dx≠a/\h.get? a=some (W.instObj C dx) /\
   ∃mA,h.Ns1 dx mA/\(∀f,N7 (fs.lookup f) (mA f))/\PySem.Within mA (fs.map (·.1))
 | .own _=>∃o,h.get? a=some o
 | .xd fs=>∃mA,h.Ns1 a mA/\∀f,N7 (fs.lookup f) (mA f)
 | .rng lo hi=>∃t u v,h.get? a=some { cls:=.type "range",data:=.fields #[.int lo t,.int hi u,.int 1 v] }
 | .frz o u=>h.get? a=some o/\Zp H h a u
 | .tbl ps=>h.get? a=some { cls:=.none,data:=.fields ps }
 | .met f x=>h.get? a=some (W.methodObj (.ref f) (.ref x))
 | .ext φ=>φ h/\(∃o,h.get? a=some o)/\∀h1 h2:Heap,φ h1->(∀o,h1.get? a=some o->h2.get? a=some o)->φ h2
def D3(H:Hp)(h:Heap):Prop:=∀a o,H a=some o->Zp P w H h a o
end
section
variable{P:Program}{w:World}{H H':Hp}{h h':Heap}{a:Addr}{o:HO}
theorem Zp.lt(x:Zp P w H h a o):a<h.objs.size:=by
 cases o with
 | lst xs=>obtain⟨_,_,_,_,e⟩:=x;exact Ye e
 | tup xs=>obtain⟨_,_,_,p⟩:=x;exact p.lt
 | dK XD=>obtain⟨_,_,_,_,o,_,_,e,_⟩:=x;exact Ye e
 | dT XD=>obtain⟨_,_,_,_,o,_,_,e,_⟩:=x;exact Ye e
 | set S n=>obtain⟨o,_,_,_,e,_⟩:=x;exact Ye e
 | ins C dx fs=>obtain⟨_,_,_,e,_⟩:=x;exact Ye e
 | own y=>obtain⟨_,e⟩:=x;exact Ye e
 | xd fs=>obtain⟨_,⟨_,_,_,e,_⟩,_⟩:=x;exact Ye e
 | rng lo hi=>obtain⟨_,_,_,e⟩:=x;exact Ye e
 | frz ob u=>obtain⟨e,_⟩:=x;exact Ye e
 | tbl ps=>exact Ye (show h.get? a=some _ from x)
 | met f y=>exact Ye (show h.get? a=some _ from x)
 | ext φ=>obtain⟨_,⟨_,e⟩,_⟩:=x;exact Ye e
theorem Paired.mapP{Z U:Type}{F G:Z->U->Prop}:∀{l₁:List Z} {l₂:List U},Paired F l₁ l₂->(∀a b,F a b->G a b)->Paired G l₁ l₂
 | _,_,.nil,_=>.nil
 | _,_,.cons r t,f=>.cons (f _ _ r) (Paired.mapP t f)
theorem Zp.stay(x:Zp P w H h a o)(k:∀b u,(b=a\/H b=some (.own a))->h.get? b=some u->h'.get? b=some u)
  (ho:∀b,H b=some (.own a)->H' b=some (.own a)) (ht:∀b xs,H b=some (.tup xs)->H' b=some (.tup xs)):Zp P w H' h' a o:=by
 induction o with
 | lst xs=>obtain⟨z,XT,n,r,e⟩:=x;exact⟨z,XT,n,r,k _ _ (.inl rfl) e⟩
 | tup xs=>obtain⟨z,XT,r,ob,e,c⟩:=x;exact⟨z,XT,r,ob,k _ _ (.inl rfl) e,c⟩
 | dK XD=>obtain⟨z,y,vs,r,ob,es,ep,e,c⟩:=x;exact⟨z,y,vs,r,ob,es,ep,k _ _ (.inl rfl) e,c⟩
 | dT XD =>
  obtain⟨z,y,xs,r,ob,es,ep,e,c⟩:=x;exact⟨z,y,xs,Paired.mapP r λp q z=>⟨z.1,ht _ _ z.2.1,z.2.2⟩,ob,es,ep,k _ _ (.inl rfl) e,c⟩
 | set S n=>obtain⟨ob,es,ep,t,e,c⟩:=x;exact⟨ob,es,ep,t,k _ _ (.inl rfl) e,c⟩
 | ins C dx fs =>
  obtain⟨d,z,ne,e,mA,⟨od,es,ep,e2,c⟩,r⟩:=x;exact⟨ho _ d,z,ne,k _ _ (.inl rfl) e,mA,⟨od,es,ep,k _ _ (.inr d) e2,c⟩,r⟩
 | own y=>obtain⟨ob,e⟩:=x;exact⟨ob,k _ _ (.inl rfl) e⟩
 | xd fs=>obtain⟨mA,⟨od,es,ep,e,c⟩,r⟩:=x;exact⟨mA,⟨od,es,ep,k _ _ (.inl rfl) e,c⟩,r⟩
 | rng lo hi=>obtain⟨t,u,v,e⟩:=x;exact⟨t,u,v,k _ _ (.inl rfl) e⟩
 | frz ob u ih=>obtain⟨e,q⟩:=x;exact⟨k _ _ (.inl rfl) e,ih q⟩
 | tbl ps =>
  have e:h.get? a=some { cls:=.none,data:=.fields ps }:=x;show h'.get? a=some { cls:=.none,data:=.fields ps };exact k a _ (.inl rfl) e
 | met f y =>
  have e:h.get? a=some (W.methodObj (.ref f) (.ref y)):=x;show h'.get? a=some (W.methodObj (.ref f) (.ref y));exact k a _ (.inl rfl) e
 | ext φ=>obtain⟨p,⟨o,e⟩,st⟩:=x;exact⟨st _ _ p λo q=>k _ _ (.inl rfl) q,⟨o,k _ _ (.inl rfl) e⟩,st⟩
theorem D3.lt(x:D3 P w H h)(e:H a=some o):a<h.objs.size:=(x a o e).lt
theorem D3.fresh(x:D3 P w H h)(e:h.objs.size<=a):H a=none:=by
 cases q:H a with
 | none=>rfl
 | some u=>exact absurd (Rv (x.lt q) e) (Nat.lt_irrefl _)
theorem D3.kept(x:D3 P w H h)(k:∀b u,h.get? b=some u->h'.get? b=some u):D3 P w H h':=λa o e =>
 (x a o e).stay (λb u _ q=>k b u q) (λ_ q=>q) λ_ _ q=>q
theorem D3.laid(x:D3 P w H h)(k:∀b u,h.get? b=some u->h'.get? b=some u)(hp:h.objs.size<=a)(new:Zp P w (upd H a o) h' a o):D3 P w (upd H a o) h':=λb u e=>by
 have hn:=x.fresh hp;by_cases hb:b=a
 .subst hb;rw[Zx]at e;cases e;exact new
 .rw[Zz hb]at e;exact(x b u e).stay (λc v _ q=>k c v q) (λc q=>by rw[Zz (Z1 q hn)];exact q) λc xs q=>by rw[Zz (Z1 q hn)];exact q
end
def Rd(H:Hp)(a:Addr)(u:HO):Prop:=H a=some u\/∃o,H a=some (.frz o u)
theorem Rd.of{H:Hp}{a:Addr}{u:HO}(h:H a=some u):Rd H a u:=.inl h
theorem Rd.ok{P:Program}{w:World}{H:Hp}{h:Heap}{a:Addr}{u:HO}(r:Rd H a u)(x:D3 P w H h):Zp P w H h a u:=by
 rcases r with r | ⟨o,r⟩
 .exact x a u r
 .obtain⟨_,q⟩:=x a _ r;exact q
def Mut:Option HO->Prop
 | some (.lst _)=>True
 | some (.dK _)=>True
 | some (.dT _)=>True
 | some (.set _ _)=>True
 | some (.ins _ _ _)=>True
 | some (.ext _)=>True
 | _=>False
section
variable{P:Program}{w:World}{H:Hp}{h h':Heap}{x e:Addr}{o':HO}
theorem D3.write(ok:D3 P w H h)(mu:Mut (H x))(he:e=x\/H e=some (.own x))(k:∀b u,b≠e->h.get? b=some u->h'.get? b=some u)(heo:∃u,h'.get? e=some u)
  (new:Zp P w (upd H x o') h' x o'):D3 P w (upd H x o') h':=λb u q=>by
 have nown:∀c y,H c=some (.own y)->c≠x:=λc y r z=>by subst z;rw[r]at mu;exact mu
 have ntup:∀c xs,H c=some (.tup xs)->c≠x:=λc xs r z=>by subst z;rw[r]at mu;exact mu
 by_cases hb:b=x
 .subst hb;rw[Zx]at q;cases q;exact new
 .rw[Zz hb]at q;by_cases hbe:b=e
  .have q':H b=some (.own x):=by
    rcases he with z | z
    .exact absurd (hbe.trans z) hb
    .rw[hbe];exact z
   rw[q]at q';cases q';obtain⟨v,hv⟩:=heo;exact⟨v,by rw[hbe];exact hv⟩
  .refine(ok b u q).stay (λc v hc r=>k c v ?_ r) (λc r=>by rw[Zz (nown c b r)];exact r) λc xs r=>by rw[Zz (ntup c xs r)];exact r
   rcases hc with rfl | hc
   .exact hbe
   .rintro rfl;rcases he with z | z
    .exact nown c b hc z
    .rw[hc]at z;cases z;exact hb rfl
end
structure Un(fs ex:ZU)(H H':Hp)(h h':Heap):Prop where
 keep:∀b o,h.get? b=some o->H b=none->b∉fs->b∉ex->h'.get? b=some o
 slot:∀b o,h.get? b=some o->H b=none->b∈fs->b∉ex->∃sl,h'.get? b=some { o with slots:=sl }
 free:∀b o,h.get? b=some o->H b=none->b∉ex->H' b=none
 there:∀b o,h.get? b=some o->b∉ex->∃o',h'.get? b=some o'
 tups:∀b xs,H b=some (.tup xs)->H' b=some (.tup xs)
 frzs:∀b o u,H b=some (.frz o u)->H' b=some (.frz o u)
 tbls:∀b ps,H b=some (.tbl ps)->∃more,H' b=some (.tbl (ps++more))
section
variable{fs fs' ex ex':ZU}{H H1 H2:Hp}{h h1 h2 h':Heap}{a x e:Addr}{o:HO}
theorem Un.any(u:Un fs ex H H1 h h1){b:Addr}{ob:Obj}(q:h.get? b=some ob)(n:H b=none)(hx:b∉ex):∃sl,h1.get? b=some { ob with slots:=sl }:=by
 by_cases hb:b∈fs
 .exact u.slot b ob q n hb hx
 .exact⟨ob.slots,u.keep b ob q n hb hx⟩
theorem Un.trans(a:Un fs ex H H1 h h1)(b:Un fs ex H1 H2 h1 h2):Un fs ex H H2 h h2 where
 keep:=λc ob q n hc hx=>b.keep c ob (a.keep c ob q n hc hx) (a.free c ob q n hx) hc hx
 slot:=λc ob q n hc hx=>by
  obtain⟨sl,e1⟩:=a.slot c ob q n hc hx;obtain⟨sl',e2⟩:=b.slot c _ e1 (a.free c ob q n hx) hc hx;exact⟨sl',e2⟩
 free:=λc ob q n hx=>by
  obtain⟨o',e1⟩:=a.there c ob q hx;exact b.free c o' e1 (a.free c ob q n hx) hx
 there:=λc ob q hx=>by
  obtain⟨o',e1⟩:=a.there c ob q hx;exact b.there c o' e1 hx
 tups:=λc xs q=>b.tups c xs (a.tups c xs q)
 frzs:=λc ob xs q=>b.frzs c ob xs (a.frzs c ob xs q)
 tbls:=λc ps q=>by
  obtain⟨m1,e1⟩:=a.tbls c ps q;obtain⟨m2,e2⟩:=b.tbls c _ e1;exact⟨m1++m2,by rw[e2,Array.append_assoc]⟩
theorem Un.kept(k:∀b u,h.get? b=some u->h'.get? b=some u):Un fs ex H H h h' :=
 ⟨λb ob q _ _ _=>k b ob q,λb ob q _ _ _=>⟨ob.slots,k b ob q⟩,λ_ _ _ n _=>n,λb ob q _=>⟨ob,k b ob q⟩,λ_ _ q=>q,λ_ _ _ q=>q,λ_ ps q=>⟨#[],by rw[q];simp⟩⟩
theorem Un.refl:Un fs ex H H h h:=Un.kept λ_ _ q=>q
theorem Un.laid(k:∀b u,h.get? b=some u->h'.get? b=some u)(hp:h.objs.size<=a)(hn:H a=none):Un fs ex H (upd H a o) h h' where
 keep:=λb u q _ _ _=>k b u q
 slot:=λb u q _ _ _=>⟨u.slots,k b u q⟩
 free:=λb u q n _=>by rw[Zz (Dz (Rv (Ye q) hp))];exact n
 there:=λb u q _=>⟨u,k b u q⟩
 tups:=λb xs q=>by rw[Zz (Z1 q hn)];exact q
 frzs:=λb u xs q=>by rw[Zz (Z1 q hn)];exact q
 tbls:=λb ps q=>⟨#[],by rw[Zz (Z1 q hn),q];simp⟩
theorem Un.write(mu:Mut (H x))(he:e=x\/H e=some (.own x))(k:∀b u,b≠e->h.get? b=some u->h'.get? b=some u)(heo:∃u,h'.get? e=some u):Un fs ex H (upd H x o) h h':=by
 have hx:∀b,H b=none->b≠x:=λb n z=>by subst z;rw[n]at mu;exact mu
 have hb:∀b,H b=none->b≠e:=λb n z=>by
  subst z;rcases he with r | r
  .exact hx b n r
  .rw[n]at r;cases r
 have hm:∀b u,H b=some u->¬ Mut (some u)->b≠x:=λb u q nm z=>by subst z;rw[q]at mu;exact nm mu
 refine⟨λb u q n _ _=>k b u (hb b n) q,λb u q n _ _=>⟨u.slots,k b u (hb b n) q⟩,λb u q n _=>by rw[Zz (hx b n)];exact n,λb u q _=>?_,
  λb xs q=>by rw[Zz (hm b _ q λz=>z)];exact q,λb u xs q=>by rw[Zz (hm b _ q λz=>z)];exact q,λb ps q=>⟨#[],by rw[Zz (hm b _ q λz=>z),q];simp⟩⟩
 by_cases hbe:b=e
 .subst hbe;exact heo
 .exact⟨u,k b u hbe q⟩
end
noncomputable def trk(h:Heap)(H:Hp):ZU:=(List.range h.objs.size).filter λa=>(H a).isSome
def Po(h:Heap)(H:Hp):Heap:=W.hideAll h (trk h H)
theorem xw(h:Heap)(H:Hp):(Po h H).objs.size=h.objs.size:=W.hideAll_size _ _
theorem Pa{h:Heap}{H:Hp}{b:Addr}{o:Obj}(e:h.get? b=some o)(n:H b=none):(Po h H).get? b=some o :=
 W.hideAll_get _ e λhm=>by
  have q:(H b).isSome=true:=(List.mem_filter.mp hm).2;rw[n]at q;simp at q
theorem iq{h:Heap}{H:Hp}{b:Addr}{o:Obj}(e:(Po h H).get? b=some o):h.get? b=some o/\H b=none:=by
 have e':h.get? b=some o:=W.of_hideAll (trk h H) e;refine⟨e',?_⟩;cases q:H b with
 | none=>rfl
 | some x =>
  have hm:b∈trk h H:=List.mem_filter.mpr ⟨List.mem_range.mpr (Ye e'),by simp[q]⟩;have z:(Po h H).get? b=none:=W.hideAll_none (trk h H) hm;rw[z]at e;cases e
structure Mod(K:W.Frag)(mg:ZV)(base:Heap):Prop where
 kin:K.In base
 glob:base.Ns mainGlobals mg
 blt:∃mb,base.Ns builtinsNs mb/\∀x:Str,x ≠ "__name__" -> mb x=bootBuiltins x
 nolimit:base.NoLimit
structure Cx where
 prog:Program
 w:World
 K:W.Frag
 mg:ZV
 base:Heap
 A:Around
 N:ZD
 s₀:Shared
 H₀:Hp
 env:Env
 outer:List Env
 stack:List Env
 ex:ZU
 fn:Str->Bool
 calm:Bool
 pn:ZY
 xe:ZW
noncomputable def frs(l:List Env):ZU:=l.filterMap (·.frame)
abbrev Cx.fs(X:Cx):ZU:=frs X.outer
def Vis(sc:Scope)(x:Str):Prop:=sc.names.lookup x=some .local\/sc.names.lookup x=some .cell\/sc.names.lookup x=some .free
def Loc(sc:Scope)(x:Str):Prop:=sc.names.lookup x=some .local\/sc.names.lookup x=some .cell
def Look(env:Env)(h:Heap)(m:ZV)(x:Str)(u:Value):Prop :=
 (env.kindOf x=some .local/\m x=some u)\/((env.kindOf x=some .cell\/env.kindOf x=some .free)/\∃c,env.cells.lookup x=some c/\h.IsCell c (some u))
structure Cx.Ok(X:Cx):Prop where
 mod:Mod X.K X.mg X.base
 kind:X.env.scope.kind=.function
 glob:X.env.globals=mainGlobals
 blt:X.env.builtins=builtinsNs
 above:X.s₀.heap.objs.size<=X.env.locals
 inj:∀x y c,X.env.cells.lookup x=some c->X.env.cells.lookup y=some c->x=y
 has:∀x,(X.env.kindOf x=some .cell\/X.env.kindOf x=some .free)->∃c,X.env.cells.lookup x=some c
 cab:∀x c,X.fn x=true->X.env.cells.lookup x=some c->X.s₀.heap.objs.size<=c
 hd:X.calm=true->X.A.handled=none
 frames:X.A.frames=some X.stack
 stk:X.stack=X.outer\/(X.stack=X.env::X.outer/\X.env.frame=some X.env.locals)
 exf:∀b∈X.ex,b≠X.env.locals/\∀x c,X.env.cells.lookup x=some c->c≠b
 bs:∀b o,X.base.get? b=some o->X.s₀.heap.get? b=some o/\X.H₀ b=none
 bsz:X.base.objs.size<=X.s₀.heap.objs.size
 noex:∀b o,X.base.get? b=some o->b∉X.ex
 exfs:∀b∈X.ex,b∉X.fs
 funs:X.s₀.heap.FunFrames X.base X.outer
 frf:∀b∈X.fs,X.H₀ b=none
structure Inv(X:Cx)(XM:ZY)(Z:ZJ)(H:Hp)(s:Shared):Prop where
 ok:X.Ok
 os:s.os=X.s₀.os
 bare:AllBare s.gens
 base:Un X.fs X.ex X.H₀ H X.s₀.heap s.heap
 loc:∃m,s.heap.Ns X.env.locals m/\∀(i:Nat) (x:Str) (v:V),X.N[i]?=some x->Z[i]?=some (some v)->Vis X.env.scope x->∃u,RelV v u/\Look X.env s.heap m x u
 cell:∀x c,X.env.cells.lookup x=some c->∃v,s.heap.IsCell c v
 free:H X.env.locals=none
 freeC:∀x c,X.env.cells.lookup x=some c->H c=none
 pin:∀p∈X.pn++XM,s.heap.get? p.1=some p.2/\H p.1=none/\p.1≠X.env.locals/\p.1∉X.fs/\∀v,p.2.data≠.cell v
 hok:D3 X.prog X.w H s.heap
 len:Z.length=X.N.length
section
variable{X:Cx}{XM:ZY}{Z:ZJ}{H H':Hp}{s:Shared}{h':Heap}
theorem Cx.Ok.nofr(ok:X.Ok){b:Addr}{o:Obj}(e:X.base.get? b=some o):b∉X.fs:=λhb=>by
 have:=(ok.funs.mem hb).1;rw[e]at this;cases this
theorem Inv.bs(I:Inv X XM Z H s):∀b o,X.base.get? b=some o->s.heap.get? b=some o/\H b=none:=λb o e =>
 ⟨I.base.keep b o (I.ok.bs b o e).1 (I.ok.bs b o e).2 (I.ok.nofr e) (I.ok.noex b o e),I.base.free b o (I.ok.bs b o e).1 (I.ok.bs b o e).2 (I.ok.noex b o e)⟩
theorem Inv.bk(I:Inv X XM Z H s):∀b o,X.base.get? b=some o->s.heap.get? b=some o:=λb o e=>(I.bs b o e).1
theorem Inv.mod(I:Inv X XM Z H s):Mod X.K X.mg X.base:=I.ok.mod
theorem Inv.kIn(I:Inv X XM Z H s):X.K.In s.heap:=I.ok.mod.kin.keeps I.bk
theorem Inv.fr(I:Inv X XM Z H s):∃m,Fr X.base X.env.locals s.heap m :=
 let ⟨m,hn,_⟩:=I.loc
 ⟨m,hn,I.bk,D0 I.ok.bsz I.ok.above⟩
theorem Inv.lt(I:Inv X XM Z H s):X.env.locals<s.heap.objs.size:=let ⟨_,hn,_⟩:=I.loc;hn.lt
theorem Inv.sz(I:Inv X XM Z H s):X.s₀.heap.objs.size<=s.heap.objs.size:=D0 I.ok.above (Nat.le_of_lt I.lt)
theorem Inv.nofs(I:Inv X XM Z H s){a:Addr}(h:s.heap.objs.size<=a):a∉X.fs:=λhb=>by
 obtain⟨_,o,ho,_⟩:=I.ok.funs.mem hb;exact absurd (Rv (Ye ho) (D0 I.sz h)) (Nat.lt_irrefl _)
theorem Inv.cne(I:Inv X XM Z H s):∀x c,X.env.cells.lookup x=some c->c≠X.env.locals:=λx c e z=>by
 obtain⟨v,o,ho,hd⟩:=I.cell x c e;obtain⟨m,⟨o',es,ep,Rn,hd',_⟩,_⟩:=I.loc;rw[z,Rn]at ho;cases ho;rw[hd']at hd;cases hd
theorem Inv.funs(I:Inv X XM Z H s):s.heap.FunFrames X.base X.outer:=by
 have all:∀(l:List Env),(∀b∈frs l,b∈X.fs)->X.s₀.heap.FunFrames X.base l->s.heap.FunFrames X.base l:=by
  intro l
  induction l with
  | nil=>intro _ _;trivial
  | cons env r ih =>
   intro hs hl;obtain⟨hk,⟨L,o,hf,hn,ho,hd⟩,hr⟩:=hl;have hL:L∈X.fs:=hs L (by unfold frs;rw[List.filterMap_cons,hf];exact Yu);obtain⟨sl,e⟩:=I.base.slot L o ho (I.ok.frf L hL) hL λz=>I.ok.exfs L z hL;exact⟨hk,⟨L,_,hf,hn,e,hd⟩,ih (λb hb=>hs b (by unfold frs;rw[List.filterMap_cons,hf];exact Y3 _ hb)) hr⟩
 exact all X.outer (λ_ hb=>hb) I.ok.funs
theorem Inv.stack(I:Inv X XM Z H s):s.heap.FunFrames X.base X.stack:=by
 rcases I.ok.stk with e | ⟨e,hf⟩
 .rw[e];exact I.funs
 .rw[e];obtain⟨m,hn,_⟩:=I.loc;refine .cons (by rw[I.ok.kind];decide) hf hn ?_ I.funs;exact Heap.get?_none_of_le (D0 I.ok.bsz I.ok.above)
theorem Inv.stkSub(I:Inv X XM Z H s):∀b∈frs X.stack,b∈X.env.locals::X.fs:=λb hb=>by
 rcases I.ok.stk with e | ⟨e,hf⟩
 .rw[e]at hb;exact Y3 _ hb
 .rw[e]at hb;unfold frs at hb;rw[List.filterMap_cons,hf]at hb;exact hb
theorem Inv.stkFree(I:Inv X XM Z H s):∀b∈frs X.stack,H b=none:=λb hb=>by
 rcases Yf.mp (I.stkSub b hb) with e | hb
 .rw[e];exact I.free
 .obtain⟨_,o,ho,_⟩:=I.ok.funs.mem hb;exact I.base.free b o ho (I.ok.frf b hb) λz=>I.ok.exfs b z hb
theorem Inv.step{g':Array GenState}{t':Nat}{d':Drawn}{ch:ZU}(I:Inv X XM Z H s)
  (lu:∀b∈ch,(b∈X.ex\/X.s₀.heap.objs.size<=b)/\b≠X.env.locals/\(∀x c,X.env.cells.lookup x=some c->c≠b)/\∀p∈X.pn++XM,p.1≠b)
  (keep:∀b o,b≠X.env.locals->b∉X.fs->b∉ch->s.heap.get? b=some o->H b=none->h'.get? b=some o)
  (slot:∀b o,b≠X.env.locals->b∈X.fs->b∉ch->s.heap.get? b=some o->H b=none->∃sl,h'.get? b=some { o with slots:=sl }) (free:∀b o,b∉ch->s.heap.get? b=some o->H b=none->H' b=none)
  (there:∀b o,b∉ch->s.heap.get? b=some o->∃o',h'.get? b=some o')
  (tups:∀b xs,H b=some (.tup xs)->H' b=some (.tup xs)) (frzs:∀b o u,H b=some (.frz o u)->H' b=some (.frz o u)) (tbls:∀b ps,H b=some (.tbl ps)->∃more,H' b=some (.tbl (ps++more)))
  (ns:∀m,s.heap.Ns X.env.locals m->h'.Ns X.env.locals m) (hok:D3 X.prog X.w H' h') (hg:AllBare g') :
  Inv X XM Z H' { s with heap:=h',gens:=g',drawn:=d',toks:=t' }:=by
 have neL:∀b o,X.s₀.heap.get? b=some o->b≠X.env.locals:=λb o e=>Dz (Rv (Ye e) I.ok.above)
 have neC:∀b o,X.s₀.heap.get? b=some o->b∉X.ex->b∉ch:=λb o e hx hb=>by
  rcases(lu b hb).1 with z | z
  .exact hx z
  .exact absurd (Rv (Ye e) z) (Nat.lt_irrefl _)
 have cellK:∀x c,X.env.cells.lookup x=some c->∀v,s.heap.IsCell c v->h'.IsCell c v:=λx c e v ⟨o,ho,hd⟩=>by
  have nch:c∉ch:=λz=>(lu c z).2.2.1 x c e rfl;by_cases hc:c∈X.fs
  .obtain⟨sl,q⟩:=slot c o (I.cne x c e) hc nch ho (I.freeC x c e);exact⟨_,q,hd⟩
  .exact⟨o,keep c o (I.cne x c e) hc nch ho (I.freeC x c e),hd⟩
 refine⟨I.ok,I.os,hg,⟨λb o e n hb hx=>?_,λb o e n hb hx=>?_,λb o e n hx=>?_,λb o e hx=>?_,λb xs e=>tups b xs (I.base.tups b xs e),λb o xs e=>frzs b o xs (I.base.frzs b o xs e),λb ps e=>?_⟩,?_,λx c e=>?_,?_,λx c e=>?_,λp hp=>?_,hok,I.len⟩
 .exact keep b o (neL b o e) hb (neC b o e hx) (I.base.keep b o e n hb hx) (I.base.free b o e n hx)
 .obtain⟨sl,e1⟩:=I.base.slot b o e n hb hx;obtain⟨sl',e2⟩:=slot b _ (neL b o e) hb (neC b o e hx) e1 (I.base.free b o e n hx);exact⟨sl',e2⟩
 .obtain⟨o',e1⟩:=I.base.there b o e hx;exact free b o' (neC b o e hx) e1 (I.base.free b o e n hx)
 .obtain⟨o',e1⟩:=I.base.there b o e hx;exact there b o' (neC b o e hx) e1
 .obtain⟨m1,e1⟩:=I.base.tbls b ps e;obtain⟨m2,e2⟩:=tbls b _ e1;exact⟨m1++m2,by rw[e2,Array.append_assoc]⟩
 .obtain⟨m,hn,hl⟩:=I.loc;refine⟨m,ns m hn,λi x v e1 e2 e3=>?_⟩;obtain⟨u,r,l⟩:=hl i x v e1 e2 e3;refine⟨u,r,?_⟩;rcases l with l | ⟨k,c,e,z⟩
  .exact .inl l
  .exact .inr ⟨k,c,e,cellK x c e _ z⟩
 .obtain⟨v,z⟩:=I.cell x c e;exact⟨v,cellK x c e v z⟩
 .obtain⟨m,⟨o,_,_,ho,_⟩,_⟩:=I.loc;exact free _ o (λz=>(lu _ z).2.1 rfl) ho I.free
 .obtain⟨v,o,ho,hd⟩:=I.cell x c e;exact free c o (λz=>(lu c z).2.2.1 x c e rfl) ho (I.freeC x c e)
 .obtain⟨e,n,ne,nf,d⟩:=I.pin p hp;have nch:p.1∉ch:=λz=>(lu p.1 z).2.2.2 p hp rfl;exact⟨keep p.1 p.2 ne nf nch e n,free p.1 p.2 nch e n,ne,nf,d⟩
theorem Inv.un{t':Nat}(I:Inv X XM Z H s)(u:Un X.fs [] H H' s.heap h')(hok:D3 X.prog X.w H' h'):Inv X XM Z H' { s with heap:=h',toks:=t' }:=by
 obtain⟨m,⟨o,es,ep,ho,r⟩,_⟩:=id I.loc;obtain⟨sl,hL⟩:=u.any ho I.free XI
 exact I.step (g':=s.gens) (d':=s.drawn) (ch:=[]) (λ_ z=>nomatch z) (λb o _ hb _ e n=>u.keep b o e n hb XI) (λb o _ hb _ e n=>u.slot b o e n hb XI) (λb o _ e n=>u.free b o e n XI) (λb o _ e=>u.there b o e XI) u.tups u.frzs u.tbls (λm' hm=>by
  obtain⟨o',es',ep',Rn,r'⟩:=hm;rw[ho]at Rn;cases Rn;exact⟨_,es',ep',hL,r'⟩) hok I.bare
theorem Inv.call{g':Array GenState}{t':Nat}{d':Drawn}{ch:ZU}(I:Inv X XM Z H s)(u:Un (frs X.stack) ch H H' s.heap h')(hok:D3 X.prog X.w H' h')(hg:AllBare g')
  (lu:∀b∈ch,(b∈X.ex\/X.s₀.heap.objs.size<=b)/\b≠X.env.locals/\(∀x c,X.env.cells.lookup x=some c->c≠b)/\∀p∈X.pn++XM,p.1≠b) :
  Inv X XM Z H' { s with heap:=h',gens:=g',drawn:=d',toks:=t' }:=by
 obtain⟨m,⟨o,es,ep,ho,r⟩,_⟩:=id I.loc;obtain⟨sl,hL⟩:=u.any ho I.free λz=>(lu _ z).2.1 rfl
 exact I.step (ch:=ch) lu (λb o hL hb hc e n=>u.keep b o e n (λz=>(Yf.mp (I.stkSub b z)).elim hL hb) hc) (λb o _ _ hc e n=>u.any e n hc) (λb o hc e n=>u.free b o e n hc) (λb o hc e=>u.there b o e hc) u.tups u.frzs u.tbls (λm' hm=>by
  obtain⟨o',es',ep',Rn,r'⟩:=hm;rw[ho]at Rn;cases Rn;exact⟨_,es',ep',hL,r'⟩) hok hg
theorem Inv.turned{t':Nat}{it:Addr}(I:Inv X XM Z H s)(k:∀b o,b≠it->s.heap.get? b=some o->h'.get? b=some o)(hn:H it=none)(hL:it≠X.env.locals)
  (h1:it∈X.ex\/X.s₀.heap.objs.size<=it) (h2:∀x c,X.env.cells.lookup x=some c->c≠it) (h3:∀p∈X.pn++XM,p.1≠it):Inv X XM Z H { s with heap:=h',toks:=t' }:=by
 have nit:∀b u,H b=some u->b≠it:=λb u e z=>by rw[z,hn]at e;cases e
 refine I.step (g':=s.gens) (d':=s.drawn) (ch:=[it]) (λb hb=>?_) (λb o _ _ hc e _=>k b o (λz=>hc (by simp[z])) e) (λb o _ _ hc e _=>⟨o.slots,k b o (λz=>hc (by simp[z])) e⟩) (λ_ _ _ _ n=>n)
  (λb o hc e=>⟨o,k b o (λz=>hc (by simp[z])) e⟩) (λ_ _ e=>e) (λ_ _ _ e=>e) (λb ps e=>⟨#[],by rw[e];simp⟩) (λm hm=>?_) (λb u e=>?_) I.bare
 .have e:b=it:=by simpa using hb
  subst e;exact⟨h1,hL,h2,h3⟩
 .obtain⟨o,es,ep,ho,r⟩:=hm;exact⟨o,es,ep,k _ o (Ne.symm hL) ho,r⟩
 .refine(I.hok b u e).stay (λc v hc q=>k c v ?_ q) (λ_ q=>q) λ_ _ q=>q;rcases hc with z | z
  .rw[z];exact nit b u e
  .exact nit c _ z
theorem Inv.tok(I:Inv X XM Z H s)(t:Nat):Inv X XM Z H { s with toks:=t }:=I.un (h':=s.heap) (t':=t) Un.refl I.hok
theorem Inv.kept{t':Nat}(I:Inv X XM Z H s)(k:∀b u,s.heap.get? b=some u->h'.get? b=some u):Inv X XM Z H { s with heap:=h',toks:=t' }:=I.un (Un.kept k) (I.hok.kept k)
theorem Inv.laid{a:Addr}{o:HO}{t':Nat}(I:Inv X XM Z H s)(k:∀b u,s.heap.get? b=some u->h'.get? b=some u)(hp:s.heap.objs.size<=a)(new:Zp X.prog X.w (upd H a o) h' a o) :
  Inv X XM Z (upd H a o) { s with heap:=h',toks:=t' }:=I.un (Un.laid k hp (I.hok.fresh hp)) (I.hok.laid k hp new)
theorem Inv.write{x e:Addr}{o:HO}{t':Nat}(I:Inv X XM Z H s)(mu:Mut (H x))(he:e=x\/H e=some (.own x))(k:∀b u,b≠e->s.heap.get? b=some u->h'.get? b=some u)(heo:∃u,h'.get? e=some u)
  (new:Zp X.prog X.w (upd H x o) h' x o):Inv X XM Z (upd H x o) { s with heap:=h',toks:=t' }:=I.un (Un.write mu he k heo) (I.hok.write mu he k heo new)
theorem Inv.pins_of{pins':ZY}(I:Inv X XM Z H s)(h:∀p∈pins',s.heap.get? p.1=some p.2/\H p.1=none/\p.1≠X.env.locals/\p.1∉X.fs/\∀v,p.2.data≠.cell v):Inv X pins' Z H s :=
 ⟨I.ok,I.os,I.bare,I.base,I.loc,I.cell,I.free,I.freeC,λp hp=>(qj.mp hp).elim (λz=>I.pin p (List.mem_append_left _ z)) (h p),I.hok,I.len⟩
theorem Pk{N:ZD}(hN:N.Nodup){i j:Nat}{x:Str}(a:N[i]?=some x)(b:N[j]?=some x):i=j:=by
 obtain⟨h1,e1⟩:=Rk.mp a;obtain⟨h2,e2⟩:=Rk.mp b;exact(List.getElem_inj hN).mp (e1.trans e2.symm)
theorem R8{M:Model}{A:Around}{E:ZW}{i:Nat}{x:Str}{v:V}{u:Value}{Q:ZO}(I:Inv X XM Z H s)(hN:X.N.Nodup)(hi:X.N[i]?=some x)(hx:Loc X.env.scope x)(r:RelV v u)
  (h:∀s',Inv X XM (Z.set i (some v)) H s'->(∃a,Heap.SameBut a s.heap s'.heap/\(a=X.env.locals\/X.env.cells.lookup x=some a))->Q () s') (hf:X.fn x=true\/X.env.scope.names.lookup x=some .local:=by first | exact .inl rfl | exact .inr rfl | assumption):wpAny M A (storeName X.env x u) Q E s:=by
 obtain⟨m,hn,hl⟩:=id I.loc;have hcls:(X.env.scope.kind==.class || (X.env.scope.kind==.module&&X.env.locals != X.env.globals))=false:=by rw[I.ok.kind];rfl
 have hiσ:i<Z.length:=by rw[I.len];exact(Rk.mp hi).1
 have cne:=I.cne
 have tracked:∀{a:Addr} {h':Heap},(∃o,s.heap.get? a=some o/\H a=none)->Heap.SameBut a s.heap h'->D3 X.prog X.w H h':=λ{a h'} ha hs b ob e=>by
  obtain⟨_,_,Pe⟩:=ha;refine(I.hok b ob e).stay (λc w' hc q=>(hs.2 c ?_).trans q) (λ_ q=>q) λ_ _ q=>q;rintro rfl;rcases hc with rfl | hc
  .rw[Pe]at e;cases e
  .rw[Pe]at hc;cases hc
 rcases hx with hk | hk
 .refine wpAny_storeName_local hk hn (λh' hn' hs=>?_) hcls;obtain⟨oL,_,_,hoL,_⟩:=id hn;refine h _ ⟨I.ok,I.os,I.bare,⟨λb o e n hb hx=>?_,λb o e n hb hx=>?_,I.base.free,λb o e hx=>?_,I.base.tups,I.base.frzs,I.base.tbls⟩,⟨_,hn',λj y v' e1 e2 e3=>?_⟩,λy c e=>?_,I.free,I.freeC,λp hp=>?_,tracked ⟨oL,hoL,I.free⟩ hs,by simpa using I.len⟩ ⟨_,hs,.inl rfl⟩
  .exact(hs.2 b (Dz (Rv (Ye e) I.ok.above))).trans (I.base.keep b o e n hb hx)
  .obtain⟨sl,e1⟩:=I.base.slot b o e n hb hx;exact⟨sl,(hs.2 b (Dz (Rv (Ye e) I.ok.above))).trans e1⟩
  .obtain⟨o',e1⟩:=I.base.there b o e hx;exact⟨o',(hs.2 b (Dz (Rv (Ye e) I.ok.above))).trans e1⟩
  .by_cases hj:j=i
   .subst hj;rw[hi]at e1;cases e1;rw[List.getElem?_set_self hiσ]at e2;cases e2;exact⟨u,r,.inl ⟨hk,by simp⟩⟩
   .rw[List.getElem?_set_ne (Ne.symm hj)]at e2;obtain⟨u',r',q⟩:=hl j y v' e1 e2 e3;refine⟨u',r',?_⟩;rcases q with ⟨k,e⟩ | ⟨k,c,e,z⟩
    .refine .inl ⟨k,?_⟩;have:y≠x:=λe=>hj (Pk hN e1 (e ▸ hi));simp[this,e]
    .exact .inr ⟨k,c,e,z.sameBut hs (cne y c e)⟩
  .obtain⟨w',z⟩:=I.cell y c e;exact⟨w',z.sameBut hs (cne y c e)⟩
  .obtain⟨e,n,ne,nf,d⟩:=I.pin p hp;exact⟨(hs.2 p.1 ne).trans e,n,ne,nf,d⟩
 .have hfn:X.fn x=true:=by
   rcases hf with z | z
   .exact z
   .rw[z]at hk;cases hk
  obtain⟨c,hc⟩:=I.ok.has x (.inl hk);obtain⟨w',z⟩:=I.cell x c hc;refine wpAny_storeName_cell I.ok.kind hk hc z (λh' la hs=>?_);obtain⟨oc,hoc,hocd⟩:=id z;refine h { s with heap:=h' } ⟨I.ok,I.os,I.bare,⟨λb o e n hb hx=>?_,λb o e n hb hx=>?_,I.base.free,λb o e hx=>?_,I.base.tups,I.base.frzs,I.base.tbls⟩,⟨m,hn.sameBut hs (Ne.symm (cne x c hc)),λj y v' e1 e2 e3=>?_⟩,λy c' e=>?_,I.free,I.freeC,λp hp=>?_,tracked ⟨oc,hoc,I.freeC x c hc⟩ hs,by simpa using I.len⟩ ⟨c,hs,.inr hc⟩
  .exact(hs.2 b (Dz (Rv (Ye e) (I.ok.cab x c hfn hc)))).trans (I.base.keep b o e n hb hx)
  .obtain⟨sl,e1⟩:=I.base.slot b o e n hb hx;exact⟨sl,(hs.2 b (Dz (Rv (Ye e) (I.ok.cab x c hfn hc)))).trans e1⟩
  .obtain⟨o',e1⟩:=I.base.there b o e hx;exact⟨o',(hs.2 b (Dz (Rv (Ye e) (I.ok.cab x c hfn hc)))).trans e1⟩
  .by_cases hj:j=i
   .subst hj;rw[hi]at e1;cases e1;rw[List.getElem?_set_self hiσ]at e2;cases e2;exact⟨u,r,.inr ⟨.inl hk,c,hc,la⟩⟩
   .rw[List.getElem?_set_ne (Ne.symm hj)]at e2;obtain⟨u',r',q⟩:=hl j y v' e1 e2 e3;refine⟨u',r',?_⟩;rcases q with q | ⟨k,c',e,z'⟩
    .exact .inl q
    .refine .inr ⟨k,c',e,z'.sameBut hs ?_⟩;rintro rfl;exact hj (Pk hN e1 (I.ok.inj _ _ _ e hc ▸ hi))
  .by_cases hcc:c'=c
   .subst hcc;exact⟨_,la⟩
   .obtain⟨w2,z2⟩:=I.cell y c' e;exact⟨w2,z2.sameBut hs hcc⟩
  .obtain⟨e,n,ne,nf,d⟩:=I.pin p hp;refine⟨(hs.2 p.1 ?_).trans e,n,ne,nf,d⟩;intro q;rw[q,hoc]at e;have q':oc=p.2:=Je e;exact d w' (by rw[<-q'];exact hocd)
theorem Qs{M:Model}{A:Around}{E:ZW}{i:Nat}{x:Str}{v:V}{u:Value}{Q:ZO}(I:Inv X XM Z H s)(hN:X.N.Nodup)(hi:X.N[i]?=some x)(hx:Loc X.env.scope x)(r:RelV v u)
  (h:∀s',Inv X XM (Z.set i (some v)) H s'->Q () s') (hf:X.fn x=true\/X.env.scope.names.lookup x=some .local:=by first | exact .inl rfl | exact .inr rfl | assumption):wpAny M A (storeName X.env x u) Q E s :=
 R8 I hN hi hx r (λs' I' _=>h s' I') hf
theorem Inv.call'{s':Shared}{ch:ZU}(I:Inv X XM Z H s)(ho:s'.os=s.os)(u:Un (frs X.stack) ch H H' s.heap s'.heap)(hok:D3 X.prog X.w H' s'.heap)(hg:AllBare s'.gens)
  (lu:∀b∈ch,(b∈X.ex\/X.s₀.heap.objs.size<=b)/\b≠X.env.locals/\(∀x c,X.env.cells.lookup x=some c->c≠b)/\∀p∈X.pn++XM,p.1≠b):Inv X XM Z H' s':=by
 obtain⟨h',g',d',t',o'⟩:=s';have e:o'=s.os:=ho;subst e;exact I.call (g':=g') (t':=t') (d':=d') u hok hg lu
end
abbrev XK:=Value->ZP->Hp->Prop
abbrev St:=ZJ
abbrev VK:=V->Hp->Prop
abbrev TE:=St->Hp->VK->Prop
abbrev TT:=St->Hp->(Bool->Hp->Prop)->Prop
abbrev TA:=St->Hp->(ZQ->Hp->Prop)->Prop
structure Ends where
 nx:St->Hp->Prop
 rt:VK
 bk:St->Hp->Prop:=λ_ _=>False
 ct:St->Hp->Prop:=λ_ _=>False
abbrev TS:=Ends->St->Hp->Prop
def EP(X:Cx)(XM:ZY)(Z:St)(Q:VK)(u:Value)(s':Shared):Prop:=∃v H',Inv X XM Z H' s'/\RelV v u/\Q v H'
def TP(X:Cx)(XM:ZY)(Z:St)(Q:Bool->Hp->Prop)(b:Bool)(s':Shared):Prop:=∃H',Inv X XM Z H' s'/\Q b H'
def AP(X:Cx)(XM:ZY)(Z:St)(Q:ZQ->Hp->Prop)(us:ZM)(s':Shared):Prop:=∃vs H',Inv X XM Z H' s'/\Zf vs us/\Q vs H'
def SP(X:Cx)(XM:ZY)(D:Ends)(f:Flow)(s':Shared):Prop :=
 match f with
 | .next=>∃σ' H',Inv X XM σ' H' s'/\D.nx σ' H'
 | .brk=>∃σ' H',Inv X XM σ' H' s'/\D.bk σ' H'
 | .cont=>∃σ' H',Inv X XM σ' H' s'/\D.ct σ' H'
 | .ret u=>∃v σ' H',Inv X XM σ' H' s'/\RelV v u/\D.rt v H'
def PE(X:Cx)(e:Expr)(t:TE):Prop :=
 ∀(XM:ZY) (s:Shared) (Z:St) (H:Hp) (Q:VK),Inv X XM Z H s->t Z H Q->wpAny (model X.prog X.w) X.A (eval e X.env) (EP X XM Z Q) X.xe s
def PT(X:Cx)(e:Expr)(t:TT):Prop :=
 ∀(XM:ZY) (s:Shared) (Z:St) (H:Hp) (Q:Bool->Hp->Prop),Inv X XM Z H s->t Z H Q->wpAny (model X.prog X.w) X.A (isTrue e X.env (eval e X.env)) (TP X XM Z Q) X.xe s
def PW(X:Cx)(e:Expr)(t:TT):Prop :=
 ∀(whole:Sem Value) (XM:ZY) (s:Shared) (Z:St) (H:Hp) (Q:Bool->Hp->Prop),Inv X XM Z H s->t Z H Q->wpAny (model X.prog X.w) X.A (isTrue e X.env whole) (TP X XM Z Q) X.xe s
theorem PW.pt{X:Cx}{e:Expr}{t:TT}(h:PW X e t):PT X e t:=h _
def PA(X:Cx)(es:ZC)(t:TA):Prop :=
 ∀(pos:Pos) (XM:ZY) (s:Shared) (Z:St) (H:Hp) (Q:ZQ->Hp->Prop),Inv X XM Z H s->t Z H Q->wpAny (model X.prog X.w) X.A (spliced (backTo pos (starEach es X.env))) (AP X XM Z Q) X.xe s
def PS(X:Cx)(st:Stmt)(t:TS):Prop :=
 ∀(XM:ZY) (s:Shared) (Z:St) (H:Hp) (D:Ends),Inv X XM Z H s->t D Z H->wpAny (model X.prog X.w) X.A (exec st X.env) (SP X XM D) X.xe s
def Rw(X:Cx)(st:List Stmt)(t:TS):Prop :=
 ∀(XM:ZY) (s:Shared) (Z:St) (H:Hp) (D:Ends),Inv X XM Z H s->t D Z H->wpAny (model X.prog X.w) X.A (execs st X.env) (SP X XM D) X.xe s
theorem Z5{Z:Type}{t:Sem Z}{Q Q':Z->Shared->Prop}{M:Model}{A:Around}{E:ZW}{s:Shared}(h:wpAny M A t Q E s)(hQ:∀a s,Q a s->Q' a s):wpAny M A t Q' E s:=wpAny_mono h hQ λ_ _ x=>x
section
variable{X:Cx}
inductive wo(i:Nat)(Z:St)(H:Hp)(Q:VK):Prop
 | mk(v)(Vz:Z[i]?=some (some v))(Y9:Q v H):wo i Z H Q
def tVar(i:Nat):TE:=λZ H Q=>wo i Z H Q
def tC(v:V):TE:=λ_ H Q=>Q v H
theorem k6{i:Nat}{x:Str}{pos:Pos}(hN:X.N[i]?=some x)(hv:Vis X.env.scope x)(hd:(x==("__debug__" : Str))=false:=by decide)(L1:(x==("__classdict__" : Str))=false:=by decide):PE X (.Name x pos) (tVar i):=by
 intro XM s Z H Q I h;obtain⟨v,e,h⟩:=h;obtain⟨m,hn,hl⟩:=I.loc;obtain⟨u,r,l⟩:=hl i x v hN e hv;have fin:EP X XM Z Q u s:=⟨v,H,I,r,h⟩;rcases l with ⟨hk,hm⟩ | ⟨hk,c,hc,P2⟩
 .exact wpAny_Name (wpAny_loadName_local I.ok.kind hk hn hm fin) hd
 .rcases hk with hk | hk
  .exact wpAny_Name (wpAny_loadName_cell I.ok.kind hk hc P2 fin) hd
  .exact wpAny_Name (wpAny_loadName_free I.ok.kind hk hc P2 fin L1) hd
theorem gq{i j pos}:PE X (.Constant (.int i) j pos) (tC (.int i)):=λ_ _ _ H _ I h=>wpAny_Constant_int ⟨.int i,H,I.tok _,⟨_,rfl⟩,h⟩
theorem pe_bl{b j pos}:PE X (.Constant (.bool b) j pos) (tC (.bl b)):=λ_ _ _ H _ I h=>Constant_bool ⟨.bl b,H,I,rfl,h⟩
theorem pe_non{j pos}:PE X (.Constant .none j pos) (tC .non):=λ_ _ _ H _ I h=>Constant_none ⟨.non,H,I,rfl,h⟩
theorem k9{x j pos}:PE X (.Constant (.str x) j pos) (tC (.str x)):=λ_ _ _ H _ I h=>Calls.Constant_str ⟨.str x,H,I.tok _,⟨_,rfl⟩,h⟩
def Gl(X:Cx)(x:Str):Prop:=X.env.kindOf x=some .globalImplicit
theorem i6{E:ZW}{XM:ZY}{s:Shared}{Z:St}{H:Hp}{x:Str}{u:Value}{pos:Pos}{Q:ZW}(I:Inv X XM Z H s)(hg:Gl X x)(hm:X.mg x=some u)(h:Q u s)
  (hd:(x==("__debug__" : Str))=false:=by decide):wpAny (model X.prog X.w) X.A (eval (.Name x pos) X.env) Q E s :=
 Calls.Name_function_global I.ok.kind hg (Calls.loadGlobal_global (by rw[I.ok.glob];exact I.mod.glob.keeps I.bk) hm h) hd
theorem J4{E:ZW}{XM:ZY}{s:Shared}{Z:St}{H:Hp}{x:Str}{u:Value}{pos:Pos}{Q:ZW}(I:Inv X XM Z H s)(hg:Gl X x)(hm:X.mg x=none)(hv:bootBuiltins x=some u)(h:Q u s)
  (hn:x ≠ "__name__" := by decide) (hd:(x==("__debug__" : Str))=false:=by decide):wpAny (model X.prog X.w) X.A (eval (.Name x pos) X.env) Q E s:=by
 obtain⟨mb,h1,h2⟩:=I.mod.blt;exact Calls.Name_function_global I.ok.kind hg (Calls.loadGlobal_builtin (by rw[I.ok.glob];exact I.mod.glob.keeps I.bk) hm (by rw[I.ok.blt];exact h1.keeps I.bk) ((h2 x hn).trans hv) h) hd
theorem oy{x:Str}{v:V}{u:Value}{pos:Pos}(hg:Gl X x)(hm:X.mg x=none)(hv:bootBuiltins x=some u)(r:RelV v u)(hn:x ≠ "__name__" := by decide)(hd:(x==("__debug__" : Str))=false:=by decide):PE X (.Name x pos) (tC v) :=
 λ_ _ _ H _ I h=>J4 I hg hm hv ⟨v,H,I,r,h⟩ hn hd
variable{a b:Expr}{ta tb:TE}{pos:Pos}
inductive tB_I(Q:(Bool->Hp->Prop))(x:V)(H1:Hp):Prop
 | mk(c)(Vz:x=.bl c)(Y9:Q c H1):tB_I Q x H1
def tB(t:TE):TT:=λZ H Q=>t Z H λx H1=>tB_I Q x H1
theorem pt_val{e:Expr}{t:TE}(h:PE X e t)(he:∀whole,isTrue e X.env whole=(do let v <-whole;standAt e.pos;holding [v] (truthy v)):=by intro _;rfl):PT X e (tB t):=by
 intro XM s Z H Q I hw;refine isTrue_plain (Z5 (h XM s Z H _ I hw) λv s1 ⟨x,H1,I1,r1,q1⟩=>?_) (he _);obtain⟨d,rfl,q⟩:=q1;cases r1;exact wpAny_truthy_bool ⟨H1,I1,q⟩
variable{tA tB':TT}{rest:ZC}
def tAnd(t u:TT):TT:=λZ H Q=>t Z H λc H1=>if c=true then u Z H1 Q else Q false H1
def tOr(t u:TT):TT:=λZ H Q=>t Z H λc H1=>if c=true then Q true H1 else u Z H1 Q
def tNot(t:TT):TT:=λZ H Q=>t Z H λc H1=>Q (!c) H1
theorem pw_and1(ha:PT X a tA):PW X (.BoolOp .And [a] pos) tA:=by
 intro wh XM s Z H Q I h;refine isTrue_and (Z5 (ha XM s Z H Q I h) λc s1 e=>?_);cases c with
 | true=>exact isTrue_and_nil e
 | false=>exact e
theorem pw_or1(ha:PT X a tA):PW X (.BoolOp .Or [a] pos) tA:=by
 intro wh XM s Z H Q I h;refine isTrue_or (Z5 (ha XM s Z H Q I h) λc s1 e=>?_);cases c with
 | false=>exact isTrue_or_nil e
 | true=>exact e
theorem pw_and(ha:PT X a tA)(hb:PW X (.BoolOp .And (b::rest) pos) tB'):PW X (.BoolOp .And (a::b::rest) pos) (tAnd tA tB'):=by
 intro wh XM s Z H Q I h;refine isTrue_and (Z5 (ha XM s Z H _ I h) λc s1 ⟨H1,I1,q1⟩=>?_);cases c with
 | true=>exact hb wh XM s1 Z H1 Q I1 q1
 | false=>exact⟨H1,I1,q1⟩
theorem pw_or(ha:PT X a tA)(hb:PW X (.BoolOp .Or (b::rest) pos) tB'):PW X (.BoolOp .Or (a::b::rest) pos) (tOr tA tB'):=by
 intro wh XM s Z H Q I h;refine isTrue_or (Z5 (ha XM s Z H _ I h) λc s1 ⟨H1,I1,q1⟩=>?_);cases c with
 | true=>exact⟨H1,I1,q1⟩
 | false=>exact hb wh XM s1 Z H1 Q I1 q1
theorem pt_not(ha:PT X a tA):PT X (.UnaryOp .Not a pos) (tNot tA):=by
 intro XM s Z H Q I h;exact isTrue_not (ha XM s Z H (λc H1=>Q (!c) H1) I h)
inductive Hb(tb:TE)(Z:St)(Q:VK)(x:V)(H1:Hp):Prop
 | mk(c)(Vz:x=.bl c)(Y9:if c=true then tb Z H1 Q else Q (.bl false) H1):Hb tb Z Q x H1
def tAndV(ta tb:TE):TE:=λZ H Q=>ta Z H λx H1=>Hb tb Z Q x H1
inductive w6(tb:TE)(Z:St)(Q:VK)(x:V)(H1:Hp):Prop
 | mk(c)(Vz:x=.bl c)(Y9:if c=true then Q (.bl true) H1 else tb Z H1 Q):w6 tb Z Q x H1
def tOrV(ta tb:TE):TE:=λZ H Q=>ta Z H λx H1=>w6 tb Z Q x H1
inductive Hf(Q:VK)(x:V)(H1:Hp):Prop
 | mk(c)(Vz:x=.bl c)(Y9:Q (.bl (!c)) H1):Hf Q x H1
def tNotV(ta:TE):TE:=λZ H Q=>ta Z H λx H1=>Hf Q x H1
theorem gz{op}{t:TE}(h:PE X a t):PE X (.BoolOp op [a] pos) t:=λXM s Z H Q I hw=>BoolOp_one (h XM s Z H Q I hw)
theorem pe_and(ha:PE X a ta)(hb:PE X (.BoolOp .And (b::rest) pos) tb):PE X (.BoolOp .And (a::b::rest) pos) (tAndV ta tb):=by
 intro XM s Z H Q I h;refine BoolOp_and (Z5 (ha XM s Z H _ I h) λv s1 ⟨x,H1,I1,r1,q1⟩=>?_);obtain⟨c,rfl,q1⟩:=q1;cases r1;refine wpAny_truthy_bool ?_;cases c with
 | true=>exact hb XM s1 Z H1 Q I1 q1
 | false=>exact⟨.bl false,H1,I1,rfl,q1⟩
theorem pe_or(ha:PE X a ta)(hb:PE X (.BoolOp .Or (b::rest) pos) tb):PE X (.BoolOp .Or (a::b::rest) pos) (tOrV ta tb):=by
 intro XM s Z H Q I h;refine BoolOp_or (Z5 (ha XM s Z H _ I h) λv s1 ⟨x,H1,I1,r1,q1⟩=>?_);obtain⟨c,rfl,q1⟩:=q1;cases r1;refine wpAny_truthy_bool ?_;cases c with
 | false=>exact hb XM s1 Z H1 Q I1 q1
 | true=>exact⟨.bl true,H1,I1,rfl,q1⟩
theorem pe_not(ha:PE X a ta):PE X (.UnaryOp .Not a pos) (tNotV ta):=by
 intro XM s Z H Q I h;refine UnaryOp_ (Z5 (ha XM s Z H _ I h) λv s1 ⟨x,H1,I1,r1,q1⟩=>?_);obtain⟨c,rfl,q1⟩:=q1;cases r1;exact not_of (wpAny_truthy_bool ⟨.bl (!c),H1,I1,rfl,q1⟩)
def tIf(t:TT)(ta tb:TE):TE:=λZ H Q=>t Z H λc H1=>if c=true then ta Z H1 Q else tb Z H1 Q
theorem gj{c:Expr}(hc:PT X c tA)(ha:PE X a ta)(hb:PE X b tb):PE X (.IfExp c a b pos) (tIf tA ta tb):=by
 intro XM s Z H Q I h;refine wpAny_IfExp (Z5 (hc XM s Z H _ I h) λd s1 ⟨H1,I1,q1⟩=>?_);cases d with
 | true=>exact ha XM s1 Z H1 Q I1 q1
 | false=>exact hb XM s1 Z H1 Q I1 q1
end
def V0(K:W.Frag)(H:Hp)(a:Addr)(xs:ZQ):Prop :=
 Rd H a (.lst xs) \/
  ∃(o:Obj) (XT:ZN) (n:Nat),K.lookup a=some o/\o.cls=.type "list" /\ o.dict=none/\o.data=.seq XT n/\XT.size<=sizeLine/\Zf xs XT.toList
def Y1(K:W.Frag)(H:Hp)(a:Addr)(xs:ZQ):Prop :=
 Rd H a (.tup xs) \/
  ∃(o:Obj) (XT:ZN) (n:Nat),K.lookup a=some o/\o.cls=.type "tuple" /\ o.dict=none/\o.data=.seq XT n/\XT.size<=sizeLine/\Zf xs XT.toList
noncomputable def absV:Value->Option V
 | .none=>some .non
 | .bool b=>some (.bl b)
 | .int i _=>some (.int i)
 | .str x _=>some (.str x)
 | .bytes b _=>some (.byt b)
 | .float b _=>some (.flt b)
 | .ref a=>some (.ref a)
 | .type n=>some (.ty n)
 | _=>none
theorem RelV.abs{x:V}{u:Value}(r:RelV x u):absV u=some x:=by
 cases x with
 | non=>cases r;rfl
 | bl _=>cases r;rfl
 | int _=>obtain⟨t,rfl⟩:=r;rfl
 | str _=>obtain⟨t,rfl⟩:=r;rfl
 | byt _=>obtain⟨t,rfl⟩:=r;rfl
 | flt _=>obtain⟨t,rfl⟩:=r;rfl
 | ref _=>cases r;rfl
 | ty _=>cases r;rfl
theorem RelV.inj{x y:V}{u:Value}(r:RelV x u)(q:RelV y u):x=y:=Je (r.abs.symm.trans q.abs)
theorem Zf.inj:∀{xs ys:ZQ} {us:ZM},Zf xs us->Zf ys us->xs=ys
 | _,_,_,.nil,.nil=>rfl
 | _,_,_,.cons r t,.cons r' t'=>by rw[r.inj r',Zf.inj t t']
section
variable{X:Cx}{XM:ZY}{Z:St}{H:Hp}{s:Shared}{a:Addr}{xs ys:ZQ}
theorem V0.of{K:W.Frag}(h:H a=some (.lst xs)):V0 K H a xs:=.inl (.inl h)
theorem Y1.of{K:W.Frag}(h:H a=some (.tup xs)):Y1 K H a xs:=.inl (.inl h)
theorem Inv.list(I:Inv X XM Z H s)(h:V0 X.K H a xs):∃XT:ZM,Zf xs XT/\PlainL s.heap a XT.toArray/\xs.length<=sizeLine:=by
 rcases h with h | ⟨o,XT,n,hk,hc,hd,hs,hz,r⟩
 .obtain⟨z,XT,n,r,e⟩:=h.ok I.hok;exact⟨XT,r,⟨_,n,e,rfl,rfl,rfl⟩,z⟩
 .refine⟨XT.toList,r,⟨o,n,I.kIn a o hk,hc,hd,by simpa using hs⟩,?_⟩;have e:=r.length;simp only[qt]at e;omega
theorem Inv.tuple(I:Inv X XM Z H s)(h:Y1 X.K H a xs):∃XT:ZM,Zf xs XT/\IsTup s.heap a XT.toArray/\xs.length<=sizeLine:=by
 rcases h with h | ⟨o,XT,n,hk,hc,hd,hs,hz,r⟩
 .obtain⟨z,XT,r,p⟩:=h.ok I.hok;exact⟨XT,r,p.tup,z⟩
 .refine⟨XT.toList,r,⟨o,I.kIn a o hk,hc,n,by simpa using hs⟩,?_⟩;have e:=r.length;simp only[qt]at e;omega
theorem Inv.list_inj(I:Inv X XM Z H s)(h:V0 X.K H a xs)(h':V0 X.K H a ys):xs=ys:=by
 obtain⟨XT,r,⟨o,n,e,_,_,d⟩,_⟩:=I.list h;obtain⟨its',r',⟨o',n',e',_,_,d'⟩,_⟩:=I.list h';rw[e]at e';cases e';rw[d]at d'
 injection d' with d1 _
 have:XT=its':=by simpa using congrArg Array.toList d1
 subst this;exact r.inj r'
theorem Inv.tuple_inj(I:Inv X XM Z H s)(h:Y1 X.K H a xs)(h':Y1 X.K H a ys):xs=ys:=by
 obtain⟨XT,r,⟨o,e,_,n,d⟩,_⟩:=I.tuple h;obtain⟨its',r',⟨o',e',_,n',d'⟩,_⟩:=I.tuple h';rw[e]at e';cases e';rw[d]at d'
 injection d' with d1 _
 have:XT=its':=by simpa using congrArg Array.toList d1
 subst this;exact r.inj r'
end
noncomputable abbrev Cx.wish(X:Cx)(E:ZW):Cx:={ X with xe:=E }
noncomputable abbrev Cx.nox(X:Cx):Cx:=X.wish λ_ _=>False
theorem Cx.Ok.wish{X:Cx}(ok:X.Ok)(E:ZW):(X.wish E).Ok :=
 ⟨ok.mod,ok.kind,ok.glob,ok.blt,ok.above,ok.inj,ok.has,ok.cab,ok.hd,ok.frames,ok.stk,ok.exf,ok.bs,ok.bsz,ok.noex,ok.exfs,ok.funs,ok.frf⟩
theorem Cx.Ok.unwish{X:Cx}{E:ZW}(ok:(X.wish E).Ok):X.Ok :=
 ⟨ok.mod,ok.kind,ok.glob,ok.blt,ok.above,ok.inj,ok.has,ok.cab,ok.hd,ok.frames,ok.stk,ok.exf,ok.bs,ok.bsz,ok.noex,ok.exfs,ok.funs,ok.frf⟩
section
variable{X:Cx}{XM:ZY}{Z:St}{H:Hp}{s:Shared}{E:ZW}
theorem Inv.wish(I:Inv X XM Z H s)(E:ZW):Inv (X.wish E) XM Z H s:=⟨I.ok.wish E,I.os,I.bare,I.base,I.loc,I.cell,I.free,I.freeC,I.pin,I.hok,I.len⟩
theorem Inv.unwish(I:Inv (X.wish E) XM Z H s):Inv X XM Z H s:=⟨I.ok.unwish,I.os,I.bare,I.base,I.loc,I.cell,I.free,I.freeC,I.pin,I.hok,I.len⟩
theorem SP.unwish{D:Ends}{f:Flow}{s':Shared}(h:SP (X.wish E) XM D f s'):SP X XM D f s':=by
 cases f with
 | next=>obtain⟨σ',H',I,q⟩:=h;exact⟨σ',H',I.unwish,q⟩
 | brk=>obtain⟨σ',H',I,q⟩:=h;exact⟨σ',H',I.unwish,q⟩
 | cont=>obtain⟨σ',H',I,q⟩:=h;exact⟨σ',H',I.unwish,q⟩
 | ret u=>obtain⟨v,σ',H',I,r,q⟩:=h;exact⟨v,σ',H',I.unwish,r,q⟩
theorem Rw.nox{st:List Stmt}{t:TS}(h:Rw X.nox st t):Rw X st t:=λXM s Z H D I hw =>
 wpAny_mono (h XM s Z H D (I.wish _) hw) (λ_ _ q=>q.unwish) λ_ _ z=>False.elim z
end
section
variable{X:Cx}{st:Stmt}{rest:List Stmt}{t u:TS}{e:Expr}{te:TE}{pos:Pos}
def tNext:TS:=λD Z H=>D.nx Z H
def tSeq(t u:TS):TS:=λD Z H=>t { D with nx:=u D } Z H
theorem af:Rw X [] tNext:=λ_ _ Z H _ I h=>wpAny_execs_nil ⟨Z,H,I,h⟩
theorem y4(h1:PS X st t)(h2:Rw X rest u):Rw X (st::rest) (tSeq t u):=by
 intro XM s Z H D I h;refine wpAny_execs_cons (Z5 (h1 XM s Z H { D with nx:=u D } I h) λf s1 q=>?_);cases f with
 | next =>
  obtain⟨σ',H',I',q⟩:=q;exact h2 XM s1 σ' H' D I' q
 | ret v=>exact q
 | brk=>exact q
 | cont=>exact q
theorem Inv.quiet{XM:ZY}{Z:St}{H:Hp}{s:Shared}(I:Inv X XM Z H s):interactive X.env=false:=by simp[interactive,I.ok.kind]
def tDrop(te:TE):TS:=λD Z H=>te Z H λ_ H1=>D.nx Z H1
theorem au(he:PE X e te)(hs:swapsWith e none pos.line X.env=pure false:=by rfl):PS X (.Expr e pos) (tDrop te):=by
 intro XM s Z H D I h;exact wpAny_Expr_any (Z5 (he XM s Z H _ I h) λv s1 ⟨x,H1,I1,r1,q1⟩=>⟨Z,H1,I1,q1⟩) I.quiet hs
def tRet(te:TE):TS:=λD Z H=>te Z H D.rt
theorem ps_ret(he:PE X e te):PS X (.Return (some e) pos) (tRet te):=by
 intro XM s Z H D I h;exact wpAny_Return_some (Z5 (he XM s Z H _ I h) λv s1 ⟨x,H1,I1,r1,q1⟩=>⟨x,Z,H1,I1,r1,q1⟩)
def tRetN:TS:=λD _ H=>D.rt .non H
theorem ah:PS X (.Return none pos) tRetN:=λ_ _ Z H _ I h=>wpAny_Return_none ⟨.non,Z,H,I,rfl,h⟩
def tIfS(c:TT)(t u:TS):TS:=λD Z H=>c Z H λb H1=>if b=true then t D Z H1 else u D Z H1
theorem ps_if{c:Expr}{a b:List Stmt}{tc:TT}(hc:PT X c tc)(ha:Rw X a t)(hb:Rw X b u):PS X (.If c a b pos) (tIfS tc t u):=by
 intro XM s Z H D I h;refine wpAny_If (Z5 (hc XM s Z H _ I h) λd s1 ⟨H1,I1,q1⟩=>?_);cases d with
 | true=>exact ha XM s1 Z H1 D I1 q1
 | false=>exact hb XM s1 Z H1 D I1 q1
end
abbrev TG:=V->St->Hp->(St->Hp->Prop)->Prop
abbrev rq:=ZQ->St->Hp->(St->Hp->Prop)->Prop
def PG(X:Cx)(target:Expr)(t:TG):Prop :=
 ∀(XM:ZY) (s:Shared) (Z:St) (H:Hp) (v:V) (u:Value) (Q:St->Hp->Prop),Inv X XM Z H s->RelV v u->t v Z H Q ->
  wpAny (model X.prog X.w) X.A (assign target X.env u) (λ_ s'=>∃σ' H',Inv X XM σ' H' s'/\Q σ' H') X.xe s
def PGs(X:Cx)(ts:ZC)(t:rq):Prop :=
 ∀(XM:ZY) (s:Shared) (Z:St) (H:Hp) (vs:ZQ) (us:ZM) (Q:St->Hp->Prop),Inv X XM Z H s->Zf vs us->t vs Z H Q ->
  wpAny (model X.prog X.w) X.A (assignInOrder ((assignEach ts X.env).map (·.2)) us) (λ_ s'=>∃σ' H',Inv X XM σ' H' s'/\Q σ' H') X.xe s
abbrev TSet:=V->V->V->Hp->(Hp->Prop)->Prop
def PSet(X:Cx)(t:TSet):Prop :=
 ∀(XM:ZY) (s:Shared) (Z:St) (H:Hp) (o i v:V) (ov iv u:Value) (Q:Hp->Prop),Inv X XM Z H s->RelV o ov->RelV i iv->RelV v u->t o i v H Q ->
  wpAny (model X.prog X.w) X.A (setItem ov iv u) (λ_ s'=>∃H',Inv X XM Z H' s'/\Q H') X.xe s
section
variable{X:Cx}{pos:Pos}
def dy(i:Nat):TG:=λv Z H Q=>Q (Z.set i (some v)) H
theorem a9{i:Nat}{x:Str}(hN:X.N.Nodup)(hi:X.N[i]?=some x)(hx:Loc X.env.scope x)(hf:X.fn x=true\/X.env.scope.names.lookup x=some .local:=by first | exact .inl rfl | exact .inr rfl | assumption):PG X (.Name x pos) (dy i):=by
 intro XM s Z H v u Q I r h;exact wpAny_assign_Name (Qs I hN hi hx r (λs' I'=>⟨_,H,I',h⟩) hf)
def gNil:rq:=λvs Z H Q=>vs=[]/\Q Z H
inductive Ib(t:TG)(u:rq)(vs:ZQ)(Z:St)(H:Hp)(Q:(St->Hp->Prop)):Prop
 | mk(v r)(Vz:vs=v::r)(Y9:t v Z H λσ' H'=>u r σ' H' Q):Ib t u vs Z H Q
def gCons(t:TG)(u:rq):rq:=λvs Z H Q=>Ib t u vs Z H Q
theorem a8:PGs X [] gNil:=by
 intro XM s Z H vs us Q I r h;obtain⟨e,h⟩:=h;subst e;cases r;exact assignInOrder_nil ⟨Z,H,I,h⟩
theorem ke{e:Expr}{es:ZC}{t:TG}{u:rq}(h1:PG X e t)(h2:PGs X es u)
  (hs:(assignEach (e::es) X.env).map (·.2)=assign e X.env::(assignEach es X.env).map (·.2):=by rfl):PGs X (e::es) (gCons t u):=by
 intro XM s Z H vs us Q I r h;obtain⟨v,vr,e1,h⟩:=h;subst e1;cases r with
 | cons r rr =>
  rw[hs];refine assignInOrder_cons (Z5 (h1 XM s Z H _ _ _ I r h) λ_ s1 ⟨σ1,H1,I1,q1⟩=>?_);exact h2 XM s1 σ1 H1 _ _ Q I1 rr q1
inductive dw(K:W.Frag)(n:Nat)(t:rq)(v:V)(Z:St)(H:Hp)(Q:(St->Hp->Prop)):Prop
 | mk(a xs)(Vz:v=.ref a)(Y9:Y1 K H a xs)(U5:xs.length=n)(L4:t xs Z H Q):dw K n t v Z H Q
def gTup(K:W.Frag)(n:Nat)(t:rq):TG:=λv Z H Q=>dw K n t v Z H Q
theorem pg_tup{es:ZC}{k:Nat}{t:rq}{n:Nat}(hc:X.calm=true)(h:PGs X es t)
  (hn:(assignEach es X.env).length=n:=by rfl) (Li:(assignEach es X.env).findIdx? (·.1)=none:=by rfl):PG X (.Tuple es k pos) (gTup X.K n t):=by
 intro XM s Z H v u Q I r hw;obtain⟨a,xs,e1,hq,hl,hw⟩:=hw;subst e1;cases r;obtain⟨XT,rv,ht,hz⟩:=I.tuple hq;refine assign_Tuple_tuple (I.ok.hd hc) ht (by simp[hn, <-hl,rv.length]) Li λh' hx=>?_;have I1:Inv X XM Z H { s with heap:=h' }:=I.kept (t':=s.toks) λb o e=>hx b o (Dz (Ye e)) e;exact h XM _ Z H xs _ Q I1 (by simpa using rv) hw
def gSub(to ti:TE)(t:TSet):TG:=λv Z H Q=>to Z H λo H1=>ti Z H1 λi H2=>t o i v H2 λH3=>Q Z H3
theorem pg_sub{o i:Expr}{to ti:TE}{t:TSet}(ho:PE X o to)(hi:PE X i ti)(hs:PSet X t)
  (ha:∀v,assign (.Subscript o i pos) X.env v=(do
   let ov <-holding [v] (eval o X.env)
   let iv <-holding [v,ov] (eval i X.env)
   standAt pos
   holding [v,ov,iv] (setItem ov iv v)
   release [v,ov,iv] []):=by intro _;rfl):PG X (.Subscript o i pos) (gSub to ti t):=by
 intro XM s Z H v u Q I r h;rw[ha];refine Zj (wpAny_holding (Z5 (ho XM s Z H _ I h) λov s1 ⟨x,H1,I1,r1,q1⟩=>?_));refine Zj (wpAny_holding (Z5 (hi XM s1 Z H1 _ I1 q1) λiv s2 ⟨y,H2,I2,r2,q2⟩=>?_));refine Zj (wpAny_standAt (Zj (wpAny_holding (Z5 (hs XM s2 Z H2 x y v ov iv u _ I2 r1 r2 r q2) λ_ s3 ⟨H3,I3,q3⟩=>?_))));exact wpAny_release ⟨Z,H3,I3,q3⟩
def tAsg(te:TE)(g:TG):TS:=λD Z H=>te Z H λx H1=>g x Z H1 D.nx
theorem ps_asg{tg e:Expr}{te:TE}{g:TG}(he:PE X e te)(hg:PG X tg g)(hs:swapsWithSole [tg] e pos.line X.env=pure false:=by rfl)(hw:swappedStores [tg] e X.env=pure none:=by rfl)
  (h1:(assignEach [tg] X.env).map (·.2)=[assign tg X.env]:=by rfl):PS X (.Assign [tg] e pos) (tAsg te g):=by
 intro XM s Z H D I h;refine wpAny_Assign_stores (Z5 (he XM s Z H _ I h) λv s1 ⟨x,H1,I1,r1,q1⟩=>?_) hs hw;rw[h1];exact Z5 (hg XM s1 Z H1 x v _ I1 r1 q1) λ_ s2 q=>q
theorem ps_set{i:Nat}{x:Str}{e:Expr}{te:TE}{pos':Pos}(hN:X.N.Nodup)(hi:X.N[i]?=some x)(hx:Loc X.env.scope x)(he:PE X e te)(hs:swapsWith e (some (.Name x pos')) pos.line X.env=pure false:=by rfl)(hf:X.fn x=true\/X.env.scope.names.lookup x=some .local:=by first | exact .inl rfl | exact .inr rfl | assumption) :
  PS X (.Assign [.Name x pos'] e pos) (tAsg te (dy i)):=by
 intro XM s Z H D I h;refine wpAny_Assign_Name (Z5 (he XM s Z H _ I h) λv s1 ⟨y,H1,I1,r1,q1⟩=>?_) hs;exact Qs I1 hN hi hx r1 (λs2 I2=>⟨_,H1,I2,q1⟩) hf
end
section
variable{X:Cx}{pos:Pos}
def tWhile(c:TT)(tb:TS):TS:=λD Z H=>∃W:Nat->St->Hp->Prop,(∃m,W m Z H)/\∀m Z H,W m Z H ->
 c Z H λb H1=>if b=true then ∃N:St->Hp->Prop,(∀σ' H',N σ' H'->∃m',m'<m/\W m' σ' H')/\tb { D with nx:=N,ct:=N,bk:=D.nx } Z H1 else D.nx Z H1
theorem y6{c:Expr}{body:List Stmt}{tc:TT}{tb:TS}(hp:PassesOwn (model X.prog X.w) X.A X.env X.xe)(hc:PT X c tc)(hb:Rw X body tb):PS X (.While c body [] pos) (tWhile tc tb):=by
 intro XM s Z H D I h;obtain⟨W,⟨m0,w0⟩,turn⟩:=h;refine wpAny_While (codeAny_whileLoop (λn s'=>∃σ' H',Inv X XM σ' H' s'/\W n σ' H') ?_ m0 ⟨Z,H,I,w0⟩);rintro n s1 ⟨σ1,H1,I1,w1⟩;refine wpAny_passesOwn hp (Z5 (hc XM s1 σ1 H1 _ I1 (turn n σ1 H1 w1)) λb s2 ⟨H2,I2,q2⟩=>?_);cases b with
 | true =>
  obtain⟨N,hN,q2⟩:=q2;rw[if_pos rfl];refine wpAny_passesOwn hp (Z5 (hb XM s2 σ1 H2 _ I2 q2) λf s3 q3=>?_);cases f with
  | next =>
   obtain⟨σ3,H3,I3,n3⟩:=q3;obtain⟨m',hm,w3⟩:=hN σ3 H3 n3;exact⟨m',hm,σ3,H3,I3,w3⟩
  | cont =>
   obtain⟨σ3,H3,I3,n3⟩:=q3;obtain⟨m',hm,w3⟩:=hN σ3 H3 n3;exact⟨m',hm,σ3,H3,I3,w3⟩
  | brk=>exact q3
  | ret v=>exact q3
 | false =>
  rw[if_neg D5];exact wpAny_execs_nil ⟨σ1,H2,I2,q2⟩
end
structure It where
 go:Nat->Hp->Prop
 yld:Nat->Hp->V->Hp->Prop
 stop:Nat->Hp->Prop
def Nk(X:Cx)(XM:ZY)(H:Hp)(b:Addr):Prop :=
 H b=none/\b≠X.env.locals/\b∉X.fs/\(b∈X.ex\/X.s₀.heap.objs.size<=b)/\(∀x c,X.env.cells.lookup x=some c->c≠b)/\∀p∈X.pn++XM,p.1≠b
theorem Inv.fpOk{X:Cx}{XM:ZY}{Z:St}{H H':Hp}{s:Shared}{b:Addr}(I:Inv X XM Z H s)(hb:s.heap.objs.size<=b)(hn:H' b=none):Nk X XM H' b:=by
 refine⟨hn,Nat.ne_of_gt (Rv I.lt hb),I.nofs hb,.inr (D0 I.sz hb),λx c e z=>?_,λp hp z=>?_⟩
 .obtain⟨v,q⟩:=I.cell x c e;exact absurd (Rv q.lt (by rw[z];exact hb)) (Nat.lt_irrefl _)
 .exact absurd (Rv (Ye (I.pin p hp).1) (by rw[z];exact hb)) (Nat.lt_irrefl _)
structure Turn(P:Program)(w:World)(K:W.Frag)(tg:Expr)(J:It)(fp:ZU)(it:Addr)(tn:Nat->Heap->Prop):Prop where
 mem:it∈fp
 obj:∀i h,tn i h->∀b∈fp,∃o,h.get? b=some o/\∀v,o.data≠.cell v
 keep:∀i h h',tn i h->(∀b∈fp,∀o,h.get? b=some o->h'.get? b=some o)->tn i h'
 item:∀(X:Cx),X.prog=P->X.w=w->X.K=K->X.calm=true->∀(i:Nat) (XM:ZY) (s:Shared) (Z:St) (H:Hp) (E:ZW),Inv X XM Z H s->(∀b∈fp,Nk X XM H b)->tn i s.heap->J.go i H ->
  wpAny (model P w) X.A (pyNext (.ref it)) (λr s1=>∃u,r=some u /\
   wpAny (model P w) X.A (letOwnedTupleGo tg (.ref it) u) (λ_ s2=>∃x H',Inv X XM Z H' s2/\RelV x u/\J.yld i H x H'/\tn (i+1) s2.heap/\∀b∈fp,H' b=none) E s1) E s
 done:∀(X:Cx),X.prog=P->X.w=w->X.K=K->X.calm=true->∀(i:Nat) (XM:ZY) (s:Shared) (Z:St) (H:Hp) (E:ZW),Inv X XM Z H s->(∀b∈fp,Nk X XM H b)->tn i s.heap->J.stop i H ->
  wpAny (model P w) X.A (pyNext (.ref it)) (λr s1=>r=none/\Inv X XM Z H s1) E s
 self:∀(A:Around) (i:Nat) (s:Shared) (Q:ZW) (E:ZW),tn i s.heap->Q (.ref it) s->wpAny (model P w) A (pyIter (.ref it)) Q E s
abbrev TI:=St->Hp->(It->Hp->Prop)->Prop
def PIE(X:Cx)(XM:ZY)(Z:St)(tg:Expr)(R:It->Hp->Prop)(itv:Value)(s2:Shared):Prop :=
 ∃(it:Addr) (fp:ZU) (tn:Nat->Heap->Prop) (J:It) (H':Hp),itv=.ref it/\Inv X XM Z H' s2/\Turn X.prog X.w X.K tg J fp it tn/\tn 0 s2.heap/\(∀b∈fp,Nk X XM H' b)/\R J H'
def PI(X:Cx)(tg iter:Expr)(wi:TI):Prop :=
 ∀(XM:ZY) (s:Shared) (Z:St) (H:Hp) (R:It->Hp->Prop),Inv X XM Z H s->wi Z H R ->
  wpAny (model X.prog X.w) X.A (eval iter X.env) (λv s1=>wpAny (model X.prog X.w) X.A (pyIter v) (PIE X XM Z tg R) X.xe s1) X.xe s
theorem P6{M:Model}{A:Around}{E:ZW}{s:Shared}{tg:Expr}{it:Addr}{u:Value}{o:Obj}{n:String}{vs:ZN}{Q:ZO}(ho:s.heap.get? it=some o)(hc:o.cls=.type n)(hd:o.data=.fields vs)
    (hn:["enumerate","zip","dict_itemiterator","dict_reverseitemiterator","odict_iterator","itertools.zip_longest","itertools.pairwise"].contains n=false) (hQ:Q () s):wpAny M A (letOwnedTupleGo tg (.ref it) u) Q E s:=by
  unfold letOwnedTupleGo
  cases tg<;>first
    | exact Zr hQ
    | (cases u<;>first
        | exact Zr hQ
        | (refine Zj (wpAny_load ho ?_)
           rw[hc,hd];show wpAny M A (if (["enumerate","zip","dict_itemiterator","dict_reverseitemiterator","odict_iterator","itertools.zip_longest","itertools.pairwise"].contains n&&vs[0]? == some (rawInt _))=true then _ else _) Q E s;rw[if_neg (by intro h;rw[hn,Bool.false_and]at h;cases h)];exact Zr hQ))
def Itl(K:W.Frag)(a:Addr):It :=
 ⟨λi H=>∃xs x,V0 K H a xs/\xs[i]?=some x,λi H x H'=>H'=H/\∀xs,V0 K H a xs->xs[i]?=some x,λi H=>∃xs,V0 K H a xs/\xs.length<=i⟩
def Itt(K:W.Frag)(a:Addr):It :=
 ⟨λi H=>∃xs x,Y1 K H a xs/\xs[i]?=some x,λi H x H'=>H'=H/\∀xs,Y1 K H a xs->xs[i]?=some x,λi H=>∃xs,Y1 K H a xs/\xs.length<=i⟩
def Itr(lo:Int)(n:Nat):It:=⟨λi _=>i<n,λi H x H'=>H'=H/\x=.int (lo+i),λi _=>n<=i⟩
theorem Xd{P:Program}{w:World}{K:W.Frag}{tg:Expr}(a it:Addr):Turn P w K tg (Itl K a) [it] it (λi h=>h.IsListIter it a i) where
 mem:=by simp
 obj:=λi h st b hb=>by
  have e:b=it:=by simpa using hb
  subst e;obtain⟨o,e,c,d⟩:=st;exact⟨o,e,λv z=>by rw[d]at z;cases z⟩
 keep:=λi h h' st k=>st.at λo e=>k it XI o e
 item:=by
  intro X hP hw hK hc i XM s Z H E I hf st hg;subst hP hw hK;obtain⟨xs,x,hq,hx⟩:=hg;obtain⟨XT,rv,p,hz⟩:=I.list hq;obtain⟨u,hu,ru⟩:=rv.get hx;obtain⟨f0,f1,f2,f3,f4,f5⟩:=hf it XI;refine wpAny_pyNext_list_item st p.isList (x:=u) (by simpa using hu) λh' Sy sb=>?_;have I1:Inv X XM Z H { s with heap:=h' }:=I.turned (t':=s.toks) (λb o hb e=>(sb.2 b hb).trans e) f0 f1 f3 f4 f5;obtain⟨o,e,c,d⟩:=id Sy;exact⟨u,rfl,P6 (s:={ s with heap:=h' }) e c d XA ⟨x,H,I1,ru,⟨rfl,λys hy=>by rw[I.list_inj hy hq];exact hx⟩,Sy,λb hb=>(hf b hb).1⟩⟩
 done:=by
  intro X hP hw hK hc i XM s Z H E I hf st hg;subst hP hw hK;obtain⟨xs,hq,hx⟩:=hg;obtain⟨XT,rv,p,hz⟩:=I.list hq;obtain⟨f0,f1,f2,f3,f4,f5⟩:=hf it XI;have hl:=rv.length;exact wpAny_pyNext_list_end (I.ok.hd hc) st p.isList (by simp;omega) λh' eb=>⟨rfl,I.turned (t':=s.toks) (λb o hb e=>eb b o hb e) f0 f1 f3 f4 f5⟩
 self:=λ_ _ _ _ _ st h=>wpAny_pyIter_listiter st h
theorem S9{P:Program}{w:World}{K:W.Frag}{tg:Expr}(a it:Addr):Turn P w K tg (Itt K a) [it] it (λi h=>h.IsTupleIter it a i) where
 mem:=by simp
 obj:=λi h st b hb=>by
  have e:b=it:=by simpa using hb
  subst e;obtain⟨o,e,c,d⟩:=st;exact⟨o,e,λv z=>by rw[d]at z;cases z⟩
 keep:=λi h h' st k=>st.at λo e=>k it XI o e
 item:=by
  intro X hP hw hK hc i XM s Z H E I hf st hg;subst hP hw hK;obtain⟨xs,x,hq,hx⟩:=hg;obtain⟨XT,rv,p,hz⟩:=I.tuple hq;obtain⟨u,hu,ru⟩:=rv.get hx;obtain⟨f0,f1,f2,f3,f4,f5⟩:=hf it XI;refine wpAny_pyNext_tuple_item st (show s.heap.IsTuple a XT.toArray from p) (x:=u) (by simpa using hu) λh' Sy sb=>?_;have I1:Inv X XM Z H { s with heap:=h' }:=I.turned (t':=s.toks) (λb o hb e=>(sb.2 b hb).trans e) f0 f1 f3 f4 f5;obtain⟨o,e,c,d⟩:=id Sy;exact⟨u,rfl,P6 (s:={ s with heap:=h' }) e c d XA ⟨x,H,I1,ru,⟨rfl,λys hy=>by rw[I.tuple_inj hy hq];exact hx⟩,Sy,λb hb=>(hf b hb).1⟩⟩
 done:=by
  intro X hP hw hK hc i XM s Z H E I hf st hg;subst hP hw hK;obtain⟨xs,hq,hx⟩:=hg;obtain⟨XT,rv,p,hz⟩:=I.tuple hq;obtain⟨f0,f1,f2,f3,f4,f5⟩:=hf it XI;have hl:=rv.length;exact wpAny_pyNext_tuple_end (I.ok.hd hc) st (show s.heap.IsTuple a XT.toArray from p) (by simp;omega) λh' eb=>⟨rfl,I.turned (t':=s.toks) (λb o hb e=>eb b o hb e) f0 f1 f3 f4 f5⟩
 self:=λ_ _ _ _ _ st h=>wpAny_pyIter_tupleiter st h
theorem Ez{P:Program}{w:World}{K:PySem.W.Frag}{tg:Expr}(it:Addr)(lo:Int)(n:Nat):Turn P w K tg (Itr lo n) [it] it (λi h=>IsRangeIter h it (lo+(i:Nat)*1) ((n:Int)-(i:Nat)) 1) where
 mem:=by simp
 obj:=λi h st b hb=>by
  have e:b=it:=by simpa using hb
  subst e
  exact⟨_,st,λv z=>by
   have z':Data.fields _=Data.cell v:=z;cases z'⟩
 keep:=λi h h' st k=>k it XI _ st
 item:=by
  intro X hP hw hK hc i XM s Z H E I hf st hg;subst hP hw hK;obtain⟨f0,f1,f2,f3,f4,f5⟩:=hf it XI;have W:=Walks.range (prog:=X.prog) (w:=X.w) (I.ok.hd hc) it lo 1 n;refine W.item i s _ _ hg st λv h' tk hv Sy kk=>?_;obtain⟨t,rfl⟩:=hv;have I1:Inv X XM Z H { s with heap:=h',toks:=tk }:=I.turned (λb o hb e=>kk b o (by simpa using hb) e) f0 f1 f3 f4 f5;refine⟨_,rfl,P6 (s:={ s with heap:=h',toks:=tk }) (n:="range_iterator") Sy rfl rfl XA ⟨.int (lo+i),H,I1,⟨t,?_⟩,⟨rfl,rfl⟩,Sy,λb hb=>(hf b hb).1⟩⟩;rw[Int.mul_one]
 done:=by
  intro X hP hw hK hc i XM s Z H E I hf st hg;subst hP hw hK;obtain⟨f0,f1,f2,f3,f4,f5⟩:=hf it XI;exact wpAny_pyNext_range_end (I.ok.hd hc) st (by have:n<=i:=hg;omega) λh' eb=>⟨rfl,I.turned (t':=s.toks) (λb o hb e=>eb b o hb e) f0 f1 f3 f4 f5⟩
 self:=λ_ _ _ _ _ st h=>wpAny_pyIter_rangeiter st h
section
variable{X:Cx}{tg:Expr}
inductive Iy(K:W.Frag)(R:(It->Hp->Prop))(x:V)(H1:Hp):Prop
 | mk(a)(Vz:x=.ref a)(Y9:(∃xs,V0 K H1 a xs))(U5:R (Itl K a) H1):Iy K R x H1
def iList(K:W.Frag)(tl:TE):TI:=λZ H R=>tl Z H λx H1=>Iy K R x H1
inductive m7(K:W.Frag)(R:(It->Hp->Prop))(x:V)(H1:Hp):Prop
 | mk(a)(Vz:x=.ref a)(Y9:(∃xs,Y1 K H1 a xs))(U5:R (Itt K a) H1):m7 K R x H1
def iTup(K:W.Frag)(tl:TE):TI:=λZ H R=>tl Z H λx H1=>m7 K R x H1
theorem ai{l:Expr}{tl:TE}(hl:PE X l tl):PI X tg l (iList X.K tl):=by
 intro XM s Z H R I h;refine Z5 (hl XM s Z H _ I h) λv s1 ⟨x,H1,I1,r1,q1⟩=>?_;obtain⟨a,e,⟨xs,hq⟩,q⟩:=q1;subst e;cases r1;obtain⟨XT,rv,p,hz⟩:=I1.list hq;refine wpAny_pyIter_list p.isList ?_;refine⟨s1.heap.objs.size,[s1.heap.objs.size],_,_,H1,rfl,I1.kept (t':=s1.toks) λb o e=>Yn _ e,Xd a _,⟨_,Ur _ rfl,rfl,rfl⟩,λb hb=>?_,q⟩;have e:b=s1.heap.objs.size:=by simpa using hb
 subst e;exact I1.fpOk (Yk _) (I1.hok.fresh (Yk _))
theorem pi_tup{l:Expr}{tl:TE}(hl:PE X l tl):PI X tg l (iTup X.K tl):=by
 intro XM s Z H R I h;refine Z5 (hl XM s Z H _ I h) λv s1 ⟨x,H1,I1,r1,q1⟩=>?_;obtain⟨a,e,⟨xs,hq⟩,q⟩:=q1;subst e;cases r1;obtain⟨XT,rv,p,hz⟩:=I1.tuple hq;refine wpAny_pyIter_tuple (show s1.heap.IsTuple a XT.toArray from p) ?_;refine⟨s1.heap.objs.size,[s1.heap.objs.size],_,_,H1,rfl,I1.kept (t':=s1.toks) λb o e=>Yn _ e,S9 a _,⟨_,Ur _ rfl,rfl,rfl⟩,λb hb=>?_,q⟩;have e:b=s1.heap.objs.size:=by simpa using hb
 subst e;exact I1.fpOk (Yk _) (I1.hok.fresh (Yk _))
theorem yh{XM:ZY}{Z:St}{H:Hp}{s:Shared}{R:It->Hp->Prop}{E:ZW}{lo hi:Int}{t u v:Tok}{tk:Nat}(I:Inv X XM Z H s)(h1:-(2 ^ 62)<=lo)(h2:lo<2 ^ 62)(h3:-(2 ^ 62)<=hi)(h4:hi<2 ^ 62)
  (q:R (Itr lo (hi-lo).toNat) H):wpAny (model X.prog X.w) X.A (pyIter (.ref s.heap.objs.size)) (PIE X XM Z tg R) E { s with heap:=s.heap.push { cls:=.type "range",data:=.fields #[.int lo t,.int hi u,.int 1 v] },toks:=tk }:=by
 refine wpAny_pyIter_range (IsRange.new ..) (small_one h1 h2 h3 h4) ?_;have I1:Inv X XM Z H { s with heap:=s.heap.push { cls:=.type "range",data:=.fields #[.int lo t,.int hi u,.int 1 v] },toks:=tk }:=I.kept λb o e=>Yn _ e
 refine⟨(s.heap.push { cls:=.type "range",data:=.fields #[.int lo t,.int hi u,.int 1 v] }).objs.size,[(s.heap.push { cls:=.type "range",data:=.fields #[.int lo t,.int hi u,.int 1 v] }).objs.size],_,_,H,rfl,
  I1.kept (t':=tk) λb o e=>Yn _ e,Ez _ lo (hi-lo).toNat,?_,λb hb=>?_,q⟩
 .have e1:lo+((0:Nat):Int)*1=lo:=by simp
  have e2:(((hi-lo).toNat:Nat):Int)-((0:Nat):Int)=Builtin.Range.rangeSize lo hi 1:=by rw[rangeSize_one];split<;>omega
  show IsRangeIter _ _ (lo+((0:Nat):Int)*1) ((((hi-lo).toNat:Nat):Int)-((0:Nat):Int)) 1;rw[e1,e2];exact Ur _ rfl
 .have e:b=(s.heap.push { cls:=.type "range",data:=.fields #[.int lo t,.int hi u,.int 1 v] }).objs.size:=by simpa using hb
  subst e;exact I1.fpOk (Yk _) (I1.hok.fresh (Yk _))
inductive Iv(R:(It->Hp->Prop))(vs:ZQ)(H1:Hp):Prop
 | mk(j:Int)(Vz:vs=[.int j])(Y9:-(2 ^ 62)<=j)(U5:j<2 ^ 62)(L4:R (Itr 0 j.toNat) H1):Iv R vs H1
def iRng1(ta:TA):TI:=λZ H R=>ta Z H λvs H1=>Iv R vs H1
theorem X9{a:Expr}{ta:TA}{p pos:Pos}(hg:Gl X "range")(hm:X.mg "range"=none)(ha:PA X [a] ta)(hs:starEach [a] X.env=[(false,eval a X.env)]:=by rfl):PI X tg (.Call (.Name "range" p) [a] [] pos) (iRng1 ta):=by
 intro XM s Z H R I h;refine Call_ (J4 I hg hm boot_range (callWith_type1 (Z5 (ha pos XM s Z H _ I h) λus s1 ⟨vs,H1,I1,r1,q1⟩=>?_) hs rfl));obtain⟨j,e,q1,q2,q⟩:=q1;subst e;cases r1 with
 | cons r rr =>
  cases rr;obtain⟨t,rfl⟩:=r;exact call_range_1 (yh I1 XH XH q1 q2 (by simpa using q))
def tFor(wi:TI)(g:TG)(tb:TS):TS:=λD Z H=>wi Z H λJ H1=>∃W:Nat->Nat->St->Hp->Prop,(∃m,W 0 m Z H1)/\∀i m Z H,W i m Z H ->
 (J.stop i H/\D.nx Z H)\/(J.go i H/\∃N:St->Hp->Prop,(∀σ' H',N σ' H'->∃m',m'<m/\W (i+1) m' σ' H')/\∀x H',J.yld i H x H'->g x Z H' λσ2 H2=>tb { D with nx:=N,ct:=N,bk:=D.nx } σ2 H2)
def Ts(fp:ZU)(h:Heap):ZY:=fp.filterMap λb=>(h.get? b).map λo=>(b,o)
theorem Jq{fp:ZU}{h:Heap}{b:Addr}{o:Obj}(hb:b∈fp)(e:h.get? b=some o):(b,o)∈Ts fp h:=List.mem_filterMap.mpr ⟨b,hb,by rw[e];rfl⟩
theorem zy{fp:ZU}{h:Heap}{p:Addr×Obj}(hp:p∈Ts fp h):p.1∈fp/\h.get? p.1=some p.2:=by
 obtain⟨b,hb,e⟩:=List.mem_filterMap.mp hp;cases q:h.get? b with
 | none=>rw[q]at e;cases e
 | some o =>
  rw[q]at e;have e':(b,o)=p:=Je e;subst e';exact⟨hb,q⟩
theorem Inv.pinned{XM:ZY}{Z:St}{H:Hp}{s:Shared}{fp:ZU}(I:Inv X XM Z H s)(hf:∀b∈fp,Nk X XM H b)(ho:∀b∈fp,∃o,s.heap.get? b=some o/\∀v,o.data≠.cell v):Inv X (XM++Ts fp s.heap) Z H s :=
 I.pins_of λp hp=>(qj.mp hp).elim (λz=>I.pin p (nk _ z)) λz=>by
  obtain⟨hb,e⟩:=zy z;obtain⟨f0,f1,f2,_⟩:=hf p.1 hb;obtain⟨o,e',d⟩:=ho p.1 hb;rw[e]at e';cases e';exact⟨e,f0,f1,f2,d⟩
theorem Inv.unpinned{XM pl:ZY}{Z:St}{H:Hp}{s:Shared}(I:Inv X (XM++pl) Z H s):Inv X XM Z H s:=I.pins_of λp hp=>I.pin p (nk _ (List.mem_append_left _ hp))
theorem ps_for{iter:Expr}{body:List Stmt}{wi:TI}{g:TG}{tb:TS}{pos:Pos}(hp:PassesOwn (model X.prog X.w) X.A X.env X.xe)(hc:X.calm=true)(hi:PI X tg iter wi)(hg:PG X tg g)(hb:Rw X body tb)
  (hs:∀x,foldedSetIterable iter X.env x=pure x:=by intro _;rfl):PS X (.For tg iter body [] pos) (tFor wi g tb):=by
 intro XM s Z H D I h;refine wpAny_For (Z5 (hi XM s Z H _ I h) λv s1 h1=>Z5 h1 λitv s2 h2=>?_) hs;obtain⟨it,fp,tn,J,H2,e,I2,T,st2,f2,W,⟨m0,w0⟩,turn⟩:=h2;subst e;have stat:∀{H':Hp},(∀b∈fp,H' b=none)->∀b∈fp,Nk X XM H' b:=λhn b hb=>⟨hn b hb,(f2 b hb).2⟩;refine codeAny_forLoop_any (λn s'=>∃i σ' H',Inv X XM σ' H' s'/\tn i s'.heap/\(∀b∈fp,H' b=none)/\W i n σ' H') ?_ m0 ⟨0,Z,H2,I2,st2,λb hb=>(f2 b hb).1,w0⟩;rintro n s3 ⟨i,σ3,H3,I3,st3,fr3,w3⟩;rcases turn i n σ3 H3 w3 with ⟨stop,qn⟩ | ⟨go,N,hN,step⟩
 .refine wpAny_passesOwn hp (Z5 (T.done X rfl rfl rfl hc i XM s3 σ3 H3 X.xe I3 (stat fr3) st3 stop) λr s4 ⟨hr,I4⟩=>?_);subst hr;exact wpAny_execs_nil ⟨σ3,H3,I4,qn⟩
 .refine wpAny_passesOwn hp (Z5 (T.item X rfl rfl rfl hc i XM s3 σ3 H3 X.xe I3 (stat fr3) st3 go) λr s4 ⟨u,hr,h4⟩=>?_);subst hr;refine wpAny_passesOwn hp (Z5 h4 λ_ s5 ⟨x,H5,I5,r5,y5,st5,fr5⟩=>?_);have I5':=I5.pinned (stat fr5) (T.obj _ _ st5);refine wpAny_passesOwn hp (Z5 (hg _ s5 σ3 H5 x u _ I5' r5 (step x H5 y5)) λ_ s6 ⟨σ6,H6,I6,q6⟩=>?_);refine wpAny_passesOwn hp (Z5 (hb _ s6 σ6 H6 _ I6 q6) λf s7 q7=>?_)
  have again:∀{σ7:St} {H7:Hp},Inv X (XM++Ts fp s5.heap) σ7 H7 s7->N σ7 H7->∃m,m<n/\∃i σ' H',Inv X XM σ' H' s7/\tn i s7.heap/\(∀b∈fp,H' b=none)/\W i m σ' H':=λ{σ7 H7} I7 n7=>by
   obtain⟨m',hm,w7⟩:=hN σ7 H7 n7;refine⟨m',hm,i+1,σ7,H7,I7.unpinned,T.keep _ _ _ st5 λb hb o e=>(I7.pin (b,o) (nk _ (nk _ (Jq hb e)))).1,λb hb=>?_,w7⟩;obtain⟨o,e,d⟩:=T.obj _ _ st5 b hb;exact(I7.pin (b,o) (nk _ (nk _ (Jq hb e)))).2.1
  cases f with
  | next=>obtain⟨σ7,H7,I7,n7⟩:=q7;exact again I7 n7
  | cont=>obtain⟨σ7,H7,I7,n7⟩:=q7;exact again I7 n7
  | brk=>obtain⟨σ7,H7,I7,q7⟩:=q7;exact⟨σ7,H7,I7.unpinned,q7⟩
  | ret v=>obtain⟨x7,σ7,H7,I7,r7,q7⟩:=q7;exact⟨x7,σ7,H7,I7.unpinned,r7,q7⟩
end
abbrev R2:=V->V->Hp->VK->Prop
def Ny(X:Cx)(f:Value->Value->Sem Value)(r:R2):Prop :=
 ∀(XM:ZY) (s:Shared) (Z:St) (H:Hp) (x y:V) (v u:Value) (Q:VK),Inv X XM Z H s->RelV x v->RelV y u->r x y H Q ->
  wpAny (model X.prog X.w) X.A (f v u) (EP X XM Z Q) X.xe s
def UnR(X:Cx)(f:Value->Sem Value)(r:V->Hp->VK->Prop):Prop :=
 ∀(XM:ZY) (s:Shared) (Z:St) (H:Hp) (x:V) (v:Value) (Q:VK),Inv X XM Z H s->RelV x v->r x H Q ->
  wpAny (model X.prog X.w) X.A (f v) (EP X XM Z Q) X.xe s
def Yb(X:Cx)(f:Value)(r:ZQ->Hp->VK->Prop):Prop :=
 ∀(XM:ZY) (s:Shared) (Z:St) (H:Hp) (xs:ZQ) (us:ZM) (Q:VK),Inv X XM Z H s->Zf xs us->r xs H Q ->
  wpAny (model X.prog X.w) X.A (call f us) (EP X XM Z Q) X.xe s
def tOp(r:R2)(ta tb:TE):TE:=λZ H Q=>ta Z H λx H1=>tb Z H1 λy H2=>r x y H2 Q
def tUn(r:V->Hp->VK->Prop)(ta:TE):TE:=λZ H Q=>ta Z H λx H1=>r x H1 Q
inductive rI_I(C:Int->Int->Prop)(g:Int->Int->V)(x:V)(y:V)(H:Hp)(Q:VK):Prop
 | mk(i j)(Vz:x=.int i)(Y9:y=.int j)(U5:C i j)(L4:Q (g i j) H):rI_I C g x y H Q
def rI(C:Int->Int->Prop)(g:Int->Int->V):R2:=λx y H Q=>rI_I C g x y H Q
inductive Zxs(g:Int->Int->V)(x:V)(y:V)(H:Hp)(Q:VK):Prop
 | mk(i j)(Vz:x=.int i)(Y9:y=.int j)(U5:Q (g i j) H):Zxs g x y H Q
def rI0(g:Int->Int->V):R2:=λx y H Q=>Zxs g x y H Q
inductive rU_I(g:Int->V)(x:V)(H:Hp)(Q:VK):Prop
 | mk(i)(Vz:x=.int i)(Y9:Q (g i) H):rU_I g x H Q
def rU(g:Int->V):V->Hp->VK->Prop:=λx H Q=>rU_I g x H Q
section
variable{X:Cx}{a b c:Expr}{ta tb tc:TE}{pos:Pos}
theorem binT(ha:PE X a ta)(hb:PE X b tb){XM:ZY}{s:Shared}{Z:St}{H:Hp}{R:V->V->Hp->Prop}(I:Inv X XM Z H s)
  (h:ta Z H λx H1=>tb Z H1 λy H2=>R x y H2) {Q:ZW} {f:Value->Value->Sem Value}
  (hf:∀v u s2 x y H2,Inv X XM Z H2 s2->RelV x v->RelV y u->R x y H2->wpAny (model X.prog X.w) X.A (f v u) Q X.xe s2) :
  wpAny (model X.prog X.w) X.A (eval a X.env) (λv s₁=>wpAny (model X.prog X.w) X.A (eval b X.env) (λu s₂=>wpAny (model X.prog X.w) X.A (f v u) Q X.xe s₂) X.xe s₁) X.xe s:=by
 refine Z5 (ha XM s Z H _ I h) λv s1 ⟨x,H1,I1,r1,q1⟩=>?_;refine Z5 (hb XM s1 Z H1 _ I1 q1) λu s2 ⟨y,H2,I2,r2,q2⟩=>?_;exact hf v u s2 x y H2 I2 r1 r2 q2
theorem pe_op{op:Operator}{r:R2}(ho:Ny X (binaryOp op) r)(ha:PE X a ta)(hb:PE X b tb):PE X (.BinOp a op b pos) (tOp r ta tb):=by
 intro XM s Z H Q I h;exact wpAny_BinOp (binT ha hb I h λv u s2 x y H2 I2 rx ry q=>ho XM s2 Z H2 x y v u Q I2 rx ry q)
theorem pe_un{op:UnaryOp}{r:V->Hp->VK->Prop}(ho:UnR X (unaryOp op) r)(ha:PE X a ta):PE X (.UnaryOp op a pos) (tUn r ta):=by
 intro XM s Z H Q I h;exact UnaryOp_ (Z5 (ha XM s Z H _ I h) λv s1 ⟨x,H1,I1,r1,q1⟩=>ho XM s1 Z H1 x v Q I1 r1 q1)
theorem opI{f:Value->Value->Sem Value}{C:Int->Int->Prop}{g:Int->Int->Int}
  (rule:∀(i j:Int) (t u:Tok) (s:Shared) (Q:ZW) (E:ZW),C i j->Q (.int (g i j) s.toks) { s with toks:=s.toks+1 }->wpAny (model X.prog X.w) X.A (f (.int i t) (.int j u)) Q E s) :
  Ny X f (rI C λi j=>.int (g i j)):=by
 intro XM s Z H x y v u Q I rx ry h;obtain⟨i,j,rfl,rfl,hc,q⟩:=h;obtain⟨t,rfl⟩:=rx;obtain⟨t',rfl⟩:=ry;exact rule i j t t' s _ _ hc ⟨.int (g i j),H,I.tok _,⟨_,rfl⟩,q⟩
theorem opI0{f:Value->Value->Sem Value}{g:Int->Int->Int}
  (rule:∀(i j:Int) (t u:Tok) (s:Shared) (Q:ZW) (E:ZW),Q (.int (g i j) s.toks) { s with toks:=s.toks+1 }->wpAny (model X.prog X.w) X.A (f (.int i t) (.int j u)) Q E s) :
  Ny X f (rI0 λi j=>.int (g i j)):=by
 intro XM s Z H x y v u Q I rx ry h;obtain⟨i,j,rfl,rfl,q⟩:=h;obtain⟨t,rfl⟩:=rx;obtain⟨t',rfl⟩:=ry;exact rule i j t t' s _ _ ⟨.int (g i j),H,I.tok _,⟨_,rfl⟩,q⟩
theorem o9{f:Value->Value->Sem Value}{g:Int->Int->Bool}
  (rule:∀(i j:Int) (t u:Tok) (s:Shared) (Q:ZW) (E:ZW),Q (.bool (g i j)) s->wpAny (model X.prog X.w) X.A (f (.int i t) (.int j u)) Q E s) :
  Ny X f (rI0 λi j=>.bl (g i j)):=by
 intro XM s Z H x y v u Q I rx ry h;obtain⟨i,j,rfl,rfl,q⟩:=h;obtain⟨t,rfl⟩:=rx;obtain⟨t',rfl⟩:=ry;exact rule i j t t' s _ _ ⟨.bl (g i j),H,I,rfl,q⟩
def CDiv(i j:Int):Prop:=0<j/\j<1073741824
def CPow(i j:Int):Prop:=0<=j/\j<=1000000/\i.natAbs<2 ^ 64
def CMul(i j:Int):Prop:=(-(2 ^ 64)<i/\i<2 ^ 64)\/(-(2 ^ 64)<j/\j<2 ^ 64)
theorem CMul.ok{i j:Int}(h:CMul i j):IntMulOk i j:=by
 rcases h with ⟨h1,h2⟩ | ⟨h1,h2⟩
 .exact .of_left (intBits_le_64 h1 h2)
 .exact .of_right (intBits_le_64 h1 h2)
theorem op_add:Ny X (binaryOp .Add) (rI0 λi j=>.int (i+j)):=opI0 λ_ _ _ _ _ _ _ q=>add_int q
theorem op_mul:Ny X (binaryOp .Mult) (rI CMul λi j=>.int (i*j)):=opI λ_ _ _ _ _ _ _ hc q=>mul_int q hc.ok
theorem o5:Ny X (binaryOp .FloorDiv) (rI CDiv λi j=>.int (i / j)):=opI λi j _ _ _ _ _ hc q=>by
 have h1:(0:Int)<j:=hc.1;have h2:j<1073741824:=hc.2;exact floordiv_int XH (by rw[Int.fdiv_eq_ediv_of_nonneg i XH];exact q) (.inl (PyProof.noPylong_small XH))
theorem op_mod:Ny X (binaryOp .Mod) (rI (λ_ j=>0<j) λi j=>.int (i % j)):=opI λi j _ _ _ _ _ hc q=>by
 have h1:(0:Int)<j:=hc;exact mod_int' XH (by rw[Int.fmod_eq_emod_of_nonneg i XH];exact q)
theorem op_pow:Ny X (binaryOp .Pow) (rI CPow λi j=>.int (i ^ j.toNat)):=opI λ_ _ _ _ _ _ _ hc q=>pow_int_small hc.1 hc.2.1 hc.2.2 q
theorem unI{f:Value->Sem Value}{g:Int->Int}
  (rule:∀(i:Int) (t:Tok) (s:Shared) (Q:ZW) (E:ZW),Q (.int (g i) s.toks) { s with toks:=s.toks+1 }->wpAny (model X.prog X.w) X.A (f (.int i t)) Q E s) :
  UnR X f (rU λi=>.int (g i)):=by
 intro XM s Z H x v Q I rx h;obtain⟨i,rfl,q⟩:=h;obtain⟨t,rfl⟩:=rx;exact rule i t s _ _ ⟨.int (g i),H,I.tok _,⟨_,rfl⟩,q⟩
theorem un_neg:UnR X (unaryOp .USub) (rU λi=>.int (-i)):=unI λ_ _ _ _ _ q=>neg_int q
end
noncomputable def scal:V->V->Bool
 | .non,.non=>true | .non,.int _=>true | .int _,.non=>true | .non,.bl _=>true | .bl _,.non=>true | .non,.str _=>true | .str _,.non=>true
 | .int _,.int _=>true | .bl _,.bl _=>true | .str _,.str _=>true | .byt _,.byt _=>true
 | .int _,.str _=>true | .str _,.int _=>true | .bl _,.str _=>true | .str _,.bl _=>true
 | _,_=>false
section
variable{X:Cx}{a b c:Expr}{ta tb tc:TE}{pos:Pos}
theorem di{XM:ZY}{Z:St}{H:Hp}{s:Shared}{Q:VK}{k k':Bool}(I:Inv X XM Z H s)(q:Q (.bl k) H)(e:k=k'):EP X XM Z Q (.bool k') s:=by
 subst e;exact⟨.bl k,H,I,rfl,q⟩
theorem op_lt:Ny X (compareOp .Lt) (rI0 λi j=>.bl (decide (i<j))):=o9 λ_ _ _ _ _ _ _ q=>lt_int q
theorem op_le:Ny X (compareOp .LtE) (rI0 λi j=>.bl (decide (i<=j))):=o9 λ_ _ _ _ _ _ _ q=>le_int q
theorem op_gt:Ny X (compareOp .Gt) (rI0 λi j=>.bl (decide (j<i))):=o9 λ_ _ _ _ _ _ _ q=>gt_int q
theorem op_ge:Ny X (compareOp .GtE) (rI0 λi j=>.bl (decide (j<=i))):=o9 λ_ _ _ _ _ _ _ q=>ge_int q
theorem g9:Ny X (compareOp .Is) (λx y H Q=>y=.non/\Q (.bl (decide (x=.non))) H):=by
 intro XM s Z H x y v u Q I rx ry h;obtain⟨rfl,q⟩:=h;cases ry;refine is_none_gen (di I q ?_)
 cases x<;>first
  | (cases rx;rfl)
  | (obtain⟨t,rfl⟩:=rx;rfl)
theorem Ah:Ny X (compareOp .IsNot) (λx y H Q=>y=.non/\Q (.bl (!decide (x=.non))) H):=by
 intro XM s Z H x y v u Q I rx ry h;obtain⟨rfl,q⟩:=h;cases ry;refine isnot_none_gen (di I q ?_)
 cases x<;>first
  | (cases rx;rfl)
  | (obtain⟨t,rfl⟩:=rx;rfl)
theorem oq{op:CmpOp}{r:R2}(ho:Ny X (compareOp op) r)(ha:PE X a ta)(hb:PE X b tb)(hm:behindInMarks op b=false):PE X (.Compare a [op] [b] pos) (tOp r ta tb):=by
 intro XM s Z H Q I h;exact wpAny_Compare1 (binT ha hb I h λv u s2 x y H2 I2 rx ry q=>ho XM s2 Z H2 x y v u Q I2 rx ry q) hm
inductive W4(Q:(Bool->Hp->Prop))(x:V)(H':Hp):Prop
 | mk(k)(Vz:x=.bl k)(Y9:Q k H'):W4 Q x H'
def Zxb(t:TE):TT:=λZ H Q=>t Z H λx H'=>W4 Q x H'
theorem ag{op:CmpOp}{r:R2}(ho:Ny X (compareOp op) r)(ha:PE X a ta)(hb:PE X b tb)(hm:behindInMarks op b=false):PT X (.Compare a [op] [b] pos) (Zxb (tOp r ta tb)):=by
 intro XM s Z H Q I h
 refine wpAny_isTrue_Compare1 (Z5 (ha XM s Z H _ I h) λv s1 ⟨x,H1,I1,r1,q1⟩=>Z5 (hb XM s1 Z H1 _ I1 q1) λu s2 ⟨y,H2,I2,r2,q2⟩ =>
  Z5 (ho XM s2 Z H2 x y v u _ I2 r1 r2 q2) λc s3 ⟨z,H3,I3,r3,k,e,q3⟩=>?_) hm
 subst e;cases r3;exact wpAny_truthy_bool ⟨H3,I3,q3⟩
inductive Qr(r':R2)(tc:TE)(Z:St)(Q:VK)(y:V)(z:V)(H3:Hp):Prop
 | mk(k)(Vz:z=.bl k)(Y9:(if k=true then tc Z H3 λw' H4=>r' y w' H4 Q else Q (.bl false) H3)):Qr r' tc Z Q y z H3
def Ej(r r':R2)(ta tb tc:TE):TE:=λZ H Q=>ta Z H λx H1=>tb Z H1 λy H2=>r x y H2 λz H3=>Qr r' tc Z Q y z H3
theorem gk{op Sf:CmpOp}{r r':R2}(ho:Ny X (compareOp op) r)(Rn:Ny X (compareOp Sf) r')(ha:PE X a ta)(hb:PE X b tb)(hc:PE X c tc)
  (hm:lastMarks [op,Sf] [b,c]=false:=by with_unfolding_all rfl):PE X (.Compare a [op,Sf] [b,c] pos) (Ej r r' ta tb tc):=by
 intro XM s Z H Q I h
 refine Compare_chain (Z5 (ha XM s Z H _ I h) λv s1 ⟨x,H1,I1,r1,q1⟩=>chain_link (Z5 (hb XM s1 Z H1 _ I1 q1) λu s2 ⟨y,H2,I2,r2,q2⟩ =>
  Z5 (ho XM s2 Z H2 x y v u _ I2 r1 r2 q2) λd s3 ⟨z,H3,I3,r3,k,e,q3⟩=>?_)) hm
 subst e;cases r3;refine wpAny_truthy_bool ?_;cases k with
 | false=>exact ite_ff ⟨.bl false,H3,I3,rfl,q3⟩
 | true=>exact ite_tt (chain_last (Z5 (hc XM s3 Z H3 _ I3 q3) λw' s4 ⟨z',H4,I4,r4,q4⟩=>Rn XM s4 Z H4 y z' u w' Q I4 r2 r4 q4))
theorem y3{op Sf:CmpOp}{r r':R2}(ho:Ny X (compareOp op) r)(Rn:Ny X (compareOp Sf) r')(ha:PE X a ta)(hb:PE X b tb)(hc:PE X c tc)
  (hm:lastMarks [op,Sf] [b,c]=false:=by with_unfolding_all rfl):PT X (.Compare a [op,Sf] [b,c] pos) (Zxb (Ej r r' ta tb tc)):=by
 intro XM s Z H Q I h
 refine isTrue_chain (Z5 (ha XM s Z H _ I h) λv s1 ⟨x,H1,I1,r1,q1⟩=>test_link (Z5 (hb XM s1 Z H1 _ I1 q1) λu s2 ⟨y,H2,I2,r2,q2⟩ =>
  Z5 (ho XM s2 Z H2 x y v u _ I2 r1 r2 q2) λd s3 ⟨z,H3,I3,r3,k,e,q3⟩=>?_)) hm
 subst e;cases r3;refine wpAny_truthy_bool ?_;cases k with
 | false =>
  obtain⟨k',e',q'⟩:=q3;cases e';exact ite_ff ⟨H3,I3,q'⟩
 | true =>
  refine ite_tt (test_last (Z5 (hc XM s3 Z H3 _ I3 q3) λw' s4 ⟨z',H4,I4,r4,q4⟩=>Z5 (Rn XM s4 Z H4 y z' u w' _ I4 r2 r4 q4) λd' s5 ⟨z2,H5,I5,r5,k2,e2,q5⟩=>?_));subst e2;cases r5;exact wpAny_truthy_bool ⟨H5,I5,q5⟩
theorem Nu:(sizeLine:Nat)<2 ^ 63:=by rw[sizeLine_eq];decide
inductive Mf(x:V)(y:V)(H:Hp)(Q:VK):Prop
 | mk(i j)(Vz:x=.str i)(Y9:y=.str j)(U5:i.length+j.length<=sizeLine)(L4:Q (.str (i++j)) H):Mf x y H Q
theorem Ei:Ny X (binaryOp .Add) (λx y H Q=>Mf x y H Q):=by
 intro XM s Z H x y v u Q I rx ry h;obtain⟨i,j,rfl,rfl,hz,q⟩:=h;obtain⟨t,rfl⟩:=rx;obtain⟨t',rfl⟩:=ry;exact add_str (λt' tk=>⟨.str (i++j),H,I.tok _,⟨_,rfl⟩,q⟩) hz
theorem vals1{x:V}{us:ZM}(r:Zf [x] us):∃u,us=[u]/\RelV x u:=by
 cases r with
 | cons r1 r2=>cases r2;exact⟨_,rfl,r1⟩
theorem vals2{x y:V}{us:ZM}(r:Zf [x,y] us):∃u w',us=[u,w']/\RelV x u/\RelV y w':=by
 cases r with
 | cons r1 r2 =>
  cases r2 with
  | cons r3 r4=>cases r4;exact⟨_,_,rfl,r1,r3⟩
inductive Ci(xs:ZQ)(H:Hp)(Q:VK):Prop
 | mk(i)(Vz:xs=[.int i])(Y9:Q (.int (if i<0 then -i else i)) H):Ci xs H Q
theorem cy:Yb X (.builtin "abs") (λxs H Q=>Ci xs H Q):=by
 intro XM s Z H xs us Q I r h;obtain⟨i,rfl,q⟩:=h;obtain⟨u,rfl,t,rfl⟩:=vals1 r;exact call_abs_int λu tk=>⟨.int (if i<0 then -i else i),H,I.tok _,⟨_,rfl⟩,q⟩
inductive Bm(xs:ZQ)(H:Hp)(Q:VK):Prop
 | mk(i j)(Vz:xs=[.int i,.int j])(Y9:Q (.int (if j>i then j else i)) H):Bm xs H Q
theorem x6(hc:X.calm=true):Yb X (.builtin "max") (λxs H Q=>Bm xs H Q):=by
 intro XM s Z H xs us Q I r h;obtain⟨i,j,rfl,q⟩:=h;obtain⟨u,w',rfl,⟨t,rfl⟩,⟨t',rfl⟩⟩:=vals2 r;refine max_two_ints (I.ok.hd hc) λh' tk k=>⟨_,H,I.kept k,?_,q⟩;by_cases hj:j>i
 .rw[if_pos hj,if_pos hj];exact⟨_,rfl⟩
 .rw[if_neg hj,if_neg hj];exact⟨_,rfl⟩
inductive Bb(xs:ZQ)(H:Hp)(Q:VK):Prop
 | mk(i j)(Vz:xs=[.int i,.int j])(Y9:Q (.int (if j<i then j else i)) H):Bb xs H Q
theorem x4(hc:X.calm=true):Yb X (.builtin "min") (λxs H Q=>Bb xs H Q):=by
 intro XM s Z H xs us Q I r h;obtain⟨i,j,rfl,q⟩:=h;obtain⟨u,w',rfl,⟨t,rfl⟩,⟨t',rfl⟩⟩:=vals2 r;refine min_two_ints (I.ok.hd hc) λh' tk k=>⟨_,H,I.kept k,?_,q⟩;by_cases hj:j<i
 .rw[if_pos hj,if_pos hj];exact⟨_,rfl⟩
 .rw[if_neg hj,if_neg hj];exact⟨_,rfl⟩
theorem Wr:Yb X (.type "int") (λxs H Q=>(∃i,xs=[.int i]/\Q (.int i) H)\/∃k,xs=[.bl k]/\Q (.int (if k then 1 else 0)) H):=by
 intro XM s Z H xs us Q I r h;rcases h with ⟨i,rfl,q⟩ | ⟨k,rfl,q⟩
 .obtain⟨u,rfl,t,rfl⟩:=vals1 r;exact call_int_int ⟨.int i,H,I,⟨_,rfl⟩,q⟩
 .obtain⟨u,rfl,r1⟩:=vals1 r;cases r1;exact call_int_bool ⟨.int (if k then 1 else 0),H,I.tok _,⟨_,rfl⟩,q⟩
inductive Gv(xs:ZQ)(H:Hp)(Q:VK):Prop
 | mk(i)(Vz:xs=[.int i])(Y9:i.natAbs.log2<1920)(U5:Q (.str (toString i)) H):Gv xs H Q
theorem Fk:Yb X (.type "str") (λxs H Q=>Gv xs H Q):=by
 intro XM s Z H xs us Q I r h;obtain⟨i,rfl,hz,q⟩:=h;obtain⟨u,rfl,t,rfl⟩:=vals1 r;exact PySem.P.str_of_int hz ⟨.str _,H,I.tok _,⟨_,rfl⟩,q⟩
def LenV(K:W.Frag)(x:V)(H:Hp)(n:Nat):Prop :=
 match x with
 | .str y=>y.length<=sizeLine/\n=y.length
 | .byt y=>y.size<=sizeLine/\n=y.size
 | .ref p=>(∃xs,V0 K H p xs/\n=xs.length)\/∃xs,Y1 K H p xs/\n=xs.length
 | _=>False
inductive Co(K:W.Frag)(xs:ZQ)(H:Hp)(Q:VK):Prop
 | mk(x n)(Vz:xs=[x])(Y9:LenV K x H n)(U5:Q (.int n) H):Co K xs H Q
theorem cw:Yb X (.builtin "len") (λxs H Q=>Co X.K xs H Q):=by
 intro XM s Z H xs us Q I r h;obtain⟨x,n,rfl,e,q⟩:=h;obtain⟨u,rfl,rx⟩:=vals1 r;have hl:=Nu;have hs:sizeLine=16777216:=sizeLine_eq;cases x with
 | str y =>
  obtain⟨t,rfl⟩:=rx;obtain⟨hy,e'⟩:y.length<=sizeLine/\n=y.length:=e;subst e';exact len_str XH ⟨.int _,H,I.tok _,⟨_,rfl⟩,q⟩
 | byt y =>
  obtain⟨t,rfl⟩:=rx;obtain⟨hy,e'⟩:y.size<=sizeLine/\n=y.size:=e;subst e';exact W.len_bytes XH ⟨.int _,H,I.tok _,⟨_,rfl⟩,q⟩
 | ref p =>
  cases rx;have e':(∃xs,V0 X.K H p xs/\n=xs.length)\/∃xs,Y1 X.K H p xs/\n=xs.length:=e;rcases e' with ⟨xs,hx,e'⟩ | ⟨xs,hx,e'⟩
  .subst e';obtain⟨XT,r',pl,hz⟩:=I.list hx;have hlen:=r'.length;exact Calls.call_len_list pl.isList (by simp only[Jh];omega) ⟨.int xs.length,H,I.tok _,⟨_,by simp only[Jh];rw[hlen]⟩,q⟩
  .subst e';obtain⟨XT,r',pl,hz⟩:=I.tuple hx;have hlen:=r'.length;exact len_tuple pl (by simp only[Jh];omega) ⟨.int xs.length,H,I.tok _,⟨_,by simp only[Jh];rw[hlen]⟩,q⟩
 | _=>exact(show False from e).elim
end
structure ObjM(h:Heap)(x dx C:Addr)(mA:ZV):Prop where
 obj:h.get? x=some (W.instObj C dx)
 ns:h.Ns1 dx mA
 ne:dx≠x
theorem zm{h:Heap}{dx:Addr}{mA:ZV}(n:h.Ns1 dx mA):∃od,h.get? dx=some od/\∀name,W.lookIn name od=some (mA name):=by
 obtain⟨o,es,ep,ho,hd,hk,_,hm⟩:=n;refine⟨o,ho,λname=>?_⟩;have e:=hm name;unfold nsFind findBy at e;rw[<-Array.find?_toList]at e;unfold W.lookIn;rw[hd];dsimp only
 split
 .rename_i y q
  rw[q]at e;exact congrArg some e
 .rename_i q
  rw[q]at e
  have a:es.toList.any (·.refKey)=false:=by
   rw[List.any_eq_false];intro y hy;obtain⟨z,t,hkey⟩:=hk y (Array.mem_toList_iff.mp hy);simp[DictEntry.refKey,hkey]
  have a':¬ es.toList.any (·.refKey)=true:=by rw[a];exact D5
  rw[if_neg a'];exact congrArg some e
theorem ObjM.look{h:Heap}{x dx C:Addr}{mA:ZV}(I:ObjM h x dx C mA):∃od,W.InstAt h x (W.instObj C dx) C (some od)/\∀name,W.lookIn name od=some (mA name) :=
 let ⟨od,ho,hl⟩:=zm I.ns
 ⟨od,⟨I.obj,rfl,rfl,ho⟩,hl⟩
section
variable{prog:Program}{w:World}{A:Around}{E:ZW}{s:Shared}{K:W.Frag}{x dx C f:Addr}{mA:ZV}{name:Str}{v:Value}
end
theorem N7.some_of{v:V}{o:ZT}(r:N7 (some v) o):∃u,o=some u/\RelV v u:=by
 cases o with
 | none=>exact(show False from r).elim
 | some u=>exact⟨u,rfl,r⟩
section
variable{P:Program}{w:World}{H H':Hp}{h h':Heap}{a C dx:Addr}{fs fs':List (Str×V)}
theorem Zzg(hok:D3 P w H h)(e:H a=some (.ins C dx fs)):∃mA,ObjM h a dx C mA/\(∀f,N7 (fs.lookup f) (mA f))/\PySem.Within mA (fs.map (·.1))/\fs.length<=1000/\H dx=some (.own a):=by
 obtain⟨d,z,ne,ob,mA,n,r,q⟩:=(show Zp P w H h a (.ins C dx fs) from hok a _ e);exact⟨mA,⟨ob,n,ne⟩,r,q,z,d⟩
end
structure Cls(K:W.Frag)(C:Addr):Prop where
 pg:W.plainGet K C Str.empty=true
 hd:W.hasDictIn K C=true
 po:W.plainOver K C=true
 sa:W.findIn K (.ref C) "__setattr__"=some (some (.builtin "object.__setattr__"))
theorem Cls.get{K:W.Frag}{C:Addr}(c:Cls K C)(f:Str):W.plainGet K C f=true:=c.pg
section
variable{X:Cx}{XM:ZY}{Z:St}{H:Hp}{s:Shared}{a C dx:Addr}{fs:List (Str×V)}{f:Str}{v:V}{A:Around}{E:ZW}
end
section
variable{X:Cx}{o e value:Expr}{f:Str}{pos pos' tpos:Pos}{ta tv:TE}
end
section
variable{X:Cx}{XM:ZY}{Z:St}{H:Hp}{s:Shared}{A:Around}{E:ZW}{Q:ZW}{c:Value}{b:Bool}
inductive Be(K:W.Frag)(H:Hp):V->Value->Prop where
 | non:Be K H .non (.type "NoneType")
 | bl (x:Bool):Be K H (.bl x) (.type "bool")
 | int (i:Int):Be K H (.int i) (.type "int")
 | str (x:Str):Be K H (.str x) (.type "str")
 | flt (x:UInt64):Be K H (.flt x) (.type "float")
 | lst {a:Addr} {xs:ZQ} (e:H a=some (.lst xs)):Be K H (.ref a) (.type "list")
 | frz {a:Addr} {o:Obj} {xs:ZQ} (e:H a=some (.frz o (.lst xs))):Be K H (.ref a) (.type "list")
 | tup {a:Addr} {xs:ZQ} (e:H a=some (.tup xs)):Be K H (.ref a) (.type "tuple")
 | dK {a:Addr} {XD:List (Key×V)} (e:H a=some (.dK XD)):Be K H (.ref a) (.type "dict")
 | dT {a:Addr} {XD:List (List Key×V)} (e:H a=some (.dT XD)):Be K H (.ref a) (.type "dict")
 | ins {a C dx:Addr} {fs:List (Str×V)} (e:H a=some (.ins C dx fs)) (cl:Cls K C) (ha:W.findIn K (.ref C) "__class__"=some (some (.builtin "object.__class__")))
   (hn:W.specialIn K (.builtin "object.__class__") "__get__"=some (some (.builtin "getset_descriptor.__get__"))) (htk:W.takesIn K (.builtin "object.__class__")=some true)
   (hm:W.mroIn K C (.type "object")=some true):Be K H (.ref a) (.ref C)
theorem Vp{x:V}{u t:Value}(I:Inv X XM Z H s)(rx:RelV x u)(ty:Be X.K H x t)(e:W.kitOne X.K t c=some b)(h:∀tk,Q (.bool b) { s with toks:=tk }) :
  wpAny (model X.prog X.w) A (call (.builtin "isinstance") [u,c]) Q E s:=by
 cases ty with
 | non=>cases(show u=Value.none from rx);exact W.kia_one W.kitx_none I.kIn True.intro e (λz=>nomatch z) h
 | bl y=>cases(show u=Value.bool y from rx);exact W.kia_one W.kitx_bool I.kIn True.intro e (λz=>nomatch z) h
 | int i=>obtain⟨t,q⟩:=(show ∃t,u=Value.int i t from rx);cases q;exact W.kia_one W.kitx_int I.kIn True.intro e (λz=>nomatch z) h
 | str y=>obtain⟨t,q⟩:=(show ∃t,u=Value.str y t from rx);cases q;exact W.kia_one W.kitx_str I.kIn True.intro e (λz=>nomatch z) h
 | flt y=>obtain⟨t,q⟩:=(show ∃t,u=Value.float y t from rx);cases q;exact W.kia_one W.kitx_float I.kIn True.intro e (λz=>nomatch z) h
 | @lst a xs ea =>
  cases(show u=Value.ref a from rx);obtain⟨_,_,n,_,h1⟩:=(show Zp X.prog X.w H s.heap a (.lst xs) from I.hok a _ ea);exact W.kia_one W.kitx_list I.kIn ⟨_,h1,rfl⟩ e (λz=>nomatch z) h
 | @frz a ob xs ea =>
  cases(show u=Value.ref a from rx);obtain⟨_,_,_,n,_,h1⟩:=(show Zp X.prog X.w H s.heap a (.frz ob (.lst xs)) from I.hok a _ ea);exact W.kia_one W.kitx_list I.kIn ⟨_,h1,rfl⟩ e (λz=>nomatch z) h
 | @tup a xs ea =>
  cases(show u=Value.ref a from rx);obtain⟨_,_,_,p⟩:=(show Zp X.prog X.w H s.heap a (.tup xs) from I.hok a _ ea);obtain⟨o,h1,h2,_⟩:=p;exact W.kia_one W.kitx_tuple I.kIn ⟨o,h1,h2⟩ e (λz=>nomatch z) h
 | @dK a XD ea =>
  cases(show u=Value.ref a from rx);obtain⟨_,_,vs,_,p⟩:=(show Zp X.prog X.w H s.heap a (.dK XD) from I.hok a _ ea);obtain⟨o,es,ep,h1,h2,_⟩:=p;exact W.kia_one W.kitx_dict I.kIn ⟨o,h1,h2.1⟩ e (λz=>nomatch z) h
 | @dT a XD ea =>
  cases(show u=Value.ref a from rx);obtain⟨_,_,xs,_,o,es,ep,h1,h2,_⟩:=(show Zp X.prog X.w H s.heap a (.dT XD) from I.hok a _ ea);exact W.kia_one W.kitx_dict I.kIn ⟨o,h1,h2.1⟩ e (λz=>nomatch z) h
 | @ins a C dx fs ea cl ha hn htk hm =>
  cases(show u=Value.ref a from rx);obtain⟨mA,O,_⟩:=Zzg I.hok ea;obtain⟨od,J,_⟩:=O.look;exact W.kia_one (W.kitx_own (cl.get _) cl.hd ha hn htk hm) I.kIn J e (λz=>nomatch z) h
end
structure Uc(k:Nat)(A:Around):Prop where
 hd:A.handled=none
 dp:A.depth+3*k+5<recursionLimit
 un:A.units+16*k+200<cLine
 gd:A.guards=some []
theorem Uc.deeper{k:Nat}{A:Around}(r:Uc (k+1) A)(env:Env):Uc k (A.deeper env) :=
 ⟨r.hd,by have:=r.dp;show A.depth+1+3*k+5<_;omega,by have:=r.un;show A.units+3+16*k+200<_;omega,r.gd⟩
theorem Uc.in1{k:Nat}{A:Around}(r:Uc (k+1) A):Uc k A.in1 :=
 ⟨r.hd,by have:=r.dp;show A.depth+3*k+5<_;omega,by have:=r.un;show A.units+1+16*k+200<_;omega,r.gd⟩
theorem Uc.depth{k:Nat}{A:Around}(r:Uc k A):A.depth<recursionLimit:=by have:=r.dp;omega
theorem Uc.units{k:Nat}{A:Around}(r:Uc k A):A.units+64<cLine:=by have:=r.un;omega
def tNil:TA:=λ_ H Q=>Q [] H
def tCons(ta:TE)(tr:TA):TA:=λZ H Q=>ta Z H λx H1=>tr Z H1 λxs H2=>Q (x::xs) H2
section
variable{X:Cx}{e:Expr}{es:ZC}{te:TE}{t:TA}{pos:Pos}
theorem Ds:PA X [] tNil:=λ_ _ _ _ H Q I h=>Calls.spliced_nil ⟨[],H,I,.nil,h⟩
theorem V2(ha:PE X e te)(hr:PA X es t)(hs:starEach (e::es) X.env=(false,eval e X.env)::starEach es X.env:=by rfl):PA X (e::es) (tCons te t):=by
 intro pos XM s Z H Q I h;rw[hs];show wpAny _ _ (spliced ((false,eval e X.env)::backTo pos (starEach es X.env))) _ _ s;refine Calls.spliced_cons (Z5 (ha XM s Z H _ I h) λu s1 ⟨x,H1,I1,r1,q1⟩=>?_);exact Z5 (hr pos XM s1 Z H1 _ I1 q1) λus s2 ⟨xs,H2,I2,r2,q2⟩=>⟨x::xs,H2,I2,.cons r1 r2,q2⟩
inductive we(Q:VK)(xs:ZQ)(H1:Hp):Prop
 | mk  (Vz:xs.length<=sizeLine)(Y9:∀p,H1 p=none->Q (.ref p) (upd H1 p (.tup xs))):we Q xs H1
def tTup(t:TA):TE:=λZ H Q=>t Z H λxs H1=>we Q xs H1
inductive w8(Q:VK)(xs:ZQ)(H1:Hp):Prop
 | mk  (Vz:xs.length<=sizeLine)(Y9:∀p,H1 p=none->Q (.ref p) (upd H1 p (.lst xs))):w8 Q xs H1
def tLst(t:TA):TE:=λZ H Q=>t Z H λxs H1=>w8 Q xs H1
theorem k7{x1}(h:PA X es t):PE X (.Tuple es x1 pos) (tTup t):=by
 intro XM s Z H Q I hq;refine wpAny_Tuple_spliced (Z5 (h pos XM s Z H _ I hq) λus s1 ⟨xs,H1,I1,r,z,q⟩=>⟨by rw[<-r.length];exact z,?_⟩);have hf:H1 s1.heap.objs.size=none:=I1.hok.fresh (Yk _);refine⟨.ref s1.heap.objs.size,upd H1 s1.heap.objs.size (.tup xs),I1.laid (t':=s1.toks) (λb u e=>Yn _ e) (Yk _) ?_,rfl,q _ hf⟩;exact⟨z,us,r,⟨_,Ur _ rfl,rfl,⟨_,rfl⟩,rfl⟩⟩
theorem pe_lst(h:PA X es t):PE X (.List es pos) (tLst t):=by
 intro XM s Z H Q I hq;refine wpAny_List_spliced (Z5 (h pos XM s Z H _ I hq) λus s1 ⟨xs,H1,I1,r,z,q⟩=>⟨by rw[<-r.length];exact z,?_⟩);have hf:H1 s1.heap.objs.size=none:=I1.hok.fresh (Yk _);refine⟨.ref s1.heap.objs.size,upd H1 s1.heap.objs.size (.lst xs),I1.laid (t':=s1.toks) (λb u e=>Yn _ e) (Yk _) ?_,rfl,q _ hf⟩;exact⟨z,us,0,r,Ur _ rfl⟩
end
abbrev Sp:=ZQ->Hp->VK->XK->Prop
abbrev qm:=List Env->Hp->Shared->XK->Value->Shared->Prop
structure K5(P:Program)(w:World)(K:W.Frag)(mg:ZV)(base:Heap)(A:Around)(outer:List Env)(s:Shared)(H:Hp):Prop where
 frames:A.frames=some outer
 mod:Mod K mg base
 bs:∀b o,base.get? b=some o->s.heap.get? b=some o/\H b=none
 bsz:base.objs.size<=s.heap.objs.size
 funs:s.heap.FunFrames base outer
 frf:∀b∈frs outer,H b=none
 hok:D3 P w H s.heap
 bare:AllBare s.gens
def CE(outer:List Env)(P:Program)(w:World)(H:Hp)(s:Shared)(Q:VK)(u:Value)(s':Shared):Prop :=
 ∃v H',s'.os=s.os/\AllBare s'.gens/\Un (frs outer) [] H H' s.heap s'.heap/\D3 P w H' s'.heap/\RelV v u/\Q v H'
def CR(CX:qm)(outer:List Env)(P:Program)(w:World)(H:Hp)(s:Shared)(Q:VK)(E:XK)(r:Result)(s':Shared):Prop :=
 match r with
 | .ok (.ret u)=>CE outer P w H s Q u s'
 | .ok _=>False
 | .error e=>CX outer H s E e s'
structure Dq(P:Program)(w:World)(K:W.Frag)(mg:ZV)(base:Heap)(CX:qm)(k:Nat)(f:Addr)(fd:FuncData)(ps:ZD)(sp:Sp):Prop where
 len:∀vs H Q E,sp vs H Q E->vs.length=ps.length
 run:∀(A:Around) (outer:List Env) (s:Shared) (H:Hp) (args:Args) (us:ZM) (vs:ZQ) (Q:VK) (E:XK),Uc k A->K5 P w K mg base A outer s H->BindsTo s fd args (ps.zip us)->Zf vs us->sp vs H Q E ->
  codeAny (model P w) A (.call (.ref f) args) (CR CX outer P w H s Q E) s
theorem Dq.imp{P:Program}{w:World}{K:W.Frag}{mg:ZV}{base:Heap}{CX:qm}{k:Nat}{f:Addr}{fd:FuncData}{ps:ZD}{sp sp':Sp}(F:Dq P w K mg base CX k f fd ps sp)
  (h:∀vs H Q E,sp' vs H Q E->sp vs H Q E):Dq P w K mg base CX k f fd ps sp' :=
 ⟨λvs H Q E q=>F.len vs H Q E (h _ _ _ _ q),λA outer s H args us vs Q E hr he hb hv hs=>F.run A outer s H args us vs Q E hr he hb hv (h _ _ _ _ hs)⟩
theorem K5.in1{P:Program}{w:World}{K:W.Frag}{mg:ZV}{base:Heap}{A:Around}{outer:List Env}{s:Shared}{H:Hp}(e:K5 P w K mg base A outer s H) :
  K5 P w K mg base A.in1 outer s H:=⟨e.frames,e.mod,e.bs,e.bsz,e.funs,e.frf,e.hok,e.bare⟩
section
variable{X:Cx}{XM:ZY}{Z:St}{H:Hp}{s s':Shared}
theorem Inv.env0(I:Inv X XM Z H s):K5 X.prog X.w X.K X.mg X.base X.A X.stack s H :=
 ⟨I.ok.frames,I.ok.mod,I.bs,D0 I.ok.bsz I.sz,I.stack,I.stkFree,I.hok,I.bare⟩
theorem Inv.after{Q:VK}{u:Value}(I:Inv X XM Z H s)(h:CE X.stack X.prog X.w H s Q u s'):EP X XM Z Q u s':=by
 obtain⟨v,H',os,bare,un,hok,r,q⟩:=h;obtain⟨hh,g,d,t,os'⟩:=s';obtain rfl:os'=s.os:=os;exact⟨v,H',I.call (h':=hh) (g':=g) (d':=d) (t':=t) (ch:=[]) un hok bare (λb z=>absurd z XI),r,q⟩
end
def Zxm(sp:Sp)(dvs:ZQ)(E:XK)(t:TA):TE:=λZ H Q=>t Z H λvs H1=>sp (vs++dvs) H1 Q E
def Binds(K:W.Frag)(fd:FuncData)(ps:ZD)(ds:ZM):Prop :=
 ∀(s:Shared) (us:ZM),K.In s.heap->(us++ds).length=ps.length->BindsTo s fd ⟨us,[]⟩ (ps.zip (us++ds))
theorem Binds.all{K:W.Frag}{fd:FuncData}{ps:ZD}(h:∀us:ZM,us.length=ps.length->bindArgs fd ⟨us,[]⟩=pure (ps.zip us)):Binds K fd ps []:=λs us _ hl=>by
 rw[XJ]at hl ⊢;exact .of_eq (h us hl)
def K0(CX:qm)(X:Cx)(E:XK):Prop:=∀(XM:ZY) (Z:St) (H:Hp) (s:Shared) (e:Value) (s':Shared),Inv X XM Z H s->CX X.stack H s E e s'->X.xe e s'
section
variable{X:Cx}{CX:qm}{k:Nat}{f C:Addr}{fd:FuncData}{ps:ZD}{sp:Sp}{dvs:ZQ}{ds:ZM}{E:XK}{x m:Str}{p pos apos:Pos}{e o:Expr}{es:ZC}{ta:TE}{t:TA}
theorem run_fn{XM:ZY}{Z:St}{H:Hp}{s:Shared}{Q:VK}{us:ZM}{vs:ZQ}(F:Dq X.prog X.w X.K X.mg X.base CX k f fd ps sp)(hr:Uc k X.A)(hb:Binds X.K fd ps ds)(hd:Zf dvs ds)(hx:K0 CX X E)
  (I:Inv X XM Z H s) (r:Zf vs us) (h:sp (vs++dvs) H Q E):wpAny (model X.prog X.w) X.A (call (.ref f) us) (EP X XM Z Q) X.xe s:=by
 have r2:Zf (vs++dvs) (us++ds):=r.append hd;have hl:(us++ds).length=ps.length:=by rw[<-r2.length];exact F.len _ _ _ _ h
 refine wpAny_call (codeAny_mono (F.run X.A X.stack s H ⟨us,[]⟩ (us++ds) (vs++dvs) Q E hr I.env0 (hb s us I.kIn hl) r2 h) λr s' hq=>?_);cases r with
 | error e=>exact hx XM Z H s e s' I hq
 | ok fl =>
  cases fl with
  | ret u=>exact I.after hq
  | next=>exact False.elim hq
  | brk=>exact False.elim hq
  | cont=>exact False.elim hq
theorem oj(F:Dq X.prog X.w X.K X.mg X.base CX k f fd ps sp)(hr:Uc k X.A)(hg:Gl X x)(hm:X.mg x=some (.ref f))(hk:W.keepIn X.K (.ref f)=true)(hb:Binds X.K fd ps ds)(hd:Zf dvs ds)(hx:K0 CX X E)
  (ha:PA X (e::es) t) (hdb:(x==("__debug__" : Str))=false:=by decide) (he:starEach (e::es) X.env=(false,eval e X.env)::starEach es X.env:=by rfl) (qy:(backTo pos (starEach es X.env)).any (·.1)=false:=by rfl) :
  PE X (.Call (.Name x p) (e::es) [] pos) (Zxm sp dvs E t):=by
 intro XM s Z H Q I h;refine wpAny_Call_Name_kw (i6 I hg hm ?_ hdb);refine W.callWith_K (h₀:=X.base) I.ok.mod.kin hk (Z5 (ha pos XM s Z H _ I h) λus s1 ⟨vs,H1,I1,r,q⟩=>⟨I1.kIn,?_⟩) he qy;exact run_fn F hr hb hd hx I1 r q
end
section
variable{X:Cx}{CX:qm}{k:Nat}{f C:Addr}{fd:FuncData}{ps ks:ZD}{sp:Sp}{E:XK}{x m:Str}{p pos apos kpos:Pos}{e o:Expr}{es:ZC}{kws:List Keyword}{te ta:TE}{t tk:TA}{nm:Option Str}
variable{g:ZM->ZM->ZM}{gV:ZQ->ZQ->ZQ}
end
structure Jt(N P:ZD)(sc:Scope):Prop where
 kind:sc.kind=.function
 co:sc.isCoroutine=false
 gen:sc.isGenerator=false
 nd:N.Nodup
 pre:N.take P.length=P
 par:∀x∈P,sc.names.lookup x=some .local\/sc.names.lookup x=some .cell
 nofree:∀y∈sc.names,y.2≠.free
theorem Ws{kindOf:Str->Option NameKind}{x:Str}:∀{binds:List (Str×Value)} {m:ZV},(∀v,(x,v)∉binds)->bindL kindOf binds m x=m x
 | [],_,_=>rfl
 | (n,v)::r,m,h=>by
  unfold bindL;rw[Ws λw hw=>h w (Y3 _ hw)]
  split
  .have:x≠n:=by rintro rfl;exact h v Yu
   simp[this]
  .rfl
theorem Wp{kindOf:Str->Option NameKind}{x:Str}:∀{binds:List (Str×Value)} {m:ZV},(∀v,(x,v)∉binds)->bindC kindOf binds m x=m x
 | [],_,_=>rfl
 | (n,v)::r,m,h=>by
  unfold bindC;rw[Wp λw hw=>h w (Y3 _ hw)]
  split
  .rfl
  .have:x≠n:=by rintro rfl;exact h v Yu
   simp[this]
theorem Wh{kindOf:Str->Option NameKind}{x:Str}{v:Value}:∀{P:ZD} {vs:ZM} {i:Nat} {m:ZV},P.Nodup->P[i]?=some x->vs[i]?=some v->kindOf x=some .local ->
  bindL kindOf (P.zip vs) m x=some v
 | [],_,_,_,_,h,_,_=>by simp at h
 | _::_,[],_,_,_,_,h,_=>by simp at h
 | p::P,w::vs,0,m,nd,h1,h2,hk=>by
  simp at h1 h2;subst h1;subst h2;show bindL kindOf ((p,w)::P.zip vs) m p=_;unfold bindL;rw[Ws λv hv=>(List.nodup_cons.mp nd).1 (List.of_mem_zip hv).1,if_pos hk];simp
 | p::P,w::vs,i+1,m,nd,h1,h2,hk=>by
  show bindL kindOf ((p,w)::P.zip vs) m x=_;unfold bindL;exact Wh (i:=i) (List.nodup_cons.mp nd).2 (by simpa using h1) (by simpa using h2) hk
theorem Wu{kindOf:Str->Option NameKind}{x:Str}{v:Value}:∀{P:ZD} {vs:ZM} {i:Nat} {m:ZV},P.Nodup->P[i]?=some x->vs[i]?=some v->kindOf x≠some .local ->
  bindC kindOf (P.zip vs) m x=some v
 | [],_,_,_,_,h,_,_=>by simp at h
 | _::_,[],_,_,_,_,h,_=>by simp at h
 | p::P,w::vs,0,m,nd,h1,h2,hk=>by
  simp at h1 h2;subst h1;subst h2;show bindC kindOf ((p,w)::P.zip vs) m p=_;unfold bindC;rw[Wp λv hv=>(List.nodup_cons.mp nd).1 (List.of_mem_zip hv).1,if_neg hk];simp
 | p::P,w::vs,i+1,m,nd,h1,h2,hk=>by
  show bindC kindOf ((p,w)::P.zip vs) m x=_;unfold bindC;exact Wu (i:=i) (List.nodup_cons.mp nd).2 (by simpa using h1) (by simpa using h2) hk
noncomputable def start(N:ZD)(vs:ZQ):St:=vs.map some++List.replicate (N.length-vs.length) none
noncomputable def Ov(CX:qm)(P:Program)(w:World)(K:W.Frag)(mg:ZV)(base:Heap)(N:ZD)(qual:Str)(scope:Scope)(f:Addr)(cd:Value)(A:Around)(outer:List Env)(s:Shared)(H:Hp)(E:XK):Cx where
 prog:=P
 w:=w
 K:=K
 mg:=mg
 base:=base
 A:=A.deeper (envOfC qual scope s.heap.objs.size f cd)
 N:=N
 s₀:=s
 H₀:=H
 env:=envOfC qual scope s.heap.objs.size f cd
 outer:=outer
 stack:=envOfC qual scope s.heap.objs.size f cd::outer
 ex:=[]
 calm:=true
 fn:=λ_=>true
 pn:=[]
 xe:=λe s'=>wpAny (model P w) (A.deeper (envOfC qual scope s.heap.objs.size f cd)) (leaving (envOfC qual scope s.heap.objs.size f cd) e) (λ_ s''=>CX outer H s E e s'') (λe' s''=>CX outer H s E e' s'') s'
theorem Ob{sc:Scope}{n:Nat}{x:Str}(h:sc.names.lookup x=some .cell):∃c,(cellsFrom n sc.names []).lookup x=some c:=by
 have q:=W.cellsFrom_some sc.names n [] (.inl h);exact Option.isSome_iff_exists.mp q
theorem z7{CX:qm}{P:Program}{w:World}{K:W.Frag}{mg:ZV}{base:Heap}{N ps:ZD}{qual:Str}{scope:Scope}{f:Addr}{cd:Value}{A:Around}{outer:List Env}{s s1:Shared}{H:Hp}{E:XK}{us:ZM}{vs:ZQ}
  (S:Jt N ps scope) (hd:A.handled=none) (e0:K5 P w K mg base A outer s H) (hl:vs.length=ps.length) (r:Zf vs us)
  (x:InCallC s s.heap.objs.size (bindL (envOfC qual scope s.heap.objs.size f cd).kindOf (ps.zip us) λ_=>none) (cellsFrom (s.heap.objs.size+1) scope.names []) (bindC (envOfC qual scope s.heap.objs.size f cd).kindOf (ps.zip us) λ_=>none) s1) :
  Inv (Ov CX P w K mg base N qual scope f cd A outer s H E) [] (start N vs) H s1:=by
 have qy:ps.length<=N.length:=by have:=congrArg List.length S.pre;rw[L0t]at this;omega
 obtain⟨h1,tk,rfl,hk⟩:=x.done;have noA:∀b:Addr,b∉(Ov CX P w K mg base N qual scope f cd A outer s H E).ex:=λb z=>absurd (show b∈([]:ZU) from z) XI
 refine⟨⟨e0.mod,S.kind,rfl,rfl,Yk _,λy z c h1 h2=>?_,λy hy=>?_,λy c _ h=>?_,λ_=>hd,Around.frames_deeper e0.frames,.inr ⟨rfl,rfl⟩,λb z=>absurd z (noA b),e0.bs,e0.bsz,λb _ _=>noA b,λb z=>absurd z (noA b),e0.funs,e0.frf⟩,
  rfl,e0.bare,Un.kept hk,⟨_,x.toInCall.ns,λi y v h1 h2 h3=>?_⟩,λy c h=>⟨_,x.cell y c h⟩,e0.hok.fresh (Yk _),λy c h=>?_,λp hp=>absurd (show p∈([]:ZY) from hp) XI,e0.hok.kept hk,?_⟩
 .exact name_of_addr x.apart (PySem.mem_of_lookup h1) (PySem.mem_of_lookup h2)
 .have hy:scope.names.lookup y=some .cell\/scope.names.lookup y=some .free:=hy;rcases hy with hy | hy
  .exact Ob hy
  .exact absurd rfl (S.nofree _ (PySem.mem_of_lookup hy))
 .exact Nat.le_of_lt (x.above y c (PySem.mem_of_lookup h))
 .have hi:i<vs.length:=by
   unfold start at h2;by_cases hi:i<vs.length
   .exact hi
   .rw[List.getElem?_append_right (by simpa using hi)]at h2;rw[List.getElem?_replicate]at h2
    split at h2<;>cases h2
  have ha:vs[i]?=some v:=by
   unfold start at h2;rw[G0l (by simpa using hi),Qv]at h2;cases e:vs[i]? with
   | none=>rw[e]at h2;cases h2
   | some a=>rw[e]at h2;cases h2;rfl
  obtain⟨u,hu,rv⟩:=r.get ha
  have hp:ps[i]?=some y:=by
   rw[<-S.pre,List.getElem?_take_of_lt XH];exact h1
  have ndP:ps.Nodup:=by rw[<-S.pre];exact S.nd.sublist (List.take_sublist _ _)
  refine⟨u,rv,?_⟩;rcases S.par y (List.mem_of_getElem? hp) with k | k
  .exact .inl ⟨k,Wh ndP hp hu k⟩
  .obtain⟨c,e⟩:=Ob (n:=s.heap.objs.size+1) k;refine .inr ⟨.inl k,c,e,?_⟩;have q:=x.cell y c e;rw[Wu ndP hp hu (by show scope.names.lookup y≠_;rw[k];decide)]at q;exact q
 .exact e0.hok.fresh (Nat.le_of_lt (x.above y c (PySem.mem_of_lookup h)))
 .unfold start;show _=N.length;rw[Qw,Yc,List.length_replicate];omega
theorem Zqv{CX:qm}{P:Program}{w:World}{K:W.Frag}{mg:ZV}{base:Heap}{k:Nat}{f:Addr}{name qual:Str}{params:Arguments}{body:List Stmt}{scope:Scope}{dV kV doc pm cdv ct oc:Value}{an od:ZP}
  {osl:ZF} {N ps:ZD} {sp:Sp} (lk:K.lookup f=some ⟨oc,od,.func (W.fnOf name qual params body scope dV kV doc pm an cdv ct),osl⟩) (L1:W.codeIn K cdv qual=true) (S:Jt N ps scope)
  (len:∀vs H Q E,sp vs H Q E->vs.length=ps.length)
  (P4:∀(A:Around) (outer:List Env) (s:Shared) (H:Hp) (vs:ZQ) (Q:VK) (E:XK),Uc k (A.deeper (envOfC qual scope s.heap.objs.size f cdv))->sp vs H Q E ->
   ∃t,Rw (Ov CX P w K mg base N qual scope f cdv A outer s H E) body t/\t { nx:=λ_ H'=>Q .non H',rt:=Q } (start N vs) H) :
  Dq P w K mg base CX (k+1) f (W.fnOf name qual params body scope dV kV doc pm an cdv ct) ps sp:=by
 refine⟨len,λA outer s H args us vs Q E hr e0 hb r hsp=>?_⟩;have hl:=len _ _ _ _ hsp;have KX:K.In s.heap:=e0.mod.kin.keeps λb o e=>(e0.bs b o e).1;have lim:s.heap.NoLimit:=e0.mod.nolimit.keeps λb o e=>(e0.bs b o e).1
 have hkind:∀y∈ps.zip us,scope.names.lookup y.1=some .local\/(scope.names.lookup y.1=some .cell/\((cellsFrom (s.heap.objs.size+1) scope.names []).lookup y.1).isSome=true):=λ⟨n,v⟩ hy=>by
  rcases S.par n (List.of_mem_zip hy).1 with q | q
  .exact .inl q
  .exact .inr ⟨q,W.cellsFrom_some _ _ _ (.inl q)⟩
 refine codeAny_call_function hr.depth (KX _ _ lk) rfl S.co S.gen rfl (W.codeRec_of KX L1) (hb _ _ _ _ ?_);refine wpAny_newFunctionEnv_cells S.kind hkind λenv he s1 x=>?_;subst he;refine⟨lim.keeps x.toInCall.keep,codeAny_func ?_⟩;obtain⟨t,ht,hq⟩:=P4 A outer s H vs Q E (hr.deeper _) hsp;have I:Inv (Ov CX P w K mg base N qual scope f cdv A outer s H E) [] (start N vs) H s1:=z7 S hr.hd e0 hl r x;refine wpAny_mono (ht [] s1 (start N vs) H _ I hq) (λfl s' hs=>?_) λe s' hs=>hs
 have fin:∀{σ':St} {H':Hp} {v:V} {u:Value},Inv (Ov CX P w K mg base N qual scope f cdv A outer s H E) [] σ' H' s'->RelV v u->Q v H'->CE outer P w H s Q u s' :=
  λ{σ' H' v u} J rv q=>⟨v,H',J.os,J.bare,J.base,J.hok,rv,q⟩
 cases fl with
 | ret u =>
  obtain⟨v,σ',H',J,rv,q⟩:=hs;exact fin J rv q
 | next =>
  obtain⟨σ',H',J,q⟩:=hs;exact fin (v:=V.non) (u:=Value.none) J rfl q
 | brk =>
  obtain⟨_,_,_,q⟩:=hs;exact False.elim q
 | cont =>
  obtain⟨_,_,_,q⟩:=hs;exact False.elim q
section
variable{X:Cx}{x:Str}{p pos:Pos}{e:Expr}{es:ZC}{t:TA}{id T:String}{r:ZQ->Hp->VK->Prop}
def tCB(r:ZQ->Hp->VK->Prop)(t:TA):TE:=λZ H Q=>t Z H λvs H1=>r vs H1 Q
theorem Tu(hc:Yb X (.builtin id) r)(hg:Gl X x)(hm:X.mg x=none)(hv:bootBuiltins x=some (.builtin id))(ha:PA X (e::es) t)(hn:x ≠ "__name__" := by decide)(hdb:(x==("__debug__" : Str))=false:=by decide)
  (he:starEach (e::es) X.env=(false,eval e X.env)::starEach es X.env:=by rfl) (qy:(backTo pos (starEach es X.env)).any (·.1)=false:=by rfl):PE X (.Call (.Name x p) (e::es) [] pos) (tCB r t):=by
 intro XM s Z H Q I h;refine wpAny_Call_Name_kw (J4 I hg hm hv ?_ hn hdb);exact callWith_builtin1 (Z5 (ha pos XM s Z H _ I h) λus s1 ⟨vs,H1,I1,r1,q1⟩=>hc XM s1 Z H1 vs us Q I1 r1 q1) he qy
theorem Wq(hc:Yb X (.type T) r)(hg:Gl X x)(hm:X.mg x=none)(hv:bootBuiltins x=some (.type T))(ha:PA X (e::es) t)(hn:x ≠ "__name__" := by decide)(hdb:(x==("__debug__" : Str))=false:=by decide)
  (he:starEach (e::es) X.env=(false,eval e X.env)::starEach es X.env:=by rfl) (qy:(backTo pos (starEach es X.env)).any (·.1)=false:=by rfl):PE X (.Call (.Name x p) (e::es) [] pos) (tCB r t):=by
 intro XM s Z H Q I h;refine wpAny_Call_Name_kw (J4 I hg hm hv ?_ hn hdb);exact callWith_type1 (Z5 (ha pos XM s Z H _ I h) λus s1 ⟨vs,H1,I1,r1,q1⟩=>hc XM s1 Z H1 vs us Q I1 r1 q1) he qy
end
end L2
namespace HT
open PySem PyProof.Rows
section
open PySem.SeqAt
open PySem.AutoSeq1 (wpAny_loadPart')
open PySem.MeetsSeq PySem.MeetsSeq2 PySem.MeetsSeq3
end
section
variable{prog:Program}{w:World}{A:Around}{E:ZW}{s:Shared}
theorem Zz7{t b:Addr}{vs ws:ZM}{Q:ZW}(ht:IsTup s.heap t vs.toArray)(hb:IsTup s.heap b ws.toArray)(hv:vs≠[])
  (h1:ws=[]->Q (.ref t) s) (h2:ws≠[]->Q (.ref s.heap.objs.size) { s with heap:=s.heap.push { cls:=.type "tuple",data:=.seq (vs++ws).toArray } })
  (hsz:vs.length+ws.length<=sizeLine):wpAny (model prog w) A (binaryOp .Add (.ref t) (.ref b)) Q E s:=by
 obtain⟨⟨cls,dd,data,sl⟩,ho,hc,n,hd⟩:=id ht;obtain⟨⟨cls2,dd2,data2,sl2⟩,Nf,hc2,n2,hd2⟩:=id hb;simp only at hc hd hc2 hd2;subst hc hd hc2 hd2;have e:vs.toArray++ws.toArray=(vs++ws).toArray:=by simp
 by_cases hw:ws=[]
 .exact concat_meets ⟨_,ho,rfl⟩ ⟨_,Nf,rfl⟩ noFill_tuple_add seq_tuple_add PySem.F.slot_tuple_add PySem.F.entry_tuple_add (PySem.F.args_tuple_add_2 _ _)
   (tuple_addW1 t b vs.toArray ws.toArray n n2 dd dd2 sl sl2 (by simpa using hv) (by simp[hw])) ⟨ho,Nf,h1 hw⟩
 .refine concat_meets ⟨_,ho,rfl⟩ ⟨_,Nf,rfl⟩ noFill_tuple_add seq_tuple_add PySem.F.slot_tuple_add PySem.F.entry_tuple_add (PySem.F.args_tuple_add_2 _ _)
   (tuple_addW2 t b vs.toArray ws.toArray n n2 dd dd2 sl sl2 (by simpa using hv) (by simpa using hw) (by rw[Jh,Jh];exact hsz)) ⟨ho,Nf,?_⟩
  rw[e];exact h2 hw
noncomputable def Yh(n d:Nat):ZR->Nat
 | none=>d
 | some v=>if v<0 then (v+(n:Int)).toNat else min v.toNat n
theorem Lv(n d k:Nat):Yh n d (some (k:Int))=min k n:=by
 show (if (k:Int)<0 then ((k:Int)+(n:Int)).toNat else min (k:Int).toNat n)=min k n;rw[if_neg XH,XF]
theorem sIx_le(n d:Nat)(hd:d<=n)(o:ZR):Yh n d o<=n:=by
 cases o with
 | none=>exact hd
 | some v =>
  show (if v<0 then (v+(n:Int)).toNat else min v.toNat n)<=n;by_cases hv:v<0
  .rw[if_pos hv];omega
  .rw[if_neg hv];exact Nat.min_le_right _ _
theorem Ii(v:Int)(n d:Nat):(if v<0 then max (v+(n:Int)) 0 else min v (n:Int))=((Yh n d (some v):Nat):Int):=by
 show (if v<0 then max (v+(n:Int)) 0 else min v (n:Int))=(((if v<0 then (v+(n:Int)).toNat else min v.toNat n):Nat):Int);by_cases hv:v<0
 .simp only[if_pos hv];omega
 .simp only[if_neg hv];omega
theorem Ki(lo hi:ZR)(n:Nat):Builtin.Slice.sliceAdjust lo hi 1 (n:Int)=(((Yh n 0 lo:Nat):Int),((Yh n n hi:Nat):Int)):=by
 have h1:¬ ((1:Int)<0):=XH
 unfold Builtin.Slice.sliceAdjust;simp only[h1,if_false];refine Prod.ext ?_ ?_
 .cases lo with
  | none=>rfl
  | some v=>exact Ii v n 0
 .cases hi with
  | none=>rfl
  | some v=>exact Ii v n n
theorem Eu(i j:Nat):Builtin.Slice.slicePlaces (i:Int) (j:Int) 1=j-i:=by
 unfold Builtin.Slice.slicePlaces;have h1:(1:Int)>0:=XH
 simp only[h1,if_true,Int.ediv_one]
 split<;>omega
theorem Tg{v:Value}{o:ZR}{Q:ZR->Shared->Prop}(p:IsPart v o)(h:Q o s):wpAny (model prog w) A (Builtin.Slice.slicePartIndex v) Q E s:=by
 cases p with
 | none=>exact slicePart_none h
 | int i t=>exact slicePart_int h
theorem Uo{sl:Addr}{vl vu:Value}{lo hi:ZR}{n:Nat}{Q:Int×Int×Nat->Shared->Prop}(hs:s.heap.IsSliceOf sl vl vu .none)(pl:IsPart vl lo)(pu:IsPart vu hi)
  (h:Q (((Yh n 0 lo:Nat):Int),1,Yh n n hi-Yh n 0 lo) s):wpAny (model prog w) A (Builtin.Slice.sliceApplied (.ref sl) (pure (n:Int))) Q E s:=by
 obtain⟨os,xj,hcs,lh⟩:=id hs;unfold Builtin.Slice.sliceApplied Builtin.Slice.sliceFields;refine Zj (Zj (wpAny_field xj lh (x:=vl) rfl (Zj (wpAny_field xj lh (x:=vu) rfl (Zj (wpAny_field xj lh (x:=.none) rfl (Zr ?_)))))));refine Zj (slicePart_none ?_);show wpAny _ _ (if ((1:Int)==0)=true then _ else _) _ _ s;rw[if_neg XA];refine Zj (Tg pl (Zj (Tg pu (Zj (Zr ?_)))));show wpAny _ _ (match Builtin.Slice.sliceAdjust lo hi 1 (n:Int) with | (lo,hi)=>pure (lo,(1:Int),Builtin.Slice.slicePlaces lo hi 1)) _ _ s;rw[Ki lo hi n];show wpAny _ _ (pure (((Yh n 0 lo:Nat):Int),(1:Int),Builtin.Slice.slicePlaces ((Yh n 0 lo:Nat):Int) ((Yh n n hi:Nat):Int) 1)) _ _ s;rw[Eu];exact Zr h
theorem kr(xs:ZN)(i k:Nat):((List.range k).filterMap λ(m:Nat)=>xs[((i:Int)+(m:Int)*1).toNat]?).toArray=((xs.toList.drop i).take k).toArray:=by
 have e:(λ(m:Nat)=>xs[((i:Int)+(m:Int)*1).toNat]?)=λm=>xs[i+m]?:=by
  funext m
  have:((i:Int)+(m:Int)*1).toNat=i+m:=XH
  rw[this]
 rw[e];have:=pick_run xs i k;rw[List.filterMap_map]at this;have e2:((λx=>xs[x]?) ∘ λx=>i+x)=λm=>xs[i+m]?:=rfl;rw[e2]at this;rw[this]
theorem M4{t sl:Addr}{items:ZN}{vl vu:Value}{lo hi:ZR}{Q:ZW}(ht:IsTup s.heap t items)(hs:s.heap.IsSliceOf sl vl vu .none)(pl:IsPart vl lo)(pu:IsPart vu hi)
  (hw:¬ (Yh items.size 0 lo=0/\Yh items.size items.size hi=items.size))
  (h:Q (.ref s.heap.objs.size) { s with heap:=s.heap.push { cls:=.type "tuple",data:=.seq ((items.toList.drop (Yh items.size 0 lo)).take (Yh items.size items.size hi-Yh items.size 0 lo)).toArray } })
  (hsz:items.size<=sizeLine):wpAny (model prog w) A (getItem (.ref t) (.ref sl)) Q E s:=by
 have Me:sizeOk (.seq ((items.toList.drop (Yh items.size 0 lo)).take (Yh items.size items.size hi-Yh items.size 0 lo)).toArray):=by
  show ((items.toList.drop (Yh items.size 0 lo)).take (Yh items.size items.size hi-Yh items.size 0 lo)).toArray.size<=sizeLine;rw[Jh,L0t,List.length_drop,qt];omega
 have hj:Yh items.size items.size hi<=items.size:=sIx_le _ _ (Yk _) hi;obtain⟨os,xj,hcs,lh⟩:=id hs;have hTs:s.TypeIs (.ref sl) "slice" := ⟨os,xj,hcs⟩;unfold getItem
 try with_reducible refine wpAny_holding ?_
 first | refine Zj (Zr ?_) | skip
 refine Zj (wpAny_sequenceKey ht.typeIs XA ?_)
 refine Zj (wpAny_callSpecial?_slot (name:=Str.ofString "__getitem__") ht.typeIs slot_tuple_getitem
  (wpAny_call_entry slot_tuple_getitem ht.typeIs entry_tuple_getitem ?_ (args_tuple_getitem _ _)))
 show wpAny _ _ (Builtin.Tuple.tupleItemsOf (.ref t) >>= _) _ _ s;refine Zj (tupleItemsOf_ ht ?_);refine Zj (wpAny_typeOf hTs ?_);rw[if_pos XA];refine Zj (Uo hs pl pu ?_)
 have hno:¬ ((((Yh items.size 0 lo:Nat):Int)==0&&(1:Int)==1&&(Yh items.size items.size hi-Yh items.size 0 lo)==items.size)=true):=by
  intro q;rw[Y8,Y8]at q;have q1:((Yh items.size 0 lo:Nat):Int)=0:=eq_of_beq q.1.1;have q2:Yh items.size items.size hi-Yh items.size 0 lo=items.size:=eq_of_beq q.2;exact hw ⟨by omega,by omega⟩
 show wpAny _ _ (if (((Yh items.size 0 lo:Nat):Int)==0&&(1:Int)==1&&(Yh items.size items.size hi-Yh items.size 0 lo)==items.size)=true then _ else _) _ _ s;rw[if_neg hno,kr]
 first
  | exact Zj (m:=Builtin.Tuple.tupleExact _) (wpAny_newObj_type (Zr ⟨_,rfl,Zr h⟩) Me)
  | exact Zj (m:=Builtin.Tuple.tupleExact _) (wpAny_newObj_type (Zj (Zr (Zr ⟨_,rfl,Zr h⟩))) Me)
  | exact Zj (Zj (m:=Builtin.Tuple.tupleExact _) (wpAny_newObj_type (Zr (Zr ⟨_,rfl,Zr h⟩)) Me))
  | exact Zj (Zj (m:=Builtin.Tuple.tupleExact _) (wpAny_newObj_type (Zr ⟨_,rfl,Zr h⟩) Me))
end
end HT
namespace L2
open PySem PySem.Spec PyProof.Rows
abbrev TO:=St->Hp->(ZR->Hp->Prop)->Prop
def PO(X:Cx)(e:Option Expr)(t:TO):Prop :=
 ∀(XM:ZY) (s:Shared) (Z:St) (H:Hp) (Q:ZR->Hp->Prop),Inv X XM Z H s->t Z H Q ->
  wpAny (model X.prog X.w) X.A (evalPart e X.env) (λu s'=>∃o H',Inv X XM Z H' s'/\IsPart u o/\Q o H') X.xe s
def sd:TO:=λ_ H Q=>Q none H
inductive Hg(Q:(ZR->Hp->Prop))(x:V)(H1:Hp):Prop
 | mk(i)(Vz:x=.int i)(Y9:Q (some i) H1):Hg Q x H1
def tPart(t:TE):TO:=λZ H Q=>t Z H λx H1=>Hg Q x H1
theorem intsAre_of{ns:ZL}:∀{us:ZM},Zf (ns.map V.int) us->IntsAre us ns:=by
 induction ns with
 | nil=>intro us r;rw[List.map_nil]at r;cases r;exact .nil
 | cons n ns ih =>
  intro us r;rw[D2]at r;cases r with
  | cons r1 r2 =>
   obtain⟨t,e⟩:=r1;subst e;exact .cons n t (ih r2)
section
variable{X:Cx}{e:Expr}{te:TE}{lo hi:Option Expr}{tl th:TO}{pos p2:Pos}
theorem An:PO X none sd:=by
 intro XM s Z H Q I h;rw[evalPart_none];exact Zr ⟨none,H,I,.none,h⟩
theorem Ac(h:PE X e te):PO X (some e) (tPart te):=by
 intro XM s Z H Q I hw;rw[evalPart_some];refine Z5 (h XM s Z H _ I hw) λu s1 ⟨x,H1,I1,r1,q1⟩=>?_;obtain⟨i,rfl,q⟩:=q1;obtain⟨t,rfl⟩:=r1;exact⟨some i,H1,I1,.int i t,q⟩
def SlR(X:Cx)(r:V->ZR->ZR->Hp->VK->Prop):Prop :=
 ∀(XM:ZY) (s:Shared) (Z:St) (H:Hp) (x:V) (v vl vu:Value) (lo hi:ZR) (sl:Addr) (Q:VK),Inv X XM Z H s->RelV x v->s.heap.IsSliceOf sl vl vu .none->IsPart vl lo->IsPart vu hi->r x lo hi H Q ->
  ∃T id,typeLookup (.type T) "__getitem__"=pure (some (.builtin id))/\s.TypeIs v T/\wpAny (model X.prog X.w) X.A (getItem v (.ref sl)) (EP X XM Z Q) X.xe s
def tSl(r:V->ZR->ZR->Hp->VK->Prop)(te:TE)(tl th:TO):TE:=λZ H Q=>te Z H λx H1=>tl Z H1 λl H2=>th Z H2 λu H3=>r x l u H3 Q
theorem Q7{r:V->ZR->ZR->Hp->VK->Prop}(hr:SlR X r)(he:PE X e te)(hl:PO X lo tl)(hu:PO X hi th):PE X (.Subscript e (.Slice lo hi none p2) pos) (tSl r te tl th):=by
 intro XM s Z H Q I h;refine Subscript_ (Z5 (he XM s Z H _ I h) λv s1 ⟨x,H1,I1,r1,q1⟩=>?_);refine wpAny_Slice (Z5 (hl XM s1 Z H1 _ I1 q1) λvl s2 ⟨l,H2,I2,pl,q2⟩=>Z5 (hu XM s2 Z H2 _ I2 q2) λvu s3 ⟨u,H3,I3,pu,q3⟩=>?_);rw[evalPart_none];refine Zr ?_;have I4:Inv X XM Z H3 { s3 with heap:=s3.heap.push { cls:=.type "slice",data:=.fields #[vl,vu,.none] } }:=I3.kept (t':=s3.toks) λb ob q=>Yn _ q;obtain⟨T,id,hT,ht,hg⟩:=hr XM { s3 with heap:=s3.heap.push { cls:=.type "slice",data:=.fields #[vl,vu,.none] } } Z H3 x v vl vu l u s3.heap.objs.size Q I4 r1 (Heap.IsSliceOf.new ..) pl pu q3;show wpAny (model X.prog X.w) X.A (subscriptTail e (.Slice lo hi none p2) v (.ref s3.heap.objs.size)) (EP X XM Z Q) X.xe { s3 with heap:=s3.heap.push { cls:=.type "slice",data:=.fields #[vl,vu,.none] } };exact tail_any (ops:=[.ref s3.heap.objs.size,v]) ht hT hg (by with_unfolding_all rfl)
noncomputable def Cb(xs:ZQ)(lo hi:ZR):ZQ:=(xs.drop (HT.Yh xs.length 0 lo)).take (HT.Yh xs.length xs.length hi-HT.Yh xs.length 0 lo)
theorem Uw(xs:ZQ)(lo hi:ZR):(Cb xs lo hi).length<=xs.length:=by
 unfold Cb;rw[L0t,List.length_drop];omega
inductive yp(K:W.Frag)(x:V)(lo:ZR)(hi:ZR)(H:Hp)(Q:VK):Prop
 | mk(a xs)(Vz:x=.ref a)(Y9:Y1 K H a xs)(U5:¬ (HT.Yh xs.length 0 lo=0/\HT.Yh xs.length xs.length hi=xs.length))(L4:∀p,H p=none->Q (.ref p) (upd H p (.tup (Cb xs lo hi)))):yp K x lo hi H Q
def rSlT(K:W.Frag):V->ZR->ZR->Hp->VK->Prop:=λx lo hi H Q=>yp K x lo hi H Q
theorem sl_tup:SlR X (rSlT X.K):=by
 intro XM s Z H x v vl vu lo hi sl Q I rx hs pl pu h;obtain⟨a,xs,rfl,hx,hw,q⟩:=h;cases rx;obtain⟨XT,r,ht,hz⟩:=I.tuple hx;have hlen:XT.toArray.size=xs.length:=by rw[Jh];exact r.length.symm
 refine⟨"tuple",_,slot_tuple_getitem.lookup,ht.typeIs,?_⟩;refine HT.M4 ht hs pl pu (by rw[hlen];exact hw) ?_ (by rw[hlen];exact hz);rw[hlen];refine⟨.ref s.heap.objs.size,_,I.laid (t':=s.toks) (o:=.tup (Cb xs lo hi)) (λb ob q=>Yn _ q) (Yk _) ?_,rfl,q _ (I.hok.fresh (Yk _))⟩;exact⟨D0 (Uw xs lo hi) hz,_,(r.drop (HT.Yh xs.length 0 lo)).take (HT.Yh xs.length xs.length hi-HT.Yh xs.length 0 lo),C7.new _ _⟩
inductive Af(K:W.Frag)(x:V)(y:V)(H:Hp)(Q:VK):Prop
 | mk(a b xs ys)(Vz:x=.ref a)(Y9:y=.ref b)(U5:Y1 K H a xs)(L4:Y1 K H b ys)(qf:xs≠[])(h5_:xs.length+ys.length<=sizeLine)(h6_:(ys=[]->Q (.ref a) H))(h7_:(ys≠[]->∀p,H p=none->Q (.ref p) (upd H p (.tup (xs++ys))))):Af K x y H Q
def rCatT(K:W.Frag):R2:=λx y H Q=>Af K x y H Q
theorem Zf.nil_iff{xs:ZQ}{us:ZM}(r:Zf xs us):us=[]↔xs=[]:=by
 cases r with
 | nil=>simp
 | cons _ _=>simp
theorem o6:Ny X (binaryOp .Add) (rCatT X.K):=by
 intro XM s Z H x y v u Q I rx ry h;obtain⟨a,b,xs,ys,rfl,rfl,ha,hb,hx,hz,q1,q2⟩:=h;cases rx;cases ry;obtain⟨XT,r1,p1,_⟩:=I.tuple ha;obtain⟨its2,r2,p2,_⟩:=I.tuple hb;refine HT.Zz7 p1 p2 (λz=>hx (r1.nil_iff.mp z)) (λz=>⟨.ref a,H,I,rfl,q1 (r2.nil_iff.mp z)⟩) (λz=>?_) (by rw[<-r1.length, <-r2.length];exact hz);refine⟨.ref s.heap.objs.size,_,I.laid (t':=s.toks) (o:=.tup (xs++ys)) (λb ob q=>Yn _ q) (Yk _) ?_,rfl,q2 (λw=>z (r2.nil_iff.mpr w)) _ (I.hok.fresh (Yk _))⟩;exact⟨by rw[Qw];exact hz,_,r1.append r2,C7.new _ _⟩
end
noncomputable def Sr(n:Nat)(i:Int):ZH:=if 0<=i then (if i<n then some i.toNat else none) else if -(n:Int)<=i then some (i+n).toNat else none
noncomputable def C3{Z:Type}(xs:List Z)(i:Int):Option Z:=(Sr xs.length i).bind λj=>xs[j]?
theorem Lu{n:Nat}{i:Int}{j:Nat}(h:Sr n i=some j):seqIndex? i n=some j/\j<n/\-(n:Int)<=i/\i<n:=by
 unfold Sr at h;by_cases h0:0<=i
 .rw[if_pos h0]at h;by_cases h1:i<n
  .rw[if_pos h1]at h;have e:i.toNat=j:=Je h;exact⟨by rw[seqIndex_of h0 h1,e],by omega,by omega,h1⟩
  .rw[if_neg h1]at h;cases h
 .rw[if_neg h0]at h;by_cases h1:-(n:Int)<=i
  .rw[if_pos h1]at h;have e:(i+n).toNat=j:=Je h;exact⟨by rw[seqIndex_neg XH h1,e],by omega,h1,by omega⟩
  .rw[if_neg h1]at h;cases h
theorem Fh{Z:Type}{xs:List Z}{i:Int}{v:Z}(h:C3 xs i=some v):∃j,seqIndex? i xs.length=some j/\xs[j]?=some v/\j<xs.length/\-(xs.length:Int)<=i/\i<xs.length:=by
 unfold C3 at h;cases e:Sr xs.length i with
 | none=>rw[e]at h;cases h
 | some j =>
  rw[e]at h;obtain⟨h1,h2,h3,h4⟩:=Lu e;exact⟨j,h1,h,h2,h3,h4⟩
def Xj(b:Expr):Prop:=∀o i,subscripted b false o i=operate [o,i] (getItem o i)
def IxR(X:Cx)(r:R2):Prop :=
 ∀(value slice:Expr) (XM:ZY) (s:Shared) (Z:St) (H:Hp) (x y:V) (v u:Value) (Q:VK),Inv X XM Z H s->RelV x v->RelV y u->r x y H Q ->
  subscripted slice false v u=operate [v,u] (getItem v u)->wpAny (model X.prog X.w) X.A (subscriptTail value slice v u) (EP X XM Z Q) X.xe s
def MtR(X:Cx)(id:String)(r:V->ZQ->Hp->VK->Prop):Prop :=
 ∀(XM:ZY) (s:Shared) (Z:St) (H:Hp) (x:V) (xs:ZQ) (v:Value) (us:ZM) (Q:VK),Inv X XM Z H s->RelV x v->Zf xs us->r x xs H Q ->
  wpAny (model X.prog X.w) X.A (call (.builtin id) (v::us)) (EP X XM Z Q) X.xe s
section
variable{X:Cx}{a b:Expr}{ta tb:TE}{pos:Pos}
theorem pe_ix{r:R2}(hr:IxR X r)(ha:PE X a ta)(hb:PE X b tb)(hs:Xj b):PE X (.Subscript a b pos) (tOp r ta tb):=by
 intro XM s Z H Q I h;exact Subscript_ (binT ha hb I h λv u s2 x y H2 I2 rx ry q=>hr a b XM s2 Z H2 x y v u Q I2 rx ry q (hs _ _))
inductive ye(K:W.Frag)(x:V)(y:V)(H:Hp)(Q:VK):Prop
 | mk(p xs i v)(Vz:x=.ref p)(Y9:y=.int i)(U5:V0 K H p xs)(L4:C3 xs i=some v)(qf:Q v H):ye K x y H Q
def rIxL(K:W.Frag):R2:=λx y H Q=>ye K x y H Q
inductive yo(K:W.Frag)(x:V)(y:V)(H:Hp)(Q:VK):Prop
 | mk(p xs i v)(Vz:x=.ref p)(Y9:y=.int i)(U5:Y1 K H p xs)(L4:C3 xs i=some v)(qf:Q v H):yo K x y H Q
def rIxT(K:W.Frag):R2:=λx y H Q=>yo K x y H Q
inductive yi(x:V)(y:V)(H:Hp)(Q:VK):Prop
 | mk(z i c)(Vz:x=.str z)(Y9:y=.int i)(U5:z.length<=sizeLine)(L4:C3 z.cps.toList i=some c)(qf:Q (.str ⟨#[c]⟩) H):yi x y H Q
def rIxS:R2:=λx y H Q=>yi x y H Q
theorem ee:IxR X (rIxL X.K):=by
 intro value slice XM s Z H x y v u Q I rx ry h hs;obtain⟨p,xs,i,z,rfl,rfl,hq,he,q⟩:=h;cases rx;obtain⟨t,rfl⟩:=ry;obtain⟨XT,r,pl,hz⟩:=I.list hq;obtain⟨j,h1,h2,h3,h4,h5⟩:=Fh he;obtain⟨w,ew,Ly⟩:=r.get h2;have hl:=r.length;have hn:=Nu;have fin:EP X XM Z Q w s:=⟨z,H,I,Ly,q⟩;by_cases h0:0<=i
 .have hj:i.toNat=j:=by
   rw[seqIndex_of h0 h5]at h1;exact Je h1
  exact item_listR pl.isList h0 XH (by rw[hj];simpa using ew) fin hs
 .have hj:(i+(XT.toArray.size:Int)).toNat=j:=by
   rw[seqIndex_neg XH h4]at h1;rw[Jh, <-hl];exact Je h1
  exact subscriptTail_builtinR (x:=w) pl.isList.typeIs slot_list_getitem.lookup
   (wpAny_getItem_list_neg (Q:=λr s'=>r=w/\EP X XM Z Q r s') pl.isList XH (by rw[Jh]<;>omega) XH (by rw[hj];simpa using ew) ⟨rfl,fin⟩) hs
theorem ix_tup:IxR X (rIxT X.K):=by
 intro value slice XM s Z H x y v u Q I rx ry h hs;obtain⟨p,xs,i,z,rfl,rfl,hq,he,q⟩:=h;cases rx;obtain⟨t,rfl⟩:=ry;obtain⟨XT,r,pl,hz⟩:=I.tuple hq;obtain⟨j,h1,h2,h3,h4,h5⟩:=Fh he;obtain⟨w,ew,Ly⟩:=r.get h2;have hl:=r.length;have hn:=Nu;have fin:EP X XM Z Q w s:=⟨z,H,I,Ly,q⟩
 exact subscriptTail_builtinR (x:=w) pl.typeIs slot_tuple_getitem.lookup
  (getItem_tuple (j:=j) (Q:=λr s'=>r=w/\EP X XM Z Q r s') pl XH XH (by rw[Jh, <-hl];exact h1) (by simpa using ew) ⟨rfl,fin⟩) hs
theorem ix_str:IxR X rIxS:=by
 intro value slice XM s Z H x y v u Q I rx ry h hs;obtain⟨z,i,c,rfl,rfl,hz,he,q⟩:=h;obtain⟨t,rfl⟩:=rx;obtain⟨t',rfl⟩:=ry;obtain⟨j,h1,h2,h3,h4,h5⟩:=Fh he;have hl:z.cps.toList.length=z.length:=by simp[Str.length]
 rw[hl]at h1 h4 h5;have hn:=Nu
 exact tail_any (typeIs_str s z t) slot_str_getitem.lookup (getItem_str (c:=c) (by
  have e1:decide (i < -(2 ^ 63:Int))=false:=Gr XH;have e2:decide (i ≥ 2 ^ 63)=false:=Gr XH;rw[e1,e2,Bool.or_false]) (by rw[h1];simpa using h2) ⟨.str ⟨#[c]⟩,H,I.tok _,⟨_,rfl⟩,q⟩) hs
theorem E4(XT:ZM)(n j:Nat)(u:Value):Obj.mapSeq (·.setIfInBounds j u) { cls:=.type "list",data:=.seq XT.toArray n }={ cls:=.type "list",data:=.seq (XT.set j u).toArray n }:=by
 simp[Obj.mapSeq]
theorem Inv.lst{XM:ZY}{Z:St}{H:Hp}{s:Shared}{p:Addr}{xs:ZQ}(I:Inv X XM Z H s)(h:H p=some (.lst xs)) :
  ∃(XT:ZM) (n:Nat),Zf xs XT/\s.heap.get? p=some { cls:=.type "list",data:=.seq XT.toArray n }/\xs.length<=sizeLine:=by
 obtain⟨z,XT,n,r,e⟩:=I.hok p _ h;exact⟨XT,n,r,e,z⟩
theorem Inv.lstUpd{XM:ZY}{Z:St}{H:Hp}{s:Shared}{p:Addr}{xs ys:ZQ}{XT its':ZM}{n n':Nat}{f:Obj->Obj}(I:Inv X XM Z H s)(h:H p=some (.lst xs))
  (ho:s.heap.get? p=some { cls:=.type "list",data:=.seq XT.toArray n }) (hf:f { cls:=.type "list",data:=.seq XT.toArray n }={ cls:=.type "list",data:=.seq its'.toArray n' }) (r:Zf ys its') (hz:ys.length<=sizeLine) (t:Nat) :
  Inv X XM Z (upd H p (.lst ys)) { s with heap:=s.heap.update p f,toks:=t }:=by
 have e:(s.heap.update p f).get? p=some { cls:=.type "list",data:=.seq its'.toArray n' }:=by
  rw[Heap.get?_update_self f ho (by rw[hf]<;>rfl),hf]
 refine I.write (x:=p) (e:=p) (by rw[h];trivial) (.inl rfl) (λb u hb q=>(Heap.get?_update_other _ _ (Ne.symm hb)).trans q) ⟨_,e⟩ ?_;exact⟨hz,its',n',r,e⟩
inductive Ak(o:V)(i:V)(v:V)(H:Hp)(Q:(Hp->Prop)):Prop
 | mk(p xs k j)(Vz:o=.ref p)(Y9:i=.int k)(U5:H p=some (.lst xs))(L4:Sr xs.length k=some j)(qf:Q (upd H p (.lst (xs.set j v)))):Ak o i v H Q
def rSetL:V->V->V->Hp->(Hp->Prop)->Prop:=λo i v H Q=>Ak o i v H Q
theorem set_list:PSet X rSetL:=by
 intro XM s Z H o i v ov iv u Q I ro ri rv h;obtain⟨p,xs,k,j,rfl,rfl,hp,hj,q⟩:=h;cases ro;obtain⟨t,rfl⟩:=ri;obtain⟨XT,n,r,ho,hz⟩:=I.lst hp;obtain⟨h1,h2,h3,h4⟩:=Lu hj;have hl:=r.length;have hn:=Nu
 have I':Inv X XM Z (upd H p (.lst (xs.set j v))) { s with heap:=s.heap.update p (Obj.mapSeq (·.setIfInBounds j u)) } :=
  I.lstUpd hp ho (E4 XT n j u) (r.set rv j) (by rw[XG];exact hz) s.toks
 by_cases h0:0<=k
 .have hk:k.toNat=j:=by
   rw[seqIndex_of h0 h4]at h1;exact Je h1
  exact W.ki_setAt ho h0 XH (by rw[Jh, <-hl];exact h4) (by rw[hk];exact⟨_,I',q⟩)
 .have hk:(k+(XT.toArray.size:Int)).toNat=j:=by
   rw[seqIndex_neg XH h3]at h1;rw[Jh, <-hl];exact Je h1
  exact W.ki_setBack ho XH (by rw[Jh, <-hl];exact h3) XH (by rw[hk];exact⟨_,I',q⟩)
theorem Lq(lo hi:ZR)(n:Nat):(sliceBounds lo hi none n).1=((HT.Yh n 0 lo:Nat):Int)/\(sliceBounds lo hi none n).2.1=((HT.Yh n n hi:Nat):Int)/\(sliceBounds lo hi none n).2.2=1:=by
 refine⟨?_,?_,rfl⟩
 .cases lo with
  | none=>simp[sliceBounds,HT.Yh]
  | some i =>
   simp only[sliceBounds,HT.Yh,Option.getD_none,show (1:Int)>0 by decide,if_true];by_cases h:i<0
   .simp only[h,if_true]<;>omega
   .simp only[h,if_false]<;>omega
 .cases hi with
  | none=>simp[sliceBounds,HT.Yh]
  | some i =>
   simp only[sliceBounds,HT.Yh,Option.getD_none,show (1:Int)>0 by decide,if_true];by_cases h:i<0
   .simp only[h,if_true]<;>omega
   .simp only[h,if_false]<;>omega
theorem Rb(XT:ZM)(lo hi:ZR):slicePick XT.toArray lo hi none=((XT.drop (HT.Yh XT.length 0 lo)).take (HT.Yh XT.length XT.length hi-HT.Yh XT.length 0 lo)).toArray:=by
 obtain⟨h1,h2,h3⟩:=Lq lo hi XT.toArray.size;unfold slicePick;rw[h1,h2,h3];simp only[sliceRange_one,pick_run,Jh]<;>rfl
inductive yu(K:W.Frag)(x:V)(lo:ZR)(hi:ZR)(H:Hp)(Q:VK):Prop
 | mk(a xs)(Vz:x=.ref a)(Y9:V0 K H a xs)(U5:∀p,H p=none->Q (.ref p) (upd H p (.lst (Cb xs lo hi)))):yu K x lo hi H Q
def rSlL(K:W.Frag):V->ZR->ZR->Hp->VK->Prop:=λx lo hi H Q=>yu K x lo hi H Q
theorem um:SlR X (rSlL X.K):=by
 intro XM s Z H x v vl vu lo hi sl Q I rx hs pl pu h;obtain⟨a,xs,rfl,hx,q⟩:=h;cases rx;obtain⟨XT,r,ht,hz⟩:=I.list hx;have hlen:=r.length;refine⟨"list",_,slot_list_getitem.lookup,ht.isList.typeIs,?_⟩;refine wpAny_getItem_list_slice ht.isList hs pl pu .none XI ?_ (by rw[Jh]<;>omega);rw[Rb, <-hlen];refine⟨.ref s.heap.objs.size,_,I.laid (t':=s.toks) (o:=.lst (Cb xs lo hi)) (λb ob q=>Yn _ q) (Yk _) ?_,rfl,q _ (I.hok.fresh (Yk _))⟩;exact⟨D0 (Uw xs lo hi) hz,_,0,(r.drop (HT.Yh xs.length 0 lo)).take (HT.Yh xs.length xs.length hi-HT.Yh xs.length 0 lo),Ur _ rfl⟩
def Gj:V->Bool
 | .non=>true
 | .bl _=>true
 | .int _=>true
 | .str _=>true
 | _=>false
noncomputable def l7:V->V->Bool
 | .non,.non=>true
 | .bl a,.bl b=>a==b
 | .bl a,.int b=>(if a then 1 else 0)==b
 | .int a,.bl b=>a==(if b then 1 else 0)
 | .int a,.int b=>a==b
 | .str a,.str b=>a==b
 | _,_=>false
theorem eqAt_V{A:Around}{s:Shared}{y x:V}{u v:Value}(ry:RelV y u)(rx:RelV x v)(fy:Gj y=true)(fx:Gj x=true):SeqAt.EqAt A s u v (l7 y x):=by
 cases y with
 | non =>
  cases ry;cases x with
  | non=>cases rx;exact SeqAt.EqAt.same _
  | bl b=>cases rx;exact SeqAt.EqAt.none_bool b
  | int b=>obtain⟨t,rfl⟩:=rx;exact SeqAt.EqAt.none_int b t
  | str b=>obtain⟨t,rfl⟩:=rx;exact SeqAt.EqAt.none_str b t
  | _=>exact absurd (show false=true from fx) D5
 | bl a =>
  cases ry;cases x with
  | non=>cases rx;exact SeqAt.EqAt.bool_none a
  | bl b=>cases rx;exact SeqAt.EqAt.bool_bool a b
  | int b=>obtain⟨t,rfl⟩:=rx;exact SeqAt.EqAt.bool_int a b t
  | str b=>obtain⟨t,rfl⟩:=rx;exact SeqAt.EqAt.bool_str a b t
  | _=>exact absurd (show false=true from fx) D5
 | int a =>
  obtain⟨t',rfl⟩:=ry;cases x with
  | non=>cases rx;exact SeqAt.EqAt.int_none a t'
  | bl b=>cases rx;exact SeqAt.EqAt.int_bool a t' b
  | int b=>obtain⟨t,rfl⟩:=rx;exact SeqAt.EqAt.int_int a t' b t
  | str b=>obtain⟨t,rfl⟩:=rx;exact SeqAt.EqAt.int_str a t' b t
  | _=>exact absurd (show false=true from fx) D5
 | str a =>
  obtain⟨t',rfl⟩:=ry;cases x with
  | non=>cases rx;exact SeqAt.EqAt.str_none a t'
  | bl b=>cases rx;exact SeqAt.EqAt.str_bool a t' b
  | int b=>obtain⟨t,rfl⟩:=rx;exact SeqAt.EqAt.str_int a t' b t
  | str b=>obtain⟨t,rfl⟩:=rx;exact SeqAt.EqAt.str_str a t' b t
  | _=>exact absurd (show false=true from fx) D5
 | _=>exact absurd (show false=true from fy) D5
noncomputable def eqU(x:V)(u:Value):Bool:=match u with
 | .none=>l7 .non x
 | .bool b=>l7 (.bl b) x
 | .int i _=>l7 (.int i) x
 | .str z _=>l7 (.str z) x
 | _=>false
theorem eqU_of{x y:V}{u:Value}(r:RelV y u)(f:Gj y=true):eqU x u=l7 y x:=by
 cases y with
 | non=>cases r;rfl
 | bl b=>cases r;rfl
 | int i=>obtain⟨t,rfl⟩:=r;rfl
 | str z=>obtain⟨t,rfl⟩:=r;rfl
 | _=>exact absurd (show false=true from f) D5
inductive Gk(K:W.Frag)(xs:ZQ)(H:Hp)(Q:VK):Prop
 | mk(p ys)(Vz:xs=[.ref p])(Y9:(V0 K H p ys\/Y1 K H p ys))(U5:Q (.int ys.length) H):Gk K xs H Q
theorem Nz:Yb X (.builtin "len") (λxs H Q=>Gk X.K xs H Q):=by
 intro XM s Z H xs us Q I r h;obtain⟨p,ys,rfl,hq,q⟩:=h;obtain⟨u,rfl,rx⟩:=vals1 r;cases rx;have hn:=Nu;rcases hq with hq | hq
 .obtain⟨XT,r',pl,hz⟩:=I.list hq;have hlen:=r'.length;exact Calls.call_len_list pl.isList (by simp only[Jh]<;>omega) ⟨.int ys.length,H,I.tok _,⟨s.toks+1,by rw[Jh,hlen]⟩,q⟩
 .obtain⟨XT,r',pl,hz⟩:=I.tuple hq;have hlen:=r'.length;exact len_tuple pl (by simp only[Jh]<;>omega) ⟨.int ys.length,H,I.tok _,⟨s.toks+1,by rw[Jh,hlen]⟩,q⟩
inductive Gy(K:W.Frag)(xs:ZQ)(H:Hp)(Q:VK):Prop
 | mk(p ys)(Vz:xs=[.ref p])(Y9:(V0 K H p ys\/Y1 K H p ys))(U5:∀l,H l=none->Q (.ref l) (upd H l (.lst ys))):Gy K xs H Q
theorem Fb:Yb X (.type "list") (λxs H Q=>Gy X.K xs H Q):=by
 intro XM s Z H xs us Q I r h;obtain⟨p,ys,rfl,hq,q⟩:=h;obtain⟨u,rfl,rx⟩:=vals1 r;cases rx
 have fin:∀(XT:ZM),Zf ys XT->ys.length<=sizeLine->∀(h':Heap) (c':Nat),(∀b o',s.heap.get? b=some o'->h'.get? b=some o') ->
   h'.get? s.heap.objs.size=some { cls:=.type "list",dict:=none,data:=.seq XT.toArray c',slots:=#[] }->EP X XM Z Q (.ref s.heap.objs.size) { s with heap:=h' }:=λXT r' hz h' c' kp e =>
  ⟨.ref s.heap.objs.size,_,I.laid (t':=s.toks) kp (Yk _) (show Zp X.prog X.w _ h' _ (.lst ys) from⟨hz,XT,c',r',e⟩),rfl,q _ (I.hok.fresh (Yk _))⟩
 rcases hq with hq | hq
 .obtain⟨XT,r',pl,hz⟩:=I.list hq;have hlen:=r'.length;obtain⟨o,ho,hc,n,hd⟩:=pl.isList;exact call_list_seq p (.inl rfl) ho hc hd (λh' c' kp e=>fin XT r' hz h' c' kp e) (by simp only[Jh]<;>omega)
 .obtain⟨XT,r',pl,hz⟩:=I.tuple hq;have hlen:=r'.length;obtain⟨o,ho,hc,n,hd⟩:=pl;exact call_list_seq p (.inr rfl) ho hc hd (λh' c' kp e=>fin XT r' hz h' c' kp e) (by simp only[Jh]<;>omega)
inductive Js(K:W.Frag)(xs:ZQ)(H:Hp)(Q:VK):Prop
 | mk(p ys)(Vz:xs=[.ref p])(Y9:((V0 K H p ys/\∀l,H l=none->Q (.ref l) (upd H l (.tup ys)))\/(Y1 K H p ys/\Q (.ref p) H))):Js K xs H Q
theorem Ra:Yb X (.type "tuple") (λxs H Q=>Js X.K xs H Q):=by
 intro XM s Z H xs us Q I r h;obtain⟨p,ys,rfl,h⟩:=h;obtain⟨u,rfl,rx⟩:=vals1 r;cases rx;rcases h with ⟨hq,q⟩ | ⟨hq,q⟩
 .obtain⟨XT,r',pl,hz⟩:=I.list hq;have hlen:=r'.length;refine call_tuple_list pl.isList (λh' kp=>?_) (by simp only[Jh]<;>omega);have I1:Inv X XM Z H { s with heap:=h' }:=I.kept (t':=s.toks) kp
  have I2:Inv X XM Z (upd H h'.objs.size (.tup ys)) { s with heap:=h'.push { cls:=.type "tuple",data:=.seq XT.toArray } } :=
   I1.laid (t':=s.toks) (λb o e=>Yn _ e) (Yk _) (show Zp X.prog X.w _ _ _ (.tup ys) from⟨hz,XT,r',C7.new _ _⟩)
  exact⟨.ref h'.objs.size,_,I2,rfl,q _ (I1.hok.fresh (Yk _))⟩
 .obtain⟨XT,r',pl,hz⟩:=I.tuple hq;exact call_tuple_same pl ⟨.ref p,H,I,rfl,q⟩
def tyV(K:W.Frag)(T:String)(x:V)(H:Hp):Prop:=match x with
 | .str _=>T="str"
 | .int _=>T="int"
 | .ref p=>(T="list" /\ ∃xs,V0 K H p xs)\/(T="tuple" /\ ∃o,K.lookup p=some o/\o.cls=.type "tuple" /\ o.dict=none) \/
   (T="dict" /\ ((∃XD,H p=some (.dK XD))\/∃XD,H p=some (.dT XD)))\/(T="set" /\ ∃S n,H p=some (.set S n))
 | _=>False
theorem wg{XM:ZY}{Z:St}{H:Hp}{s:Shared}{T:String}{x:V}{v:Value}(I:Inv X XM Z H s)(r:RelV x v)(ty:tyV X.K T x H) :
  s.TypeIs v T/\∀a,v=.ref a->∃ob,s.heap.get? a=some ob/\ob.dict=none:=by
 cases x with
 | str z =>
  obtain⟨t,rfl⟩:=r;cases(show T="str" from ty);exact⟨typeIs_str s z t,λ_ e=>nomatch e⟩
 | int i =>
  obtain⟨t,rfl⟩:=r;cases(show T="int" from ty);exact⟨typeIs_int s i t,λ_ e=>nomatch e⟩
 | ref p =>
  cases r;rcases ty with ⟨rfl,xs,hq⟩ | ⟨rfl,o,hk,hc,hd⟩ | ⟨rfl,hk⟩ | ⟨rfl,S,n,hk⟩
  .obtain⟨XT,_,pl,_⟩:=I.list hq;refine⟨pl.isList.typeIs,λa e=>?_⟩;cases e;obtain⟨o,n,e,c,hd,_⟩:=pl;exact⟨o,e,hd⟩
  .refine⟨⟨o,I.kIn p o hk,hc⟩,λa e=>?_⟩;cases e;exact⟨o,I.kIn _ o hk,hd⟩
  .have z:∃o,s.heap.get? p=some o/\o.ExactDict:=by
    rcases hk with ⟨XD,hk⟩ | ⟨XD,hk⟩
    .obtain⟨_,_,_,_,o,_,_,e,ex,_⟩:=I.hok p _ hk;exact⟨o,e,ex⟩
    .obtain⟨_,_,_,_,o,_,_,e,ex,_⟩:=I.hok p _ hk;exact⟨o,e,ex⟩
   obtain⟨o,e,ex⟩:=z;refine⟨⟨o,e,ex.1⟩,λa e2=>?_⟩;cases e2;exact⟨o,e,ex.2.1⟩
  .obtain⟨o,_,_,_,e,ex,_⟩:=I.hok p _ hk;refine⟨⟨o,e,ex.1⟩,λa e2=>?_⟩;cases e2;exact⟨o,e,ex.2.1⟩
 | _=>exact False.elim ty
def tBM0(K:W.Frag)(T:String)(r:V->ZQ->Hp->VK->Prop)(to:TE):TE:=λZ H Q=>to Z H λx H1=>tyV K T x H1/\r x [] H1 Q
def tBM(K:W.Frag)(T:String)(r:V->ZQ->Hp->VK->Prop)(to:TE)(t:TA):TE:=λZ H Q=>to Z H λx H1=>tyV K T x H1/\t Z H1 λxs H2=>r x xs H2 Q
variable{o e:Expr}{es:ZC}{to:TE}{t:TA}{name:Str}{apos cpos:Pos}{T id:String}{r:V->ZQ->Hp->VK->Prop}
theorem pe_bm0(pa:PlainAttrs T)(slot:Slot T name id)(hty:typeOf (.builtin id)=pure (.type "method_descriptor"))(hm:MtR X id r)(ho:PE X o to)
  (Gq:attributeBase o name X.env (eval o X.env)=eval o X.env:=by rfl) (Gx:(apos.endLine==cpos.line)=true:=by rfl):PE X (.Call (.Attribute o name apos) [] [] cpos) (tBM0 X.K T r to):=by
 intro XM s Z H Q I h;refine wpAny_Call_method0_late Gq Gx (Z5 (ho XM s Z H _ I h) λv s1 ⟨x,H1,I1,r1,ty,q1⟩=>?_);obtain⟨h1,h2⟩:=wg I1 r1 ty;exact⟨T,id,pa,slot,hty,h1,h2,Calls.callWith_builtin rfl (PySem.evalArgs_none (hm XM s1 Z H1 x [] v [] Q I1 r1 .nil q1))⟩
theorem Q9(pa:PlainAttrs T)(slot:Slot T name id)(hty:typeOf (.builtin id)=pure (.type "method_descriptor"))(hm:MtR X id r)(ho:PE X o to)(ha:PA X (e::es) t)
  (Gq:attributeBase o name X.env (eval o X.env)=eval o X.env:=by rfl)
  (hfew:((backTo cpos (starEach (e::es) X.env)).all (λx=>!x.1)&&(backToKw cpos (keywordEach [] X.env)).all (λx=>x.1.isSome)
   && decide ((e::es).length+([]:List Keyword).length+(if ([]:List Keyword).isEmpty then 0 else 1)<30))=true:=by rfl)
  (Gx:(apos.endLine==cpos.line)=true:=by rfl) (hs:starEach (e::es) X.env=(false,eval e X.env)::starEach es X.env:=by rfl) (hplain:(backTo cpos (starEach es X.env)).any (·.1)=false:=by rfl) :
  PE X (.Call (.Attribute o name apos) (e::es) [] cpos) (tBM X.K T r to t):=by
 intro XM s Z H Q I h;refine wpAny_Call_method_late Gq hfew Gx rfl (Z5 (ho XM s Z H _ I h) λv s1 ⟨x,H1,I1,r1,ty,q1⟩=>?_);obtain⟨h1,h2⟩:=wg I1 r1 ty;refine⟨T,id,pa,slot,hty,h1,h2,?_⟩;have hA:=ha cpos XM s1 Z H1 _ I1 q1;rw[hs]at hA ⊢;refine Calls.callWith_builtin (by show (false || (backTo cpos (starEach es X.env)).any (·.1))=false;rw[hplain]<;>rfl) (Calls.evalArgs_plain ?_);exact Z5 hA λus s2 ⟨vs,H2,I2,r2,q2⟩=>hm XM s2 Z H2 x vs v us Q I2 r1 r2 q2
end
def MtM(X:Cx)(id:String)(r:V->ZQ->Hp->VK->Prop):Prop :=
 ∀(XM:ZY) (s:Shared) (Z:St) (H:Hp) (x:V) (xs:ZQ) (v:Value) (us:ZM) (Q:VK),Inv X XM Z H s->RelV x v->Zf xs us->r x xs H Q ->
  wpAny (model X.prog X.w) X.A (call (.builtin id) (v::us)) (EP X XM Z Q) X.xe s
theorem Zf.one:∀{x:V} {us:ZM},Zf [x] us->∃u,us=[u]/\RelV x u
 | _,_,.cons r .nil=>⟨_,rfl,r⟩
theorem Zf.eraseIdx:∀{xs:ZQ} {us:ZM} (i:Nat),Zf xs us->Zf (xs.eraseIdx i) (us.eraseIdx i)
 | _,_,_,.nil=>.nil
 | _,_,0,.cons _ t=>t
 | _,_,i+1,.cons r t=>.cons r (Zf.eraseIdx i t)
theorem Wk{Z:Type}:∀(l:List Z) (i:Nat),(l.eraseIdx i).length<=l.length
 | [],_=>Yk _
 | _::_,0=>Nat.le_succ _
 | _::r,i+1=>Nat.succ_le_succ (Wk r i)
section
variable{X:Cx}{XM:ZY}{Z:St}{H:Hp}{s:Shared}{l b:Addr}{xs ys zs:ZQ}
theorem Inv.lset{XT its':ZM}{n:Nat}{f:ZN->ZN}{t':Nat}(I:Inv X XM Z H s)(hH:H l=some (.lst xs))
  (e:s.heap.get? l=some { cls:=.type "list",data:=.seq XT.toArray n }) (hf:f XT.toArray=its'.toArray) (hv:Zf ys its') (hz:ys.length<=sizeLine) :
  Inv X XM Z (upd H l (.lst ys)) { s with heap:=s.heap.update l (Obj.mapSeq f),toks:=t' }:=by
 have q:=PySem.IsL.update e f;rw[hf]at q;refine I.write (x:=l) (e:=l) (by rw[hH];exact trivial) (.inl rfl) (λb' u hb hu=>(Heap.get?_update_other s.heap (Obj.mapSeq f) (Ne.symm hb)).trans hu) ⟨_,q⟩ ?_;exact⟨hz,its',_,hv,q⟩
theorem Inv.lnew{XT:ZM}{t':Nat}(I:Inv X XM Z H s)(hv:Zf ys XT)(hz:ys.length<=sizeLine) :
  Inv X XM Z (upd H s.heap.objs.size (.lst ys)) { s with heap:=s.heap.push { cls:=.type "list",data:=.seq XT.toArray },toks:=t' } :=
 I.laid (λ_ _ q=>Yn _ q) (Yk _) ⟨hz,XT,0,hv,Ur _ rfl⟩
theorem Inv.fresh(I:Inv X XM Z H s):H s.heap.objs.size=none:=I.hok.fresh (Yk _)
theorem Inv.lstM(I:Inv X XM Z H s)(hH:H l=some (.lst xs)):xs.length<=sizeLine/\∃(XT:ZM) (n:Nat),Zf xs XT/\xs.length=XT.length/\s.heap.get? l=some { cls:=.type "list",data:=.seq XT.toArray n }:=by
 obtain⟨z,XT,n,r,e⟩:=I.hok l _ hH;exact⟨z,XT,n,r,r.length,e⟩
end
section
variable{X:Cx}
inductive Wx(x:V)(vs:ZQ)(H:Hp)(Q:VK):Prop
 | mk(l xs y)(Vz:x=.ref l)(Y9:vs=[y])(U5:H l=some (.lst xs))(L4:xs.length<sizeLine)(qf:Q .non (upd H l (.lst (xs++[y])))):Wx x vs H Q
def aj:V->ZQ->Hp->VK->Prop:=λx vs H Q=>Wx x vs H Q
theorem Wy:MtM X "list.append" aj:=by
 intro XM s Z H x vs v us Q I rx rv h;obtain⟨l,xs,y,rfl,rfl,hH,hz,q⟩:=h;cases rx;obtain⟨u,rfl,ru⟩:=rv.one;obtain⟨z,XT,n,r,hl,e⟩:=I.lstM hH;refine call_meets F.slot_list_append ⟨_,e,rfl⟩ F.entry_list_append (F.args_list_append_2 _ _) (PySem.list_append l XT.toArray n u (by rw[Jh];omega)) ⟨e,?_⟩;refine⟨.non,_,I.lset (its':=XT++[u]) hH e XI (r.append (.cons ru .nil)) ?_,rfl,q⟩;rw[Qw,ZE];omega
inductive Q4(x:V)(vs:ZQ)(H:Hp)(Q:VK):Prop
 | mk(l xs i k y)(Vz:x=.ref l)(Y9:vs=[.int i])(U5:H l=some (.lst xs))(L4:-(2 ^ 63)<=i)(qf:i<2 ^ 63)(h5_:seqIndex? i xs.length=some k)(h6_:xs[k]?=some y)(h7_:Q y (upd H l (.lst (xs.eraseIdx k)))):Q4 x vs H Q
def rPopAt:V->ZQ->Hp->VK->Prop:=λx vs H Q=>Q4 x vs H Q
theorem bx:MtM X "list.pop" rPopAt:=by
 intro XM s Z H x vs v us Q I rx rv h;obtain⟨l,xs,i,k,y,rfl,rfl,hH,h1,h2,hk,hy,q⟩:=h;cases rx;obtain⟨u,rfl,ru⟩:=rv.one;obtain⟨t,rfl⟩:=ru;obtain⟨z,XT,n,r,hl,e⟩:=I.lstM hH;obtain⟨w,hw,Ly⟩:=r.get hy
 refine call_meets F.slot_list_pop ⟨_,e,rfl⟩ F.entry_list_pop (F.args_list_pop_2 _ _)
  (MeetsSeq.list_pop_at l XT.toArray n i t k w (fitsIndex_both h1 h2) (by rw[Jh, <-hl];exact hk) (by rw[<-Array.getElem?_toList];exact hw) (by rw[Jh];omega)) ⟨e,?_⟩
 refine⟨y,_,I.lset (its':=XT.eraseIdx k) hH e ?_ (r.eraseIdx k) ?_,Ly,q⟩
 .show XT.toArray.eraseIdxIfInBounds k=(XT.eraseIdx k).toArray;rw[List.eraseIdxIfInBounds_toArray]
 .have:=Wk xs k;omega
theorem len_rep{Z:Type}(xs:List Z)(k:Nat):(List.replicate k xs).flatten.length=k*xs.length:=by
 induction k with
 | zero=>simp
 | succ k ih=>rw[List.replicate_succ,List.flatten_cons,Qw,ih,Nat.succ_mul,Nat.add_comm]
end
section
variable{prog:Program}{w:World}{A:Around}{E:ZW}{s:Shared}
end
section
variable{X:Cx}
end
end L2
namespace Att
open PySem PySem.W PySem.Calls PyProof.Rows
theorem Bh{P:Params}{h:Heap}:∀(ns:ZL) (vs:ZM),WellAll P h vs (ns.map WData.int)->IntsAre vs ns:=by
 intro ns
 induction ns with
 | nil =>
  intro vs w;rw[List.map_nil]at w;cases w;exact .nil
 | cons n ns ih =>
  intro vs w;rw[D2]at w;cases w with
  | cons a b =>
   cases a;exact .cons _ _ (ih _ b)
theorem Xa{l:OpenLaw}{n:Nat}(hn:l.most=some n){P:Params}{h:Heap}{args:List WData}{vals:ZM}
  (Zzb:l.row.toRowW.claim.pre args=true) (hwl:WellAll P h vals args) :
  ∃a vs ns,vals=[Value.ref a]/\args=[WData.list (ns.map WData.int)]/\h.get? a=some { cls:=.type "list",data:=.seq vs.toArray }/\IntsAre vs ns/\ns.length<=n:=by
 have hsh:WShape.hasAll [] args [.list .int]=true:=(pre_splitW Zzb).1;have hc:l.pre.holds [] { args:=args }=true:=(pre_splitW Zzb).2;obtain⟨d,r,rfl,h1,h2⟩:=hasAllW_cons hsh;obtain rfl:=hasAllW_nil h2;obtain⟨xs,rfl,h3⟩:=hasW_list h1;obtain⟨ns,rfl⟩:=items_int h3
 have hlen:ns.length<=n:=by
  unfold OpenLaw.pre at hc
  have h4:(WTm.not (.lt (.lit (.int (n:Int))) (.len (.arg 0)))).holds [] { args:=[.list (ns.map .int)] }=true:=by
   have h4:=(holds_andW hc).1;rw[hn]at h4;exact h4
  have h5:=condW_of h4 (w_not (w_lt w_lit (w_len_list (w_arg rfl))));rw[Yc]at h5;refine Nat.le_of_not_lt λq=>?_;have q':(n:Int)<((ns.length:Nat):Int):=XH
  first
   | (rw[Gn q']at h5;exact absurd h5 XA)
   | (simp at h5;omega)
 cases hwl with
 | cons w1 w2 =>
  cases w2;cases w1 with
  | list ho hall=>exact⟨_,_,ns,rfl,rfl,ho,Bh ns _ hall,hlen⟩
theorem X6(l:OpenLaw)(args:List WData):l.row.toRowW.claim.post args (.bool true) args=true :=
 postW_of (r:=l.row.toRowW) (X:=(true==true))
  (show WShape.has [] (.bool true) .bool=true by first | rfl | decide | simp[WShape.has,WShape.arms,WShape.armsAll])
  (show (WTm.eq .res (.lit (.bool true))).value [] { args:=args,res:=some (.bool true),after:=args }=some (.bool (true==true)) from w_eq_bool (w_res rfl) w_lit) rfl
theorem O0{l:OpenLaw}{n:Nat}{q:Program}{loose:ZD}{XP:(ZV)->Heap->Prop}{YP:World->Heap->Prop}{d:DefRec}
  (hn:l.most=some n) (hdf:d.params.defaults=[])
  (call:∀(w:World) (s₀ s₁:Shared) (mg mb:ZV) (fa:Addr) (o:Obj) (pm cd doc:Value) (a:Addr) (vs:ZM) (ns:ZL),
   Ground q loose [] XP w s₀ mg mb s₁.heap->YP w s₁.heap ->
   s₁.heap.get? fa=some o->o.data=.func (docDef d.name d.params d.body d.scope pm cd doc)->s₁.heap.CodeRec cd d.name->mg d.name=some (.ref fa) ->
   s₁.heap.get? a=some { cls:=.type "list",data:=.seq vs.toArray }->IntsAre vs ns->ns.length<=n->s₁.gens=#[] ->
   codeAny (model l.prog w) callerA (.call (.ref fa) ⟨[.ref a],[]⟩) (λr s'=>r=.ok (.ret (.bool true))/\OldK s₁.heap s'.heap/\s'.os=s₁.os/\AllBare s'.gens) s₁) :
  WalkO q loose XP YP l.row.toRowW d [] (λf vs=>PySem.call f vs):=by
 intro w s₀ s₁ mg mb G Y fa o pm cd doc dV kV ho hd L1 hD hmg hg args vals as Zzb hlay hrd hwl hlo;obtain rfl:dV=.none:=Dflts.none hD hdf;obtain rfl:kV=.none:=Dflts.noKw hD;obtain⟨a,vs,ns,rfl,rfl,hobj,hints,hlen⟩:=Xa hn Zzb hwl;refine enter_call (codeAny_mono (call w s₀ s₁ mg mb fa o pm cd doc a vs ns G Y ho (fd_plain hd) L1 hmg hobj hints hlen hg) λr s' hq=>?_);obtain⟨rfl,h2,h3,h4⟩:=hq;exact⟨.inl ⟨.bool true,.bool true,[],rfl,λ_=>rfl,.bool true,X6 l _,λ_=>⟨List.Pairwise.nil,λ_ hm=>(nomatch hm)⟩⟩,h2,h3,h4⟩
section
variable{prog:Program}{w:World}{A:Around}{E:ZW}{s:Shared}{K:Frag}
end
end Att
namespace L2
open PySem PySem.Spec PyProof.Rows
theorem Nd:∀{vs:ZM} {ns:ZL},IntsAre vs ns->Zf (ns.map V.int) vs
 | _,_,.nil=>.nil
 | _,_,.cons n t h=>.cons ⟨t,rfl⟩ (Nd h)
abbrev n4:qm:=λ_ _ _ _ _ _=>False
abbrev E0:XK:=λ_ _ _=>False
theorem pass0{X:Cx}:K0 n4 X E0:=λ_ _ _ _ _ _ _ h=>h.elim
structure Fun(K:W.Frag)(x qual:Str)(st:Stmt)(f:Addr)(fd:FuncData):Prop where
 ex:∃(oc:Value) (od:ZP) (kV doc pm:Value) (an:ZP) (cdv ct:Value) (osl:ZF),
  fd=W.fnOf x qual (Y5 st) (Z7 st) (Zw st) .none kV doc pm an cdv ct/\K.lookup f=some ⟨oc,od,.func fd,osl⟩/\W.codeIn K cdv qual=true
 kp:W.keepIn K (.ref f)=true
section
variable{P:Program}{w:World}{K:W.Frag}{mg:ZV}{base:Heap}
theorem Fun.ok{x qual:Str}{st:Stmt}{f:Addr}{fd:FuncData}{N ps:ZD}{k:Nat}{sp:Sp}(F:Fun K x qual st f fd)(S:Jt N ps (Zw st))(len:∀vs H Q E,sp vs H Q E->vs.length=ps.length)
  (P4:∀(cdv:Value) (A:Around) (outer:List Env) (s:Shared) (H:Hp) (vs:ZQ) (Q:VK) (E:XK),Uc k (A.deeper (envOfC qual (Zw st) s.heap.objs.size f cdv))->sp vs H Q E ->
   ∃t,Rw (Ov n4 P w K mg base N qual (Zw st) f cdv A outer s H E).nox (Z7 st) t/\t { nx:=λ_ H'=>Q .non H',rt:=Q } (start N vs) H):Dq P w K mg base n4 (k+1) f fd ps sp:=by
 obtain⟨oc,od,kV,doc,pm,an,cdv,ct,osl,rfl,lk,L1⟩:=F.ex;refine Zqv lk L1 S len λA outer s H vs Q E hr hsp=>?_;obtain⟨t,h,q⟩:=P4 cdv A outer s H vs Q E hr hsp;exact⟨t,h.nox,q⟩
theorem Fun.binds{x qual:Str}{st:Stmt}{f:Addr}{fd:FuncData}{ps:ZD}(F:Fun K x qual st f fd)
  (h:∀(kV doc pm:Value) (an:ZP) (cdv ct:Value) (us:ZM),us.length=ps.length->bindArgs (W.fnOf x qual (Y5 st) (Z7 st) (Zw st) .none kV doc pm an cdv ct) ⟨us,[]⟩=pure (ps.zip us)):Binds K fd ps []:=by
 obtain⟨oc,od,kV,doc,pm,an,cdv,ct,osl,rfl,lk,L1⟩:=F.ex;exact .all (h kV doc pm an cdv ct)
theorem Zh{x qual:Str}{st:Stmt}{f:Addr}{oc:Value}{od an:ZP}{osl:ZF}{kV doc pm cdv ct:Value}(l:K.lookup f=some ⟨oc,od,.func (W.fnOf x qual (Y5 st) (Z7 st) (Zw st) .none kV doc pm an cdv ct),osl⟩)
  (c:W.codeIn K cdv qual=true) (k:W.keepIn K (.ref f)=true):Fun K x qual st f (W.fnOf x qual (Y5 st) (Z7 st) (Zw st) .none kV doc pm an cdv ct):=⟨⟨oc,od,kV,doc,pm,an,cdv,ct,osl,rfl,l,c⟩,k⟩
end
section
variable{X:Cx}
theorem pv(i:Nat){x:Str}{pos:Pos}(hN:X.N[i]?=some x:=by rfl)(hv:Vis X.env.scope x:=by first | exact Or.inl rfl | exact Or.inr (Or.inl rfl) | exact Or.inr (Or.inr rfl))(hd:(x==("__debug__" : Str))=false:=by decide)
  (L1:(x==("__classdict__" : Str))=false:=by decide):PE X (.Name x pos) (tVar i):=k6 hN hv hd L1
end
theorem iteF{A B:Prop}(h:B):if false=true then A else B:=by
 rw[if_neg D5];exact h
theorem Zzx{A B:Prop}(h:A):if true=true then A else B:=by
 rw[if_pos rfl];exact h
def Zn(H H':Hp):Prop:=∀b o,H b=some o->H' b=some o
theorem Zn.refl(H:Hp):Zn H H:=λ_ _ h=>h
theorem Zn.trans{H H1 H2:Hp}(a:Zn H H1)(b:Zn H1 H2):Zn H H2:=λc o h=>b c o (a c o h)
theorem Zn.free{H H':Hp}(e:Zn H H'){l:Addr}(h:H' l=Option.none):H l=Option.none:=by
 cases q:H l with
 | none=>rfl
 | some o =>
  rw[e l o q]at h;cases h
section
variable{X:Cx}{XM:ZY}{Z:St}{H:Hp}{s:Shared}
end
theorem rcEq_V{A:Around}{s:Shared}{y x:V}{u v:Value}(ry:RelV y u)(rx:RelV x v)(fy:Gj y=true)(fx:Gj x=true):SeqAt.RcAt A s u v ((l7 y x)):=by
 cases y with
 | non =>
  cases ry;cases x with
  | non=>cases rx;exact SeqAt.RcAt.none_none
  | bl b=>cases rx;exact SeqAt.RcAt.none_bool b
  | int b=>obtain⟨t,rfl⟩:=rx;exact SeqAt.RcAt.none_int b t
  | str b=>obtain⟨t,rfl⟩:=rx;exact SeqAt.RcAt.none_str b t
  | _=>exact absurd (show false=true from fx) D5
 | bl a =>
  cases ry;cases x with
  | non=>cases rx;exact SeqAt.RcAt.bool_none a
  | bl b=>cases rx;exact SeqAt.RcAt.bool_bool a b
  | int b=>obtain⟨t,rfl⟩:=rx;exact SeqAt.RcAt.bool_int a b t
  | str b=>obtain⟨t,rfl⟩:=rx;exact SeqAt.RcAt.bool_str a b t
  | _=>exact absurd (show false=true from fx) D5
 | int a =>
  obtain⟨t',rfl⟩:=ry;cases x with
  | non=>cases rx;exact SeqAt.RcAt.int_none a t'
  | bl b=>cases rx;exact SeqAt.RcAt.int_bool a t' b
  | int b=>obtain⟨t,rfl⟩:=rx;exact SeqAt.RcAt.int_int a t' b t
  | str b=>obtain⟨t,rfl⟩:=rx;exact SeqAt.RcAt.int_str a t' b t
  | _=>exact absurd (show false=true from fx) D5
 | str a =>
  obtain⟨t',rfl⟩:=ry;cases x with
  | non=>cases rx;exact SeqAt.RcAt.str_none a t'
  | bl b=>cases rx;exact SeqAt.RcAt.str_bool a t' b
  | int b=>obtain⟨t,rfl⟩:=rx;exact SeqAt.RcAt.str_int a t' b t
  | str b=>obtain⟨t,rfl⟩:=rx;exact SeqAt.RcAt.str_str a t' b t
  | _=>exact absurd (show false=true from fx) D5
 | _=>exact absurd (show false=true from fy) D5
theorem rcNe_V{A:Around}{s:Shared}{y x:V}{u v:Value}(ry:RelV y u)(rx:RelV x v)(fy:Gj y=true)(fx:Gj x=true):SeqAt.RcNeAt A s u v (!(l7 y x)):=by
 cases y with
 | non =>
  cases ry;cases x with
  | non=>cases rx;exact SeqAt.RcNeAt.none_none
  | bl b=>cases rx;exact SeqAt.RcNeAt.none_bool b
  | int b=>obtain⟨t,rfl⟩:=rx;exact SeqAt.RcNeAt.none_int b t
  | str b=>obtain⟨t,rfl⟩:=rx;exact SeqAt.RcNeAt.none_str b t
  | _=>exact absurd (show false=true from fx) D5
 | bl a =>
  cases ry;cases x with
  | non=>cases rx;exact SeqAt.RcNeAt.bool_none a
  | bl b=>cases rx;exact SeqAt.RcNeAt.bool_bool a b
  | int b=>obtain⟨t,rfl⟩:=rx;exact SeqAt.RcNeAt.bool_int a b t
  | str b=>obtain⟨t,rfl⟩:=rx;exact SeqAt.RcNeAt.bool_str a b t
  | _=>exact absurd (show false=true from fx) D5
 | int a =>
  obtain⟨t',rfl⟩:=ry;cases x with
  | non=>cases rx;exact SeqAt.RcNeAt.int_none a t'
  | bl b=>cases rx;exact SeqAt.RcNeAt.int_bool a t' b
  | int b=>obtain⟨t,rfl⟩:=rx;exact SeqAt.RcNeAt.int_int a t' b t
  | str b=>obtain⟨t,rfl⟩:=rx;exact SeqAt.RcNeAt.int_str a t' b t
  | _=>exact absurd (show false=true from fx) D5
 | str a =>
  obtain⟨t',rfl⟩:=ry;cases x with
  | non=>cases rx;exact SeqAt.RcNeAt.str_none a t'
  | bl b=>cases rx;exact SeqAt.RcNeAt.str_bool a t' b
  | int b=>obtain⟨t,rfl⟩:=rx;exact SeqAt.RcNeAt.str_int a t' b t
  | str b=>obtain⟨t,rfl⟩:=rx;exact SeqAt.RcNeAt.str_str a t' b t
  | _=>exact absurd (show false=true from fx) D5
 | _=>exact absurd (show false=true from fy) D5
section
variable{X:Cx}
end
abbrev lz:ZW:=λ_ _=>False
def Hk(ifs:ZC)(env:Env):Sem Bool :=
 forIn ifs true λc r=>if r=true then (isTrue c env (eval c env) >>= λb=>pure (ForInStep.yield b)) else pure (ForInStep.yield r)
section
variable(prog:Program)(w:World)(A:Around)(tg elt:Expr)(ifs:ZC)(env:Env)(it acc:Value)
def TurnEnd(nxt:Shared->Prop)(ok:Bool)(s:Shared):Prop :=
 if ok=true then wpAny (model prog w) A (eval elt env) (λy s1=>wpAny (model prog w) A (call (.builtin "list.append") [acc,y]) (λ_ s2=>nxt s2) lz s1) lz s else nxt s
def c7(nxt:Shared->Prop)(v:Value)(s:Shared):Prop :=
 wpAny (model prog w) A (letOwnedTupleGo tg it v) (λ_ s1=>wpAny (model prog w) A (assign tg env v) (λ_ s2=>wpAny (model prog w) A (Hk ifs env) (TurnEnd prog w A elt env acc nxt) lz s2) lz s1) lz s
end
theorem Fy{prog:Program}{w:World}{A:Around}{R:Result->Shared->Prop}{s:Shared}{elt tg iter:Expr}{ifs:ZC}{scope:Scope}{pos:Pos}{it acc:Value}{env:Env}(W:Nat->Shared->Prop)
  (turn:∀m s1,W m s1->wpAny (model prog w) A (pyNext it) (λr s2=>r.elim (R (.ok .next) s2) λv=>c7 prog w A tg elt ifs env it acc (λs3=>∃m',m'<m/\W m' s3) v s2) lz s1)
  (m:Nat) (start:W m s):codeAny (model prog w) A (.compLoop (.ListComp elt [⟨tg,iter,ifs,0⟩] scope pos) 0 it acc env) R s:=by
 refine codeAny_loop rfl W (λk s1 hw=>?_) m start;refine wpAny_noted (env:=env) (m:=compTurn (.ListComp elt [⟨tg,iter,ifs,0⟩] scope pos) 0 it acc env) ?_;rw[compTurn_list];refine Zj (wpAny_standAt (Zj (wpAny_mono (turn k s1 hw) (λr s2 q=>?_) λ_ _ z=>z.elim)));cases r with
 | none=>exact Zr q
 | some v =>
  have q:c7 prog w A tg elt ifs env it acc (λs3=>∃m',m'<k/\W m' s3) v s2:=q;refine Zj (wpAny_mono q (λ_ s3 q3=>Zj (wpAny_mono q3 (λ_ s4 q4=>Zj (wpAny_mono q4 (λok s5 q5=>?_) λ_ _ z=>z.elim)) λ_ _ z=>z.elim)) λ_ _ z=>z.elim);cases ok with
  | false=>exact Zr ⟨rfl,q5⟩
  | true=>exact Zj (Zj (wpAny_mono q5 (λy s6 q6=>Zj (wpAny_mono q6 (λ_ s7 q7=>Zr (Zr ⟨rfl,q7⟩)) λ_ _ z=>z.elim)) λ_ _ z=>z.elim))
noncomputable def Yd(env:Env):ZK->List (Str×Addr)->List (Str×Addr)
 | [],cs=>cs
 | (n,k)::r,cs=>Yd env r (if k==.free then (n,(env.cells.lookup n).getD 0)::cs else cs)
noncomputable def Z3(X:Cx)(scope:Scope)(N:ZD)(fp:ZU)(s:Shared)(H:Hp):Cx :=
 { X with N:=N,s₀:=s,H₀:=H,env:=compEnvC scope (Yd X.env scope.names []) s.heap.objs.size X.env,outer:=X.stack,stack:=X.stack,ex:=fp,fn:=λ_=>false,pn:=[],xe:=lz }
structure K7(X:Cx)(scope:Scope)(N:ZD)(fr:ZG):Prop where
 clos:closureFor scope X.env=pure (Yd X.env scope.names [])
 kind:scope.kind=.function
 nocell:∀y∈scope.names,y.2≠.cell
 names:∀y∈scope.names,y.2=.local->scope.names.lookup y.1=some .local
 cells:∀x c,(Yd X.env scope.names []).lookup x=some c->X.env.cells.lookup x=some c
 has:∀x,((relabel scope X.env).names.lookup x=some .cell\/(relabel scope X.env).names.lookup x=some .free)->∃c,(Yd X.env scope.names []).lookup x=some c
 len:fr.length=N.length
 fr:∀(i j:Nat),fr[i]?=some (some j)->∃x,N[i]?=some x/\X.N[j]?=some x/\Vis X.env.scope x/\¬ X.env.kindOf x=some .local/\((relabel scope X.env).names.lookup x=some .cell\/(relabel scope X.env).names.lookup x=some .free)
noncomputable def frees(fr:ZG)(Z:St):St:=fr.map λo=>o.bind λi=>(Z[i]?).bind id
theorem Jv(fr:ZG)(Z:St):(frees fr Z).length=fr.length:=Yc _
theorem xk{fr:ZG}{Z:St}{i:Nat}{v:V}(h:(frees fr Z)[i]?=some (some v)):∃j,fr[i]?=some (some j)/\Z[j]?=some (some v):=by
 unfold frees at h;rw[Qv]at h;cases e:fr[i]? with
 | none=>rw[e]at h;cases h
 | some o =>
  rw[e]at h;cases o with
  | none=>cases h
  | some j =>
   refine⟨j,rfl,?_⟩;have h':(Z[j]?).bind id=some v:=Je h;cases e2:Z[j]? with
   | none=>rw[e2]at h';cases h'
   | some o2=>rw[e2]at h';exact congrArg some h'
theorem Bq{scope:Scope}{env:Env}{x:Str}{k:NameKind}(h:(relabel scope env).names.lookup x=some k):∃k0,(x,k0)∈scope.names/\(k=k0\/(k0=.free/\k=.cell)):=by
 have hm:=PySem.mem_of_lookup h;obtain⟨⟨n,k0⟩,h1,h2⟩:=Ry.mp (show (x,k)∈scope.names.map _ from hm);dsimp only at h2
 split at h2
 .rename_i hc
  cases h2;simp only[Y8,beq_iff_eq]at hc;exact⟨k0,h1,.inr ⟨hc.1.1,rfl⟩⟩
 .cases h2;exact⟨k,h1,.inl rfl⟩
noncomputable def Ec(outer scope:Scope):Bool :=
 decide (scope.kind=.function)&&scope.names.all λy=>decide (y.2≠.cell)&&(decide (y.2≠.local) || decide (scope.names.lookup y.1=some .local)) &&
  (decide (y.2≠.free) || decide (outer.names.lookup y.1=some .cell) || decide (outer.names.lookup y.1=some .free))
noncomputable def Jy(NX:ZD)(names:ZK):ZD->ZG->Bool
 | [],[]=>true
 | _::N,none::fr=>Jy NX names N fr
 | x::N,some j::fr=>decide (NX[j]?=some x)&&decide (names.lookup x=some .free)&&Jy NX names N fr
 | _,_=>false
theorem M8{NX:ZD}{names:ZK}:∀{N:ZD} {fr:ZG},Jy NX names N fr=true->fr.length=N.length
 | [],[],_=>rfl
 | [],_::_,h=>by simp[Jy]at h
 | _::_,[],h=>by simp[Jy]at h
 | x::N,none::fr,h=>by
  simp only[Jy]at h;simp only[B9,M8 h]
 | x::N,some j::fr,h=>by
  simp only[Jy,Y8]at h;simp only[B9,M8 h.2]
theorem U1{NX:ZD}{names:ZK}:∀{N:ZD} {fr:ZG} {i j:Nat},Jy NX names N fr=true->fr[i]?=some (some j)->∃x,N[i]?=some x/\NX[j]?=some x/\names.lookup x=some .free
 | [],[],_,_,_,e=>by simp at e
 | [],_::_,_,_,h,_=>by simp[Jy]at h
 | _::_,[],_,_,h,_=>by simp[Jy]at h
 | x::N,none::fr,0,_,_,e=>by simp at e
 | x::N,none::fr,i+1,j,h,e=>by
  simp only[Jy]at h;obtain⟨y,h1,h2⟩:=U1 (i:=i) h (by simpa using e);exact⟨y,by simpa using h1,h2⟩
 | x::N,some k::fr,0,j,h,e=>by
  simp only[Jy,Y8,decide_eq_true_eq]at h;simp at e;subst e;exact⟨x,rfl,h.1.1,h.1.2⟩
 | x::N,some k::fr,i+1,j,h,e=>by
  simp only[Jy,Y8]at h;obtain⟨y,h1,h2⟩:=U1 (i:=i) h.2 (by simpa using e);exact⟨y,by simpa using h1,h2⟩
theorem Vm{f:Str->NameKind->NameKind}(x:Str):∀names:ZK,(names.map λp=>(p.1,f p.1 p.2)).lookup x=(names.lookup x).map (f x)
 | []=>rfl
 | (n,k)::r=>by
  have ih:=Vm (f:=f) x r;cases e:x==n with
  | false =>
   simp only[D2,List.lookup_cons,e];exact ih
  | true =>
   have e':x=n:=by simpa using e
   simp only[D2,List.lookup_cons,e,Option.map_some];rw[e']
theorem Dw(scope:Scope)(env:Env):(relabel scope env).names=scope.names.map λp=>(p.1,if (p.2==NameKind.free&&env.scope.kind==.function&&env.kindOf p.1==some .cell)=true then NameKind.cell else p.2):=by
 show scope.names.map _=_;refine List.map_congr_left λp _=>?_;obtain⟨n,k⟩:=p;dsimp only
 split<;>rfl
theorem G3{scope:Scope}{env:Env}{x:Str}(h:scope.names.lookup x=some .free):(relabel scope env).names.lookup x=some .cell\/(relabel scope env).names.lookup x=some .free:=by
 rw[Dw,Vm (f:=λn k=>if (k==NameKind.free&&env.scope.kind==.function&&env.kindOf n==some .cell)=true then NameKind.cell else k),h];dsimp only[Option.map_some]
 split
 .exact .inl rfl
 .exact .inr rfl
theorem Cr{env:Env}:∀{names:ZK} {cs:List (Str×Addr)},(∀y∈names,y.2=.free->∃c,env.cells.lookup y.1=some c)->(∀p∈cs,env.cells.lookup p.1=some p.2)->∀p∈Yd env names cs,env.cells.lookup p.1=some p.2
 | [],cs,_,hc,p,hp=>hc p hp
 | (n,k)::r,cs,hn,hc,p,hp=>by
  simp only[Yd]at hp;refine Cr (λy hy=>hn y (Y3 _ hy)) (λq hq=>?_) p hp
  split at hq
  .rename_i hk
   rcases Yf.mp hq with e | hq
   .obtain⟨c,la⟩:=hn (n,k) Yu (by simpa using hk);subst e;dsimp only at la ⊢;rw[la]
    rfl
   .exact hc q hq
  .exact hc q hq
theorem Ct{env:Env}:∀{names:ZK} {cs:List (Str×Addr)} {p:Str×Addr},p∈cs->p∈Yd env names cs
 | [],_,_,h=>h
 | (n,k)::r,cs,p,h=>by
  simp only[Yd];refine Ct ?_
  split
  .exact Y3 _ h
  .exact h
theorem Cp{env:Env}:∀{names:ZK} {cs:List (Str×Addr)} {x:Str},(x,NameKind.free)∈names->∃c,(x,c)∈Yd env names cs
 | (n,k)::r,cs,x,h=>by
  rcases Yf.mp h with e | h
  .cases e;exact⟨_,by simp only[Yd,beq_self_eq_true,if_true];exact Ct Yu⟩
  .simp only[Yd];exact Cp h
theorem Dy{Z:Type}:∀{l:List (Str×Z)} {x:Str} {b:Z},(x,b)∈l->∃c,l.lookup x=some c
 | (n,c)::r,x,b,h=>by
  cases hx:x==n with
  | true=>exact⟨c,by simp only[List.lookup_cons,hx]⟩
  | false =>
   rcases Yf.mp h with e | h
   .cases e;simp at hx
   .obtain⟨d,hd⟩:=Dy h;exact⟨d,by simp only[List.lookup_cons,hx];exact hd⟩
theorem Ru{scope:Scope}{env:Env}(h:∀y∈scope.names,y.2=.free->∃c,env.cells.lookup y.1=some c):closureFor scope env=pure (Yd env scope.names []):=by
 have go:∀(names:ZK) (cs:List (Str×Addr)),(∀y∈names,y.2=.free->∃c,env.cells.lookup y.1=some c) ->
   (forIn names cs λx cs=>(do
    if x.2==NameKind.free then pure (ForInStep.yield ((x.1, <-cellOf env x.1)::cs)) else pure (ForInStep.yield cs):Sem (ForInStep (List (Str×Addr)))))=pure (Yd env names cs):=by
  intro names
  induction names with
  | nil=>intro cs _;rfl
  | cons y r ih =>
   intro cs hn;obtain⟨n,k⟩:=y;have hr:∀y∈r,y.2=.free->∃c,env.cells.lookup y.1=some c:=λy hy=>hn y (Y3 _ hy);rw[List.forIn_cons];by_cases hk:k=.free
   .subst hk;obtain⟨c,hc⟩:=hn (n,.free) Yu rfl
    have ec:cellOf env n=pure c:=by
     unfold cellOf;dsimp only at hc;rw[hc]
    simp only[beq_self_eq_true,if_true,ec,pure_bind,Yd];rw[ih _ hr];dsimp only at hc;rw[hc]
    rfl
   .have hb:(k==NameKind.free)=false:=by simpa using hk
    simp only[hb,B0f,if_false,pure_bind,Yd];exact ih _ hr
 have:=go scope.names [] h;unfold closureFor;simp only[bind_pure_comp]at this ⊢
 first
  | exact this
  | (simpa using this)
structure F8(X:Cx)(NX:ZD)(outer scope:Scope)(N:ZD)(fr:ZG):Prop where
 nx:X.N=NX
 sc:X.env.scope.names=outer.names
 ok1:Ec outer scope=true
 ok2:Jy NX scope.names N fr=true
theorem F8.ok{X:Cx}{NX:ZD}{outer scope:Scope}{N:ZD}{fr:ZG}(C:F8 X NX outer scope N fr)(ok:X.Ok):K7 X scope N fr:=by
 have h1:=C.ok1;unfold Ec at h1;simp only[Y8,decide_eq_true_eq,K8,Bool.or_eq_true]at h1;obtain⟨hk,hn⟩:=h1
 have kof:∀x,X.env.kindOf x=outer.names.lookup x:=λx=>by
  show X.env.scope.names.lookup x=_;rw[C.sc]
 have Pe:∀y∈scope.names,y.2=.free->X.env.kindOf y.1=some .cell\/X.env.kindOf y.1=some .free:=λy hy e=>by
  rcases(hn y hy).2 with (z | z) | z
  .exact absurd e z
  .exact .inl ((kof _).trans z)
  .exact .inr ((kof _).trans z)
 have P2:∀y∈scope.names,y.2=.free->∃c,X.env.cells.lookup y.1=some c:=λy hy e=>ok.has y.1 (Pe y hy e);refine⟨Ru P2,hk,λy hy=>(hn y hy).1.1,λy hy e=>?_,λx c e=>?_,λx h=>?_,M8 C.ok2,λi j e=>?_⟩
 .rcases(hn y hy).1.2 with z | z
  .exact absurd e z
  .exact z
 .exact Cr P2 (λp hp=>by cases hp) (x,c) (PySem.mem_of_lookup e)
 .have hm:(x,NameKind.free)∈scope.names:=by
   rcases h with h | h
   .obtain⟨k0,h1,h2⟩:=Bq h;rcases h2 with h2 | ⟨h2,_⟩
    .exact absurd h2.symm (hn _ h1).1.1
    .subst h2;exact h1
   .obtain⟨k0,h1,h2⟩:=Bq h;rcases h2 with h2 | ⟨_,h2⟩
    .subst h2;exact h1
    .cases h2
  obtain⟨c,hc⟩:=Cp (env:=X.env) (cs:=[]) hm;exact Dy hc
 .obtain⟨x,q1,q2,q3⟩:=U1 C.ok2 e;have hm:=PySem.mem_of_lookup q3;have hf:=Pe (x,.free) hm rfl;refine⟨x,q1,by rw[C.nx];exact q2,?_,?_,G3 q3⟩
  .exact .inr hf
  .intro z;dsimp only at hf;rw[z]at hf;rcases hf with hf | hf<;>cases hf
section
variable{X:Cx}{scope:Scope}{N:ZD}{fr:ZG}{XM:ZY}{Z:St}{H:Hp}{s:Shared}{fp:ZU}
theorem me(C:K7 X scope N fr)(I:Inv X XM Z H s)(hf:∀b∈fp,Nk X XM H b)(hob:∀b∈fp,∃o,s.heap.get? b=some o){h1:Heap}{tk:Nat}
  (lg:h1.Ns s.heap.objs.size λ_=>none) (hk:∀b o,s.heap.get? b=some o->h1.get? b=some o) :
  Inv (Z3 X scope N fp s H) [] (frees fr Z) H { s with heap:=h1,toks:=tk }:=by
 have lt:∀b∈fp,b<s.heap.objs.size:=λb hb=>let ⟨_,e⟩:=hob b hb;Ye e;have cellK:∀x c,(Yd X.env scope.names []).lookup x=some c->∃v,s.heap.IsCell c v:=λx c e=>I.cell x c (C.cells x c e);have ck:∀c v,s.heap.IsCell c v->h1.IsCell c v:=λc v ⟨o,e,d⟩=>⟨o,hk c o e,d⟩
 refine⟨⟨I.ok.mod,C.kind,I.ok.glob,I.ok.blt,Yk _,λx y c e1 e2=>I.ok.inj x y c (C.cells x c e1) (C.cells y c e2),λx h=>C.has x h,λx c h _=>absurd h D5,I.ok.hd,I.ok.frames,.inl rfl,
   λb hb=>⟨Dz (lt b hb),λx c e=>(hf b hb).2.2.2.2.1 x c (C.cells x c e)⟩,I.bs,D0 I.ok.bsz I.sz,λb o e hb=>?_,λb hb hb'=>?_,I.stack,I.stkFree⟩,
  rfl,I.bare,Un.kept hk,⟨_,lg,λi x v e1 e2 e3=>?_⟩,λx c e=>?_,I.hok.fresh (Yk _),λx c e=>I.freeC x c (C.cells x c e),λp hp=>absurd (show p∈([]:ZY) from hp) XI,I.hok.kept hk,?_⟩
 .rcases(hf b hb).2.2.2.1 with z | z
  .exact I.ok.noex b o e z
  .exact absurd (Rv (Ye (I.ok.bs b o e).1) z) (Nat.lt_irrefl _)
 .rcases Yf.mp (I.stkSub b hb') with z | z
  .exact(hf b hb).2.1 z
  .exact(hf b hb).2.2.1 z
 .obtain⟨j,q1,q2⟩:=xk e2;obtain⟨x',n1,n2,vis,nl,k⟩:=C.fr i j q1;have ex:x=x':=Je (e1.symm.trans n1);subst ex;obtain⟨m,hm,hl⟩:=I.loc;obtain⟨u,r,l⟩:=hl j x v n2 q2 vis;refine⟨u,r,?_⟩;rcases l with ⟨l1,_⟩ | ⟨_,c,l2,l3⟩
  .exact absurd l1 nl
  .obtain⟨c',la⟩:=C.has x k;have ec:=C.cells x c' la;rw[l2]at ec;have ec':c=c':=Je ec;subst ec';exact .inr ⟨k,c,la,ck c _ l3⟩
 .obtain⟨v,z⟩:=cellK x c e;exact⟨v,ck c v z⟩
 .show (frees fr Z).length=N.length;rw[Jv,C.len]
theorem E9(I:Inv X XM Z H s)(hf:∀b∈fp,Nk X XM H b){σ':St}{H':Hp}{s':Shared}(J:Inv (Z3 X scope N fp s H) [] σ' H' s'):Inv X XM Z H' s' :=
 I.call' (ch:=fp) J.os J.base J.hok J.bare λb hb=>⟨(hf b hb).2.2.2.1,(hf b hb).2.1,(hf b hb).2.2.2.2.1,(hf b hb).2.2.2.2.2⟩
end
def PTs(X:Cx)(ifs:ZC)(t:TT):Prop :=
 ∀(XM:ZY) (s:Shared) (Z:St) (H:Hp) (Q:Bool->Hp->Prop),Inv X XM Z H s->t Z H Q ->
  wpAny (model X.prog X.w) X.A (Hk ifs X.env) (TP X XM Z Q) X.xe s
def Hm:TT:=λ_ H Q=>Q true H
theorem Ad{X:Cx}:PTs X [] Hm:=λ_ _ _ H _ I h=>wpAny_tests_nil ⟨H,I,h⟩
theorem Am{X:Cx}{c:Expr}{t:TT}(h:PT X c t):PTs X [c] t:=λXM s Z H Q I hw=>wpAny_tests_one (h XM s Z H Q I hw)
def Zq2(J:It)(g:TG)(tt:TT)(te:TE)(D:Addr)(W:Nat->Nat->ZQ->St->Hp->Prop)(fin:Hp->Prop):Prop :=
 ∀i m ys Z H,W i m ys Z H->H D=some (.lst ys)/\((J.stop i H/\fin H)\/(J.go i H/\∃N:ZQ->St->Hp->Prop,(∀ys' σ' H',N ys' σ' H'->∃m',m'<m/\W (i+1) m' ys' σ' H') /\
  ∀x H',J.yld i H x H'->g x Z H' λσ2 H2=>tt σ2 H2 λok H3 =>
   if ok=true then te σ2 H3 λy H4=>H4 D=some (.lst ys)/\ys.length<sizeLine/\N (ys++[y]) σ2 (upd H4 D (.lst (ys++[y]))) else N ys σ2 H3))
abbrev DG:=ZU->Shared->Hp->TG
abbrev DT:=ZU->Shared->Hp->TT
abbrev DE:=ZU->Shared->Hp->TE
def vz(wi:TI)(fr:ZG)(g:DG)(tt:DT)(te:DE):TE:=λZ H Q=>wi Z H λJ H1=>∀D fp sx,H1 D=none ->
 ∃W:Nat->Nat->ZQ->St->Hp->Prop,(∃m,W 0 m [] (frees fr Z) (upd H1 D (.lst [])))/\Zq2 J (g fp sx (upd H1 D (.lst []))) (tt fp sx (upd H1 D (.lst []))) (te fp sx (upd H1 D (.lst []))) D W (λH=>Q (.ref D) H)
section
variable{X:Cx}{scope:Scope}{N:ZD}{fr:ZG}{tg elt iter:Expr}{ifs:ZC}{pos:Pos}{wi:TI}{g:DG}{tt:DT}{te:DE}
theorem Og{XM:ZY}{Z:St}{s2:Shared}{it:Addr}{fp:ZU}{tn:Nat->Heap->Prop}{J:It}{H2:Hp}{RR:Value->Addr->Result->Shared->Prop}{E:ZW}
  (hc:X.calm=true) (C:K7 X scope N fr)
  (hg:∀fp s H,PG (Z3 X scope N fp s H) tg (g fp s H)) (ht:∀fp s H,PTs (Z3 X scope N fp s H) ifs (tt fp s H)) (he:∀fp s H,PE (Z3 X scope N fp s H) elt (te fp s H))
  (I2:Inv X XM Z H2 s2) (T:Turn X.prog X.w X.K tg J fp it tn) (st2:tn 0 s2.heap) (f2:∀b∈fp,Nk X XM H2 b) {fin:Addr->Hp->Prop}
  (hW:∀D fp sx,H2 D=none->∃W:Nat->Nat->ZQ->St->Hp->Prop,(∃m,W 0 m [] (frees fr Z) (upd H2 D (.lst [])))/\Zq2 J (g fp sx (upd H2 D (.lst []))) (tt fp sx (upd H2 D (.lst []))) (te fp sx (upd H2 D (.lst []))) D W (fin D))
  (dj:∀D Cc s' σ' H' m,Inv X XM Z H' s'->H' Cc=none->Cc≠X.env.locals->Cc∉X.fs->X.s₀.heap.objs.size<=Cc->(∀x c,X.env.cells.lookup x=some c->c≠Cc)->(∀p∈X.pn++XM,p.1≠Cc)->s'.heap.Ns Cc m->fin D H' ->
   RR (.ref D) Cc (.ok σ') s') :
  wpAny (model X.prog X.w) X.A (newList []) (λacc s₃=>wpAny (model X.prog X.w) X.A (newFunctionEnv scope X.env.globals (Yd X.env scope.names []) [] X.env.qual none .none (some X.env)) (λcenv s₄ =>
   codeAny (model X.prog X.w) X.A (.compStart (.ListComp elt [⟨tg,iter,ifs,0⟩] scope pos) 0 (.ref it) acc { cenv with scope:=relabel scope X.env }) (RR acc cenv.locals) s₄) E s₃) E s2:=by
 refine wpAny_newObj_type (wpAny_newFunctionEnv C.nocell (by intro y hy;simp at hy) (λh₁ hns₁ hsb₁=>?_) C.kind);dsimp only at hns₁ hsb₁ ⊢
 have I3:Inv X XM Z (upd H2 s2.heap.objs.size (.lst [])) { s2 with heap:=s2.heap.push { cls:=.type "list",dict:=none,data:=.seq ([]:ZM).toArray } } :=
  I2.laid (t':=s2.toks) (λb o e=>Yn _ e) (Yk _) ⟨B0 _,[],0,.nil,Ur _ rfl⟩
 have hD:H2 s2.heap.objs.size=none:=I2.hok.fresh (Yk _);obtain⟨W,⟨m0,w0⟩,turn⟩:=hW _ fp { s2 with heap:=s2.heap.push { cls:=.type "list",dict:=none,data:=.seq ([]:ZM).toArray } } hD;generalize hDD:s2.heap.objs.size=D at *;generalize hS3:({ s2 with heap:=s2.heap.push { cls:=.type "list",dict:=none,data:=.seq ([]:ZM).toArray } }:Shared)=S3 at *;have hS3h:s2.heap.push { cls:=.type "list",dict:=none,data:=.seq ([]:ZM).toArray }=S3.heap:=by rw[<-hS3]
 rw[hS3h]at hns₁ hsb₁ ⊢;have obj2:=T.obj 0 _ st2
 have nD:∀b∈fp,b≠D:=λb hb z=>by
  obtain⟨o,e,_⟩:=obj2 b hb;have q:=Ye e;rw[hDD,z]at q;exact absurd q (Nat.lt_irrefl _)
 have f3:∀b∈fp,Nk X XM (upd H2 D (.lst [])) b:=λb hb=>⟨by rw[Zz (nD b hb)];exact(f2 b hb).1,(f2 b hb).2⟩
 have ob3:∀b∈fp,∃o,S3.heap.get? b=some o:=λb hb=>by
  obtain⟨o,e,_⟩:=obj2 b hb;exact⟨o,by rw[<-hS3h];exact Yn _ e⟩
 have st3:tn 0 S3.heap:=T.keep _ _ _ st2 λb hb o e=>by rw[<-hS3h];exact Yn _ e
 have hk1:∀b o,S3.heap.get? b=some o->h₁.get? b=some o:=λb o e=>hsb₁.extBut b o (Dz (Ye e)) (Yn _ e);have J1:Inv (Z3 X scope N fp S3 (upd H2 D (.lst []))) [] (frees fr Z) (upd H2 D (.lst [])) { S3 with heap:=h₁,toks:=s2.toks+([]:List (Str×Value)).length }:=me C I3 f3 ob3 hns₁ hk1;have st4:tn 0 h₁:=T.keep _ _ _ st3 λb hb o e=>hk1 b o e;have es:({ s2 with heap:=h₁,toks:=s2.toks+([]:List (Str×Value)).length }:Shared)={ S3 with heap:=h₁,toks:=s2.toks+([]:List (Str×Value)).length }:=by rw[<-hS3]
 have FpC:∀{H':Hp},(∀b∈fp,H' b=none)->∀b∈fp,Nk (Z3 X scope N fp S3 (upd H2 D (.lst []))) [] H' b:=λhn b hb =>
  ⟨hn b hb,(J1.ok.exf b hb).1,J1.ok.exfs b hb,.inl hb,(J1.ok.exf b hb).2,λp hp=>absurd (show p∈([]:ZY) from hp) XI⟩
 have loop:codeAny (model X.prog X.w) X.A (.compLoop (.ListComp elt [⟨tg,iter,ifs,0⟩] scope pos) 0 (.ref it) (.ref D) (Z3 X scope N fp S3 (upd H2 D (.lst []))).env) (RR (.ref D) S3.heap.objs.size)
   { S3 with heap:=h₁,toks:=s2.toks+([]:List (Str×Value)).length }:=by
  refine Fy (λn s'=>∃i ys σ' H',Inv (Z3 X scope N fp S3 (upd H2 D (.lst []))) [] σ' H' s'/\tn i s'.heap/\(∀b∈fp,H' b=none)/\W i n ys σ' H') ?_ m0 ⟨0,[],_,_,J1,st4,λb hb=>(f3 b hb).1,w0⟩;rintro n s5 ⟨i,ys,σ5,H5,J5,st5,fr5,w5⟩;obtain⟨hDl,alt⟩:=turn i n ys σ5 H5 w5;rcases alt with ⟨stop,fi⟩ | ⟨go,NN,hNN,step⟩
  .refine Z5 (T.done (Z3 X scope N fp S3 (upd H2 D (.lst []))) rfl rfl rfl hc i [] s5 σ5 H5 lz J5 (FpC fr5) st5 stop) λr s6 ⟨hr,J6⟩=>?_;subst hr;show RR (.ref D) S3.heap.objs.size (.ok .next) s6;have I6:=E9 I3 f3 J6;obtain⟨mm,hmm,_⟩:=J6.loc;refine dj D _ s6 _ H5 mm I6 J6.free ?_ ?_ ?_ ?_ ?_ hmm fi
   .exact Nat.ne_of_gt I3.lt
   .exact I3.nofs (Yk _)
   .exact I3.sz
   .intro x c e z;obtain⟨v,q⟩:=I3.cell x c e;exact absurd q.lt (by rw[z];exact Nat.lt_irrefl _)
   .intro p hp z;exact absurd (Ye (I3.pin p hp).1) (by rw[z];exact Nat.lt_irrefl _)
  .refine Z5 (T.item (Z3 X scope N fp S3 (upd H2 D (.lst []))) rfl rfl rfl hc i [] s5 σ5 H5 lz J5 (FpC fr5) st5 go) λr s6 ⟨u,hr,h6⟩=>?_;subst hr;refine Z5 (Q:=_) h6 λ_ s7 ⟨x,H7,J7,r7,y7,st7,fr7⟩=>?_;have J7':=J7.pinned (FpC fr7) (T.obj _ _ st7)
   have back:∀{σ9:St} {H9:Hp} {s9:Shared},Inv (Z3 X scope N fp S3 (upd H2 D (.lst []))) ([]++Ts fp s7.heap) σ9 H9 s9->tn (i+1) s9.heap/\∀b∈fp,H9 b=none:=λ{σ9 H9 s9} J9 =>
    ⟨T.keep _ _ _ st7 λb hb o e=>(J9.pin (b,o) (nk _ (nk _ (Jq hb e)))).1,λb hb=>by
     obtain⟨o,e,d⟩:=T.obj _ _ st7 b hb;exact(J9.pin (b,o) (nk _ (nk _ (Jq hb e)))).2.1⟩
   refine Z5 (hg fp S3 _ _ s7 σ5 H7 x u _ J7' r7 (step x H7 y7)) λ_ s8 ⟨σ8,H8,J8,q8⟩=>?_;refine Z5 (ht fp S3 _ _ s8 σ8 H8 _ J8 q8) λok s9 ⟨H9,J9,q9⟩=>?_;cases ok with
   | false =>
    rw[if_neg D5]at q9;unfold TurnEnd;rw[if_neg D5];obtain⟨m',hm,w9⟩:=hNN _ _ _ q9;exact⟨m',hm,i+1,ys,σ8,H9,J9.unpinned,(back J9).1,(back J9).2,w9⟩
   | true =>
    rw[if_pos rfl]at q9;unfold TurnEnd;rw[if_pos rfl];refine Z5 (he fp S3 _ _ s9 σ8 H9 _ J9 q9) λyv s10 ⟨y,H10,J10,r10,hD10,hz,n10⟩=>?_;obtain⟨m',hm,w10⟩:=hNN _ _ _ n10;refine Z5 (Wy (X:=Z3 X scope N fp S3 (upd H2 D (.lst []))) _ s10 σ8 H10 (.ref D) [y] (.ref D) [yv] (λ_ H'=>H'=upd H10 D (.lst (ys++[y]))) J10 rfl (.cons r10 .nil) ⟨D,ys,y,rfl,rfl,hD10,hz,rfl⟩) λ_ s11 ⟨v11,H11,J11,_,e11⟩=>?_;subst e11;exact⟨m',hm,i+1,ys++[y],σ8,_,J11.unpinned,(back J11).1,(back J11).2,w10⟩
 rw[es];exact codeAny_compStart_list loop (T.self _ 0 _ _ _ st4 loop)
theorem ox{NX:ZD}{outer:Scope}(hc:X.calm=true)(hi:PI X tg iter wi)(C:F8 X NX outer scope N fr)
  (hg:∀fp s H,PG (Z3 X scope N fp s H) tg (g fp s H)) (ht:∀fp s H,PTs (Z3 X scope N fp s H) ifs (tt fp s H)) (he:∀fp s H,PE (Z3 X scope N fp s H) elt (te fp s H))
  (hs:∀x,foldedSetIterable iter X.env x=pure x:=by intro _;rfl):PE X (.ListComp elt [⟨tg,iter,ifs,0⟩] scope pos) (vz wi fr g tt te):=by
 intro XM s Z H Q I h;have C:=C.ok I.ok;rw[eval_ListComp];refine wpAny_comprehension_free (use:=none) rfl hs C.clos C.kind C.names (Z5 (hi XM s Z H _ I h) λv s1 h1=>Z5 h1 λitv s2 h2=>?_);obtain⟨it,fp,tn,J,H2,e,I2,T,st2,f2,hW⟩:=h2;subst e;refine Og (RR:=λacc Cc=>compPost (model X.prog X.w) X.A X.xe none (EP X XM Z Q) acc Cc) hc C hg ht he I2 T st2 f2 hW ?_;intro D Cc s' fl H' m I' f0 f1 f2' f3 f4 f5 lg fi;refine⟨m,lg,λh' sb=>?_⟩;exact⟨.ref D,H',I'.turned (t':=s'.toks) (λb o hb e=>(sb.2 b hb).trans e) f0 f1 (.inr f3) f4 f5,rfl,fi⟩
theorem Ep{NX:ZD}{outer:Scope}{i:Nat}{x:Str}{pos' Ui:Pos}(hN:X.N.Nodup)(hix:X.N[i]?=some x)(hx:Loc X.env.scope x)(hc:X.calm=true)(hi:PI X tg iter wi)(C:F8 X NX outer scope N fr)
  (hg:∀fp s H,PG (Z3 X scope N fp s H) tg (g fp s H)) (ht:∀fp s H,PTs (Z3 X scope N fp s H) ifs (tt fp s H)) (he:∀fp s H,PE (Z3 X scope N fp s H) elt (te fp s H))
  (hsw:swapsWith (.ListComp elt [⟨tg,iter,ifs,0⟩] scope pos) (some (.Name x pos')) Ui.line X.env=pure true:=by rfl)
  (hs:∀x,foldedSetIterable iter X.env x=pure x:=by intro _;rfl) (hf:X.fn x=true\/X.env.scope.names.lookup x=some .local:=by first | exact .inl rfl | exact .inr rfl | assumption) :
  PS X (.Assign [.Name x pos'] (.ListComp elt [⟨tg,iter,ifs,0⟩] scope pos) Ui) (tAsg (vz wi fr g tt te) (dy i)):=by
 intro XM s Z H Dd I h;have C:=C.ok I.ok;rw[exec_Assign_Name_used _ _ _ _ hsw];refine Zj (wpAny_standAt (Zj ?_));show wpAny _ X.A (do let _ <-comprehension (.ListComp elt [⟨tg,iter,ifs,0⟩] scope pos) scope X.env _ (newList []) false (eval iter X.env) (some (assign (.Name x pos') X.env))) _ _ s
 refine Zj (wpAny_mono (wpAny_comprehension_free (use:=some (assign (.Name x pos') X.env)) (Q:=λ_ s'=>SP X XM Dd .next s') rfl hs C.clos C.kind C.names
  (Z5 (hi XM s Z H _ I h) λv s1 h1=>Z5 h1 λitv s2 h2=>?_)) (λ_ s' hq=>Zr (Zr hq)) λ_ _ e=>e)
 obtain⟨it,fp,tn,J,H2,e,I2,T,st2,f2,hW⟩:=h2;subst e;refine Og (RR:=λacc Cc=>compPost (model X.prog X.w) X.A X.xe (some (assign (.Name x pos') X.env)) (λ_ s'=>SP X XM Dd .next s') acc Cc) hc C hg ht he I2 T st2 f2 hW ?_;intro D Cc s' fl H' m I' f0 f1 f2' f3 f4 f5 lg fi;show wpAny _ X.A (assign (.Name x pos') X.env (.ref D)) _ _ _;refine wpAny_assign_Name (R8 (v:=.ref D) I' hN hix hx rfl (λs3 I3 ⟨a,sb,ha⟩=>?_) hf)
 have na:Cc≠a:=by
  rcases ha with z | z
  .rw[z];exact f1
  .exact λq=>f4 x a z q.symm
 refine⟨m,lg.sameBut sb na,λh' sb'=>?_⟩;exact⟨_,H',I3.turned (t':=s3.toks) (λb o hb e=>(sb'.2 b hb).trans e) f0 f1 (.inr f3) f4 f5,fi⟩
end
end L2
namespace SetM
open PySem
def Ris(xs:ZS):Prop:=∀a b (h:a<b) (hb:b<xs.size),xs[a]'(Nat.lt_trans h hb)<xs[b]
structure TabI(t:SetTable)(n:Nat):Prop where
 size:t.place.size=n
 dum:t.dummies=#[]
 ris:Ris t.place
 room:n<=t.mask
theorem TabI.fits{t:SetTable}{n:Nat}(h:TabI t n):t.fits n=true:=by
 unfold SetTable.fits SetTable.fill;rw[h.dum,h.size];simp;exact h.room
theorem Vh(f m:Nat)(led:Bool):TabI (SetTable.fresh f m led) 0:=⟨rfl,rfl,λa b _ hb=>by simp[SetTable.fresh]at hb,B0 _⟩
theorem Pz{Z U:Type}{F:Z->U->Prop}{l l':List U}(p:l'.Perm l):∀{ks:List Z},Paired F ks l->∃ks',Paired F ks' l'/\ks'.Perm ks:=by
 induction p with
 | nil=>intro ks h;cases h;exact⟨[],.nil,.nil⟩
 | cons x p ih =>
  intro ks h;cases h with
  | cons r t =>
   obtain⟨ks',h1,h2⟩:=ih t;exact⟨_::ks',.cons r h1,h2.cons _⟩
 | swap x y l =>
  intro ks h;cases h with
  | cons r t =>
   cases t with
   | cons r' t'=>exact⟨_::_::_,.cons r' (.cons r t'),.swap _ _ _⟩
 | trans p1 p2 ih1 ih2 =>
  intro ks h;obtain⟨k1,h1,h2⟩:=ih2 h;obtain⟨k2,h3,h4⟩:=ih1 h1;exact⟨k2,h3,h4.trans h2⟩
section
variable{prog:Program}{w:World}{K:Type}[DecidableEq K](knd:KeyKind prog w K)
variable{knd}{A:Around}{E:ZW}{s:Shared}{a:Addr}
end
end SetM
namespace SetM
open PySem PyProof.Rows
section
variable{prog:Program}{w:World}{K:Type}[DecidableEq K]{knd:KeyKind prog w K}
variable{A:Around}{R:Result->Shared->Prop}{I:Addr}{fp wr:ZU}{G:Array GenState->Array GenState->Prop}{n:Nat}{P:Nat->Value->Prop}{St:Nat->Shared->Prop}
end
section
variable{prog:Program}{w:World}{A:Around}{E:ZW}{s:Shared}
theorem Km{T newId initId:String}{args:ZM}{Q:ZW}(ft:TypeCalled T newId initId)(hct:checkTypeCall T ⟨args,[]⟩=pure ())
  (h:codeAny (model prog w) A.in1 (.call (.builtin newId) ⟨.type T::args,[]⟩) (wants (λobj s1=>s1.TypeIs obj T/\codeAny (model prog w) A.in1 (.call (.builtin initId) ⟨obj::args,[]⟩) (wants (λr s2=>r=.none/\Q obj s2) E) s1) E) s) :
  wpAny (model prog w) A (call (.type T) args) Q E s:=by
 have q1:=ft.notType;have q2:=ft.canCreate;have q3:=ft.made;have q4:=ft.sub;obtain⟨c,tl,q5⟩:=ft.mro
 apply wpAny_call
 apply codeAny_of_tree
 change wpAny (model prog w) _ (callAny (Value.type T) ⟨args,[]⟩) _ _ s
 refine Zr (And.intro (Code.quiet_builtin _ XU) (codeAny_builtin PySem.F.entry_type_call ?_));rw[Around.under_plain (weight_type_call_type T args []) (units_type_call_type T args [])]
 repeat (any_goals (first | assumption | wp_step))
 refine codeAny_mono h λr s1 hr=>?_;rcases r with e | fl
 .exact hr
 .cases fl with
  | ret obj =>
   obtain⟨hT,hI⟩:=hr;have q6:=ft.init.lookup;have q7:=ft.init.bind obj
   repeat (any_goals (first | assumption | wp_step))
   refine codeAny_mono hI λr2 s2 hr2=>?_;rcases r2 with e2 | fl2
   .exact hr2
   .cases fl2 with
    | ret r3 =>
     obtain⟨rfl,q⟩:=hr2
     repeat (any_goals (first | assumption | wp_step))
    | _=>exact hr2.elim
  | _=>exact hr.elim
noncomputable abbrev Yr(b:Bool):Obj:={ cls:=.type "set",dict:=none,data:=.set #[] 0 (.fresh 0 0 b) }
theorem iw(x:Value){Q1:ZW}(h:Q1 (.ref s.heap.objs.size) { s with heap:=s.heap.push (Yr (!(w.params.followText "set-order"))) }) :
  codeAny (model prog w) A (.call (.builtin "set.__new__") ⟨[.type "set",x],[]⟩) (wants Q1 E) s:=by
 have q:=sub_set_self;refine codeAny_call_builtin PySem.F.plain_set_new PySem.F.entry_set_new (wpAny_of_eq (PySem.F.newCall_set_1 x) ?_);unfold Builtin.«set.__new__» Builtin.Frozenset.newClass;obtain⟨hp,gs,dr,tk,so⟩:=s;dsimp only
 wp_walk
 refine wpAny_askSetting (Zr ?_);dsimp only;simp only[newObj];exact Zj (wpAny_alloc (Zr (Zr h)))
variable{K:Type}[DecidableEq K]{knd:KeyKind prog w K}
end
theorem B2:Slot "set_iterator" "__next__" "set_iterator.__next__" :=
 Slot.of (owner:="set_iterator") (n:="__next__") (by rw[typeLookup_type,builtinLookup_eq_fast];kernel_rfl) XU XU XU (.inl XU) (by rw[isSubtype_type];kernel_rfl)
theorem v5:entryFor table "set_iterator.__next__"=some Builtin.«set_iterator.__next__»:=entryFor_of_tree (by kernel_rfl)
theorem ud(a:Value):argsOk "set_iterator.__next__" ⟨[a],[]⟩:=by unfold argsOk;kernel_rfl
theorem Tf:entryFor table "set.__iter__"=some Builtin.«frozenset.__iter__»:=entryFor_alias (id':="frozenset.__iter__") (by kernel_rfl) rfl XU (by kernel_rfl)
noncomputable abbrev T9(first:Value)(i:Nat)(a:Addr)(n ep:Nat):Obj:={ cls:=.type "set_iterator",data:=.fields #[first,rawInt i,.ref a,rawInt n,rawInt ep] }
section
variable{prog:Program}{w:World}{A:Around}{E:ZW}{s:Shared}{a:Addr}{o:Obj}{es:Array (Int×Value)}{ep:Nat}{t:SetTable}
end
section
variable{w:World}{a:Addr}{es:Array (Int×Value)}{ep:Nat}{t:SetTable}{h:Heap}{i:Nat}{first:Value}{vs:ZM}
end
section
variable{prog:Program}{w:World}{A:Around}{E:ZW}{s:Shared}{a I:Addr}{o:Obj}{es:Array (Int×Value)}{ep:Nat}{t:SetTable}{i:Nat}{first:Value}{vs:ZM}
theorem Zzq{h:Heap}{f:Obj->Obj}{b:Addr}{ob:Obj}(hb:b≠I)(e:h.get? b=some ob):(h.update I f).get? b=some ob:=(Heap.get?_update_other _ _ (Ne.symm hb)).trans e
end
theorem Ha:Slot "set_iterator" "__iter__" "set_iterator.__iter__" :=
 Slot.of (owner:="set_iterator") (n:="__iter__") (by rw[typeLookup_type,builtinLookup_eq_fast];kernel_rfl) XU XU XU (.inl XU) (by rw[isSubtype_type];kernel_rfl)
theorem Rm:entryFor table "set_iterator.__iter__"=some Builtin.«dict_keyiterator.__iter__»:=entryFor_alias (id':="dict_keyiterator.__iter__") (by kernel_rfl) rfl XU (by kernel_rfl)
theorem Lj(a:Value):argsOk "set_iterator.__iter__" ⟨[a],[]⟩:=by unfold argsOk;kernel_rfl
section
variable{prog:Program}{w:World}{A:Around}{E:ZW}{s:Shared}{a I:Addr}{o:Obj}{es:Array (Int×Value)}{ep:Nat}{t:SetTable}{vs:ZM}
theorem dq(hT:s.TypeIs (.ref a) "set"){Q:Bool->Shared->Prop}(h:Q false s):wpAny (model prog w) A (Builtin.List.listLengthHint (.ref a)) Q E s:=by
 unfold Builtin.List.listLengthHint;refine Zj (wpAny_specialOf hT PySem.F.slot_set_len.lookup ?_);generalize hid:("set.__len__" : String)=id0
 wp_delta
 rw[show splitId id0=some ("set","__len__") from by subst hid;decide +kernel];subst hid;refine Zj (wpAny_isInstance (b:=true) hT sub_set_self (wpAny_ite_split (λz=>absurd z XA) λ_=>wpAny_ite_split (λ_=>?_) λz=>absurd XU z));exact Zj (wpAny_typeOf hT (Zr h))
end
section
variable{prog:Program}{w:World}{K:Type}[DecidableEq K]{knd:PySem.KeyKind prog w K}{A:Around}{E:ZW}{s:Shared}{a:Addr}
theorem Yo{h:Heap}{l b:Addr}{vs:ZM}{out:ZN}{ob:Obj}(hb:b≠l)(e:h.get? b=some ob):(sortedHeap h l vs out).get? b=some ob:=by
 rw[sortedHeap_old hb (Ye e)];exact e
end
end SetM
namespace L2
open PySem PySem.Spec PyProof.Rows
theorem Inv.put{X:Cx}{XM:ZY}{Z:St}{H:Hp}{s:Shared}{h':Heap}{a:Addr}{o:HO}{t':Nat}{d':Drawn}(I:Inv X XM Z H s)(k:∀b u,s.heap.get? b=some u->h'.get? b=some u)(hp:s.heap.objs.size<=a)(new:Zp X.prog X.w (upd H a o) h' a o) :
  Inv X XM Z (upd H a o) { s with heap:=h',toks:=t',drawn:=d' } :=
 I.call (g':=s.gens) (t':=t') (d':=d') (ch:=[]) (Un.laid k hp (I.hok.fresh hp)) (I.hok.laid k hp new) I.bare λb z=>absurd z Ve
section
variable{X:Cx}
theorem R4:∀{vs:ZM} {ss:ZD},StrsAre vs ss->Zf (ss.map V.str) vs
 | _,_,.nil=>.nil
 | _,_,.cons y t r=>.cons ⟨t,rfl⟩ (R4 r)
end
end L2
namespace ZipL
open PySem PySem.Calls PyProof.Rows PyProof.V PySem.Spec
section
variable{prog:Program}{w:World}{A:Around}{E:ZW}{s:Shared}{z TI TO T i1 i2 l1 l2:Addr}{f:Bool}{oT:Obj}{k1 k2:Nat}{xs ys:ZN}{x y:Value}
end
section
variable{prog:Program}{w:World}{A:Around}{R:Result->Shared->Prop}{E:ZW}{s:Shared}{z TI TO i1 i2 l1 l2 S:Addr}{xs ys:ZN}
end
end ZipL
namespace L2
open PySem PySem.Spec PyProof.Rows
section
variable{X:Cx}{XM:ZY}{Z:St}{H H':Hp}{s:Shared}{h':Heap}
end
section
variable{X:Cx}{x y:Str}{p p2 pos Ui:Pos}{a b:Expr}{t:TA}
inductive Bf(K:W.Frag)(xs:ZQ)(H:Hp)(Q:VK):Prop
 | mk(p:Addr)(ns:ZL)(Vz:xs=[.ref p])(Y9:V0 K H p (ns.map V.int))(U5:Q (.int ns.sum) H):Bf K xs H Q
theorem xh(hc:X.calm=true):Yb X (.builtin "sum") (λxs H Q=>Bf X.K xs H Q):=by
 intro XM s Z H xs us Q I r h;obtain⟨p,ns,rfl,hq,q⟩:=h;obtain⟨u,rfl,rx⟩:=vals1 r;cases rx;obtain⟨XT,rv,pl,hz⟩:=I.list hq;have hi:=intsAre_of rv;obtain⟨zs,e⟩:=hi.allInts.items
 have en:(zs.toList.map (·.1))=ns:=by
  have a:=hi.numsOf;have b:=nums_intItems zs;rw[<-e]at b;exact b.symm.trans a
 refine sum_intListG (xs:=zs) (I.ok.hd hc) (by rw[<-e];exact pl.isList) λh' tk t' hk=>?_;rw[preSum_eq,T0l XI,en];exact⟨.int ns.sum,H,I.kept hk,⟨t',rfl⟩,q⟩
theorem Ew{ss:ZD}:∀{us:ZM},Zf (ss.map V.str) us->StrsAre us ss:=by
 induction ss with
 | nil=>intro us r;cases r;exact .nil
 | cons x xs ih =>
  intro us r;cases r with
  | cons e t =>
   obtain⟨tk,rfl⟩:=e;exact .cons x tk (ih t)
inductive Ag(K:W.Frag)(x:V)(vs:ZQ)(H:Hp)(Q:VK):Prop
 | mk(sep:Str)(p:Addr)(ss:ZD)(Vz:x=.str sep)(Y9:vs=[.ref p])(U5:V0 K H p (ss.map V.str))(L4:(ss.map (·.length)).sum+ss.length*sep.length<=16777216)(qf:Q (.str (Txt.join sep ss)) H):Ag K x vs H Q
def rJoin(K:W.Frag):V->ZQ->Hp->VK->Prop:=λx vs H Q=>Ag K x vs H Q
theorem ig:MtM X "str.join" (rJoin X.K):=by
 intro XM s Z H x vs v us Q I rx rv h;obtain⟨sep,p,ss,rfl,rfl,hq,hz,q⟩:=h;obtain⟨t,rfl⟩:=rx;obtain⟨u,rfl,ru⟩:=rv.one;cases ru;obtain⟨XT,r,pl,_⟩:=I.list hq;exact join_list pl.isList (Ew r) hz λt' k=>⟨.str _,H,I.tok _,⟨t',rfl⟩,q⟩
end
def Fn(P:Program)(w:World)(K:W.Frag)(mg:ZV)(base:Heap)(k:Nat)(x:Str)(ps:ZD)(sp:Sp):Prop :=
 ∃f fd,Dq P w K mg base n4 k f fd ps sp/\Binds K fd ps []/\W.keepIn K (.ref f)=true/\mg x=some (.ref f)
section
variable{X:Cx}{k:Nat}{x:Str}{ps:ZD}{sp:Sp}{p pos:Pos}{e:Expr}{es:ZC}{t:TA}
theorem gf(G:Fn X.prog X.w X.K X.mg X.base k x ps sp)(hr:Uc k X.A)(hg:Gl X x)(ha:PA X (e::es) t)(hdb:(x==("__debug__" : Str))=false:=by decide)
  (he:starEach (e::es) X.env=(false,eval e X.env)::starEach es X.env:=by rfl) (qy:(backTo pos (starEach es X.env)).any (·.1)=false:=by rfl) :
  PE X (.Call (.Name x p) (e::es) [] pos) (Zxm sp [] E0 t):=by
 obtain⟨f,fd,F,b,kp,m⟩:=G;exact oj F hr hg m kp b .nil pass0 ha hdb he qy
theorem Dq.any{P:Program}{w:World}{K:W.Frag}{mg:ZV}{base:Heap}{CX:qm}{k:Nat}{f:Addr}{fd:FuncData}{ps:ZD}{ι:Type}{C:ι->Prop}{sp:ι->Sp}(h:∀i,C i->Dq P w K mg base CX k f fd ps (sp i)) :
  Dq P w K mg base CX k f fd ps (λvs H Q E=>∃i,C i/\sp i vs H Q E) :=
 ⟨λvs H Q E ⟨i,c,q⟩=>(h i c).len vs H Q E q,λA outer s H args us vs Q E hr he hb hv ⟨i,c,q⟩=>(h i c).run A outer s H args us vs Q E hr he hb hv q⟩
end
def Up(K:W.Frag)(H H':Hp):Prop:=∀a xs,Y1 K H a xs->Y1 K H' a xs
theorem Up.refl{K:W.Frag}(H:Hp):Up K H H:=λ_ _ h=>h
theorem Up.trans{K:W.Frag}{H H1 H2:Hp}(a:Up K H H1)(b:Up K H1 H2):Up K H H2:=λc xs h=>b c xs (a c xs h)
theorem Zn.up{K:W.Frag}{H H':Hp}(e:Zn H H'):Up K H H':=λa xs h=>by
 rcases h with (h | ⟨o,h⟩) | h
 .exact .inl (.inl (e _ _ h))
 .exact .inl (.inr ⟨o,e _ _ h⟩)
 .exact .inr h
theorem Zn.put{H H1:Hp}{p:Addr}{o:HO}(e:Zn H H1)(h:H p=none):Zn H (upd H1 p o):=λb u q=>by
 rw[Zz (Z1 q h)];exact e b u q
theorem S7{K:W.Frag}{H:Hp}{p:Addr}{o:HO}{ys:ZQ}(h:H p=some (.lst ys)):Up K H (upd H p o):=λc xs q=>by
 have ne:∀u,H c=some u->(∀ys,u≠.lst ys)->c≠p:=λu e n z=>by
  rw[z,h]at e;cases e;exact n _ rfl
 rcases q with (q | ⟨u,q⟩) | q
 .exact .inl (.inl (by rw[Zz (ne _ q λ_ z=>nomatch z)];exact q))
 .exact .inl (.inr ⟨u,by rw[Zz (ne _ q λ_ z=>nomatch z)];exact q⟩)
 .exact .inr q
section
variable{X:Cx}
theorem gb{T:String}{x:Str}{pos:Pos}(hg:Gl X x)(hm:X.mg x=none)(hv:bootBuiltins x=some (.type T))(hn:x ≠ "__name__" := by decide)(hd:(x==("__debug__" : Str))=false:=by decide) :
  PE X (.Name x pos) (tC (.ty T)):=oy hg hm hv rfl hn hd
end
end L2
namespace DctE
open PySem PySem.SeqAt PySem.MeetsSeq
open PySem.AutoSeq1 (wpAny_loadPart')
end DctE
namespace L2
open PySem PySem.Spec PyProof.Rows
section
variable{X:Cx}{XM:ZY}{Z:St}{H H':Hp}{s:Shared}{h':Heap}
theorem Inv.turnLay{t':Nat}{fp:ZU}{a:Addr}{o:HO}(I:Inv X XM Z H s)(k:∀b u,b∉fp->s.heap.get? b=some u->h'.get? b=some u)(hf:∀b∈fp,Nk X XM H b)(hp:s.heap.objs.size<=a)(new:Zp X.prog X.w (upd H a o) h' a o) :
  Inv X XM Z (upd H a o) { s with heap:=h',toks:=t' }:=by
 have hn:=I.hok.fresh hp
 have nf:∀b u,H b=some u->b∉fp:=λb u e m=>by
  have z:=(hf b m).1;rw[e]at z;cases z
 have na:∀b u,s.heap.get? b=some u->b≠a:=λb u e=>Dz (Rv (Ye e) hp)
 refine I.call (g':=s.gens) (d':=s.drawn) (ch:=fp) ⟨λb u e _ _ hx=>k b u hx e,λb u e _ _ hx=>⟨u.slots,k b u hx e⟩,λb u e n _=>by rw[Zz (na b u e)];exact n,λb u e hx=>⟨u,k b u hx e⟩,
  λb xs e=>by rw[Zz (Z1 e hn)];exact e,λb ob u e=>by rw[Zz (Z1 e hn)];exact e,λb ps e=>⟨#[],by rw[Zz (Z1 e hn)];simp[e]⟩⟩ (λb u e=>?_) I.bare
  λb hb=>⟨(hf b hb).2.2.2.1,(hf b hb).2.1,(hf b hb).2.2.2.2.1,(hf b hb).2.2.2.2.2⟩
 by_cases hb:b=a
 .subst hb;rw[Zx]at e;cases e;exact new
 .rw[Zz hb]at e;refine(I.hok b u e).stay (λc v hc q=>k c v ?_ q) (λc q=>by rw[Zz (Z1 q hn)];exact q) λc xs q=>by rw[Zz (Z1 q hn)];exact q
  rcases hc with z | z
  .rw[z];exact nf b u e
  .exact nf c _ z
theorem Inv.turnL{t':Nat}{fp:ZU}(I:Inv X XM Z H s)(k:∀b u,b∉fp->s.heap.get? b=some u->h'.get? b=some u)(hf:∀b∈fp,Nk X XM H b) :
  Inv X XM Z H { s with heap:=h',toks:=t' }:=by
 have nf:∀b u,H b=some u->b∉fp:=λb u e m=>by
  have z:=(hf b m).1;rw[e]at z;cases z
 refine I.call (g':=s.gens) (d':=s.drawn) (ch:=fp) ⟨λb u e _ _ hx=>k b u hx e,λb u e _ _ hx=>⟨u.slots,k b u hx e⟩,λb u e n _=>n,λb u e hx=>⟨u,k b u hx e⟩,
  λb xs e=>e,λb ob u e=>e,λb ps e=>⟨#[],by simp[e]⟩⟩ (λb u e=>?_) I.bare
  λb hb=>⟨(hf b hb).2.2.2.1,(hf b hb).2.1,(hf b hb).2.2.2.2.1,(hf b hb).2.2.2.2.2⟩
 refine(I.hok b u e).stay (λc v hc q=>k c v ?_ q) (λc q=>q) λc xs q=>q;rcases hc with z | z
 .rw[z];exact nf b u e
 .exact nf c _ z
end
section
variable{X:Cx}{pos:Pos}
noncomputable def repS(i:Str)(n:Nat):Str:=⟨(List.replicate n i.cps).foldl (·++·) #[]⟩
theorem ym(a:ZS):∀(n:Nat) (acc:ZS),((List.replicate n a).foldl (·++·) acc).toList=acc.toList++(List.replicate n a.toList).flatten
 | 0,acc=>by simp
 | n+1,acc=>by
  rw[List.replicate_succ,List.foldl_cons,ym a n (acc++a),List.replicate_succ,List.flatten_cons,Array.toList_append,XQ]
theorem Dr(i:Str)(n:Nat):(repS i n).cps.toList=(List.replicate n i.cps.toList).flatten:=by
 show ((List.replicate n i.cps).foldl (·++·) #[]).toList=_;rw[ym]
 rfl
theorem Tc(i:Str)(n:Nat):(repS i n).length=n*i.length:=by
 show (repS i n).cps.size=n*i.cps.size;rw[<-qt,Dr,len_rep,qt]
inductive Wv(x:V)(y:V)(H:Hp)(Q:VK):Prop
 | mk(i:Str)(n:Int)(Vz:x=.str i)(Y9:y=.int n)(U5:2<=n)(L4:n<=1000)(qf:i.length≠0)(h5_:i.length<=1000)(h6_:Q (.str (repS i n.toNat)) H):Wv x y H Q
theorem oi:Ny X (binaryOp .Mult) (λx y H Q=>Wv x y H Q):=by
 intro XM s Z H x y v u Q I rx ry h;obtain⟨i,n,rfl,rfl,n2,n1,i0,i1,q⟩:=h;obtain⟨t,rfl⟩:=rx;obtain⟨t',rfl⟩:=ry;have c1:¬ n<1:=XH
 have c2:(n==1 || i.length==0)=false:=by
  rw[Bool.or_eq_false_iff];exact⟨qd.mpr XH,qd.mpr i0⟩
 have hm:i.length*n.toNat<=1000000:=D0 (Nat.mul_le_mul i1 (show n.toNat<=1000 by omega)) XA;refine PySem.P.mul_str ?_ (λ_ _=>?_) (λ_ _=>?_) ?_
 .rw[Bool.or_eq_false_iff];exact⟨Gr XH,Gr XH⟩
 .intro z;have hn0:(0:Int)<n:=XH
  have h1:(1000:Int)*n<=2 ^ 63-1:=XH
  have h2:=(Int.le_ediv_iff_mul_le hn0).mpr h1;omega
 .show decide (i.length*n.toNat>sizeLine)=false;exact Gr (Nat.not_lt_of_le (D0 hm XA))
 .rw[if_neg c1,if_neg (by rw[c2];decide)];have hl:(repS i n.toNat).length<=sizeLine:=by rw[Tc,Nat.mul_comm];exact D0 hm XA
  exact⟨hl,⟨.str _,H,I.tok _,⟨_,rfl⟩,q⟩⟩
end
def Its(x:Str):It:=⟨λi _=>i<x.cps.size,λi H v H'=>H'=H/\∃c,x.cps[i]?=some c/\v=.str ⟨#[c]⟩,λi _=>x.cps.size<=i⟩
theorem Qd{P:Program}{w:World}{K:PySem.W.Frag}{tg:Expr}(x:Str)(it:Addr)(T:String)(t:Tok)(hT:["enumerate","zip","dict_itemiterator","dict_reverseitemiterator","odict_iterator","itertools.zip_longest","itertools.pairwise"].contains T=false)
  (W:∀A:Around,A.handled=none->Walks P w A it [it] [it] x.cps.size (SignAt x) (λi h=>h.IsStrIter it T x t i)) (hs:∀(A:Around) (i:Nat) (s:Shared) (Q:ZW) (E:ZW),s.heap.IsStrIter it T x t i->Q (.ref it) s->wpAny (model P w) A (pyIter (.ref it)) Q E s)
  (hd:∀(A:Around) (i:Nat) (s:Shared) (Q:ZT->Shared->Prop) (E:ZW),A.handled=none->x.cps.size<=i->s.heap.IsStrIter it T x t i->(∀h' tk,(∀b o,b≠it->s.heap.get? b=some o->h'.get? b=some o)->Q none { s with heap:=h',toks:=tk })->wpAny (model P w) A (pyNext (.ref it)) Q E s) :
  Turn P w K tg (Its x) [it] it (λi h=>h.IsStrIter it T x t i) where
 mem:=by simp
 obj:=λi h st b hb=>by
  have e:b=it:=by simpa using hb
  subst e;obtain⟨o,e,c,d⟩:=st;exact⟨o,e,λv z=>by rw[d]at z;cases z⟩
 keep:=λi h h' st k=>let ⟨o,ho,r⟩:=st;⟨o,k it XI o ho,r⟩
 item:=by
  intro X hP hw hK hc i XM s Z H E I hf st hg;subst hP hw hK;obtain⟨f0,f1,f2,f3,f4,f5⟩:=hf it XI;refine(W X.A (I.ok.hd hc)).item i s _ _ hg st λv h' tk hv Sy kk=>?_;obtain⟨c,u,la,rfl⟩:=hv;have I1:Inv X XM Z H { s with heap:=h',toks:=tk }:=I.turned (λb o hb e=>kk b o (by simpa using hb) e) f0 f1 f3 f4 f5;obtain⟨o,e,c1,d⟩:=id Sy;exact⟨_,rfl,P6 (s:={ s with heap:=h',toks:=tk }) e c1 d hT ⟨.str ⟨#[c]⟩,H,I1,⟨u,rfl⟩,⟨rfl,c,la,rfl⟩,Sy,λb hb=>(hf b hb).1⟩⟩
 done:=by
  intro X hP hw hK hc i XM s Z H E I hf st hg;subst hP hw hK;obtain⟨f0,f1,f2,f3,f4,f5⟩:=hf it XI;exact hd X.A i s _ _ (I.ok.hd hc) hg st λh' tk eb=>⟨rfl,I.turned (λb o hb e=>eb b o hb e) f0 f1 f3 f4 f5⟩
 self:=λA i s Q E st h=>hs A i s Q E st h
inductive m9(R:(It->Hp->Prop))(v:V)(H1:Hp):Prop
 | mk(x)(Vz:v=.str x)(Y9:R (Its x) H1):m9 R v H1
def iStr(te:TE):TI:=λZ H R=>te Z H λv H1=>m9 R v H1
section
variable{X:Cx}{tg l:Expr}{tl:TE}
theorem pi_str(hl:PE X l tl):PI X tg l (iStr tl):=by
 intro XM s Z H R I h;refine Z5 (hl XM s Z H _ I h) λv s1 ⟨v',H1,I1,r1,q1⟩=>?_;obtain⟨x,rfl,q⟩:=q1;obtain⟨t,rfl⟩:=r1
 have fin:∀b∈[s1.heap.objs.size],Nk X XM H1 b:=λb hb=>by
  have e:b=s1.heap.objs.size:=by simpa using hb
  subst e;exact I1.fpOk (Yk _) (I1.hok.fresh (Yk _))
 cases ha:x.cps.all (·<128)
 .refine wpAny_pyIter_wide ha ?_
  exact⟨s1.heap.objs.size,[s1.heap.objs.size],_,_,H1,rfl,I1.kept (t':=s1.toks) λb o e=>Yn _ e,Qd x _ "str_iterator" t XA (λA hA=>Walks.strWide hA _ x t) (λA i s Q E st h=>wpAny_pyIter_striter_wide st h)
   (λA i s Q E hA hi st h=>wpAny_pyNext_wide_end hA st (by simp[hi]) λh' he=>h h' s.toks λb o hb e=>he b o hb e),⟨_,Ur _ rfl,rfl,rfl⟩,fin,q⟩
 .refine wpAny_pyIter_ascii ha ?_
  exact⟨s1.heap.objs.size,[s1.heap.objs.size],_,_,H1,rfl,I1.kept (t':=s1.toks) λb o e=>Yn _ e,Qd x _ "str_ascii_iterator" t XA (λA hA=>Walks.strAscii hA _ x t) (λA i s Q E st h=>wpAny_pyIter_striter_ascii st h)
   (λA i s Q E hA hi st h=>wpAny_pyNext_ascii_end hA st (by simp[hi]) λh' he=>h h' s.toks λb o hb e=>he b o hb e),⟨_,Ur _ rfl,rfl,rfl⟩,fin,q⟩
end
def Itz(K:W.Frag)(l1 l2:Addr):It :=
  ⟨λi H=>∃xs ys x y,V0 K H l1 xs/\V0 K H l2 ys/\xs[i]?=some x/\ys[i]?=some y,
   λi H v H'=>∃p x y,v=.ref p/\H p=none/\H'=upd H p (.tup [x,y])/\(∀xs,V0 K H l1 xs->xs[i]?=some x)/\∀ys,V0 K H l2 ys->ys[i]?=some y,
   λi H=>∃xs ys,V0 K H l1 xs/\V0 K H l2 ys/\(xs.length<=i\/ys.length<=i)⟩
theorem wm{P:Program}{w:World}{K:W.Frag}{es:ZC}{k:Nat}{pos:Pos}(z TI TO i1 i2 l1 l2:Addr)(D:ZipApart z TI TO i1 i2 l1 l2) :
  Turn P w K (.Tuple es k pos) (Itz K l1 l2) [z,TI,TO,i1,i2] z (λi h=>IsZip h z TI TO .none/\IsPair h TI (.ref i1) (.ref i2)/\(∃a b,IsPair h TO a b)/\h.IsListIter i1 l1 i/\h.IsListIter i2 l2 i) where
 mem:=by simp
 obj:=λi h st b hb=>by
  obtain⟨hz,L3,⟨a,c,P5⟩,⟨o1,e1,_,d1⟩,⟨o2,e2,_,d2⟩⟩:=st;simp only[Yf,Ve,or_false]at hb;rcases hb with rfl | rfl | rfl | rfl | rfl
  .exact⟨_,hz,λv q=>nomatch q⟩
  .exact⟨_,L3,λv q=>nomatch q⟩
  .exact⟨_,P5,λv q=>nomatch q⟩
  .exact⟨_,e1,λv q=>by rw[d1]at q;cases q⟩
  .exact⟨_,e2,λv q=>by rw[d2]at q;cases q⟩
 keep:=λi h h' st hk=>by
  obtain⟨hz,L3,⟨a,b,P5⟩,h1,h2⟩:=st;exact⟨hk z XI _ hz,hk TI XI _ L3,⟨a,b,hk TO XI _ P5⟩,h1.at λo e=>hk i1 XI o e,h2.at λo e=>hk i2 XI o e⟩
 item:=by
  intro X hP hw hK hc i XM s Z H E I hf st hg;subst hP hw hK;obtain⟨xs,ys,x,y,q1,q2,g1,g2⟩:=hg;obtain⟨hz,L3,⟨a,b,P5⟩,h1,h2⟩:=st;obtain⟨ly,v1,X8,z1⟩:=I.list q1;obtain⟨is2,v2,X7,z2⟩:=I.list q2;obtain⟨u1,e1,r1⟩:=v1.get g1;obtain⟨u2,e2,r2⟩:=v2.get g2;refine wpAny_pyNext_zip_item D hz L3 P5 h1 h2 X8.isList X7.isList (x:=u1) (y:=u2) (by simpa using e1) (by simpa using e2) λh' a1 a2 a3 a4 a5 a6 hk=>?_;refine⟨_,rfl,wpAny_letOwnedTupleGo_zip (s:={ s with heap:=h' }) a1 λh'' hz' Qq=>?_⟩;have lt:∀{c o},s.heap.get? c=some o->s.heap.objs.size≠c:=λe=>Nat.ne_of_gt (Ye e);have nz:s.heap.objs.size≠z:=lt hz
  have kk:∀c u,c∉[z,TI,TO,i1,i2]->s.heap.get? c=some u->h''.get? c=some u:=λc u m e=>by
   simp only[Yf,Ve,or_false,not_or]at m;exact Qq.extBut _ _ m.1 (hk c u m.1 m.2.2.1 m.2.2.2.1 m.2.2.2.2 e)
  have fresh:=I.hok.fresh (Yk s.heap.objs.size);have J:Inv X XM Z (upd H s.heap.objs.size (.tup [x,y])) { s with heap:=h'',toks:=s.toks }:=I.turnLay kk hf (Yk _) ⟨by show 2<=sizeLine;decide,[u1,u2],.cons r1 (.cons r2 .nil),⟨_,Qq.extBut _ _ nz a5,rfl,⟨_,rfl⟩,rfl⟩⟩;refine⟨.ref s.heap.objs.size,_,J,rfl,⟨_,x,y,rfl,fresh,rfl,λws hw=>by rw[I.list_inj hw q1];exact g1,λws hw=>by rw[I.list_inj hw q2];exact g2⟩,⟨hz',Qq.extBut _ _ D.TIz (hk _ _ D.TIz D.TITO D.TIi1 D.TIi2 L3),⟨_,_,Qq.extBut _ _ D.TOz a2⟩,a3.extBut Qq.extBut D.i1z,a4.extBut Qq.extBut D.i2z⟩,λc hc=>?_⟩
  have nc:c≠s.heap.objs.size:=λq=>by
   subst q;simp only[Yf,Ve,or_false]at hc;rcases hc with q | q | q | q | q
   .exact lt hz q
   .exact lt L3 q
   .exact lt P5 q
   .obtain⟨_,e,_⟩:=h1;exact lt e q
   .obtain⟨_,e,_⟩:=h2;exact lt e q
  rw[Zz nc];exact(hf c hc).1
 done:=by
  intro X hP hw hK hc i XM s Z H E I hf st hg;subst hP hw hK;obtain⟨xs,ys,q1,q2,g⟩:=hg;obtain⟨hz,L3,⟨a,b,P5⟩,h1,h2⟩:=st;obtain⟨ly,v1,X8,z1⟩:=I.list q1;obtain⟨is2,v2,X7,z2⟩:=I.list q2;have hl1:=v1.length;have hl2:=v2.length;refine wpAny_pyNext_zip_end (I.ok.hd hc) D hz L3 P5 h1 h2 X8.isList X7.isList (by rcases g with g | g;exact .inl (by simp;omega);exact .inr (by simp;omega)) λh' hk=>⟨rfl,I.turnL (t':=s.toks) (fp:=[z,TI,TO,i1,i2]) (λc u m e=>?_) hf⟩;simp only[Yf,Ve,or_false,not_or]at m;exact hk c u m.1 m.2.2.1 m.2.2.2.1 m.2.2.2.2 e
 self:=λA i s Q E st h=>wpAny_pyIter_zip st.1 h
inductive m6(K:W.Frag)(R:(It->Hp->Prop))(vs:ZQ)(H1:Hp):Prop
 | mk(p q)(Vz:vs=[.ref p,.ref q])(Y9:(∃xs,V0 K H1 p xs))(U5:(∃ys,V0 K H1 q ys))(L4:R (Itz K p q) H1):m6 K R vs H1
def iZip(K:W.Frag)(t:TA):TI:=λZ H R=>t Z H λvs H1=>m6 K R vs H1
section
variable{X:Cx}{es:ZC}{k:Nat}{p2 pos Ui:Pos}{a b:Expr}{t:TA}
theorem pi_zip(hgz:Gl X "zip")(hmz:X.mg "zip"=none)(ha:PA X [a,b] t)
  (he2:starEach [a,b] X.env=(false,eval a X.env)::starEach [b] X.env:=by rfl) (qy:(backTo Ui (starEach [b] X.env)).any (·.1)=false:=by rfl) :
  PI X (.Tuple es k pos) (.Call (.Name "zip" p2) [a,b] [] Ui) (iZip X.K t):=by
 intro XM s Z H R I h;refine wpAny_Call_Name_kw (J4 I hgz hmz (by decide +kernel:bootBuiltins "zip"=some (.type "zip")) ?_ XA XA);refine callWith_type1 (Z5 (ha Ui XM s Z H _ I h) λus s1 ⟨vs,H1,I1,r1,q1⟩=>?_) he2 qy;obtain⟨l1,l2,rfl,⟨xs,hx⟩,⟨ys,hy⟩,q⟩:=q1;obtain⟨u1,u2,rfl,e1,e2⟩:=vals2 r1;cases e1;cases e2;obtain⟨ly,v1,X8,z1⟩:=I1.list hx;obtain⟨is2,v2,X7,z2⟩:=I1.list hy;have n1:l1<s1.heap.objs.size:=by obtain⟨_,e,_⟩:=X8.isList;exact Ye e
 have n2:l2<s1.heap.objs.size:=by obtain⟨_,e,_⟩:=X7.isList;exact Ye e
 refine call_zip_2 X8.isList X7.isList λh2 b1 b2 b3 b4 b5 b6 k2=>?_;refine wpAny_pyIter_zip (s:={ s1 with heap:=h2 }) b1 ?_;have J:Inv X XM Z H1 { s1 with heap:=h2,toks:=s1.toks }:=I1.kept k2;refine⟨_,[s1.heap.objs.size+4,s1.heap.objs.size+2,s1.heap.objs.size+3,s1.heap.objs.size,s1.heap.objs.size+1],_,_,H1,rfl,J,wm _ _ _ _ _ l1 l2 (zipApart_new n1 n2),⟨b1,b2,⟨_,_,b3⟩,b4,b5⟩,λc hc=>?_,q⟩
 have ge:s1.heap.objs.size<=c:=by
  simp only[Yf,Ve,or_false]at hc;rcases hc with q | q | q | q | q<;>rw[q]<;>first | exact Yk _ | exact Nat.le_add_right _ _
 exact I1.fpOk ge (I1.hok.fresh ge)
end
section
variable{X:Cx}
inductive Ti(K:W.Frag)(x:V)(y:V)(H:Hp)(Q:VK):Prop
 | mk(l b zs)(Vz:x=.ref l)(Y9:y=.ref b)(U5:Y1 K H l [])(L4:Y1 K H b zs)(qf:Q (.ref b) H):Ti K x y H Q
theorem fj:Ny X (binaryOp .Add) (λx y H Q=>Ti X.K x y H Q):=by
 intro XM s Z H x y v u Q I rx ry h;obtain⟨l,b,zs,rfl,rfl,hl,hb,q⟩:=h;cases rx;cases ry;obtain⟨i1,r1,p1,z1⟩:=I.tuple hl;obtain⟨i2,r2,p2,z2⟩:=I.tuple hb;have e1:i1=[]:=by cases r1;rfl
 subst e1;obtain⟨⟨c1,d1,t1,s1⟩,o1,k1,n1,m1⟩:=id p1;obtain⟨⟨c2,d2,t2,s2⟩,o2,k2,n2,m2⟩:=id p2;simp only at k1 m1 k2 m2;subst k1 m1 k2 m2;exact concat_meets ⟨_,o1,rfl⟩ ⟨_,o2,rfl⟩ noFill_tuple_add seq_tuple_add PySem.F.slot_tuple_add PySem.F.entry_tuple_add (PySem.F.args_tuple_add_2 _ _) (tuple_addW0 l b _ _ n1 n2 d1 d2 s1 s2 rfl) ⟨o1,o2,⟨.ref b,H,I,rfl,q⟩⟩
end
end L2
namespace HT
open PySem PySem.Spec PyProof.Rows
section
variable{prog:Program}{w:World}{A:Around}{E:ZW}{s:Shared}
theorem G4{t sl:Addr}{items:ZN}{vl vu:Value}{lo hi:ZR}{Q:ZW}(ht:IsTup s.heap t items)(hs:s.heap.IsSliceOf sl vl vu .none)(pl:IsPart vl lo)(pu:IsPart vu hi)
  (hw:Yh items.size 0 lo=0/\Yh items.size items.size hi=items.size) (h:Q (.ref t) s):wpAny (model prog w) A (getItem (.ref t) (.ref sl)) Q E s:=by
 obtain⟨os,xj,hcs,lh⟩:=id hs;have hTs:s.TypeIs (.ref sl) "slice" := ⟨os,xj,hcs⟩;unfold getItem
 try with_reducible refine wpAny_holding ?_
 first | refine Zj (Zr ?_) | skip
 refine Zj (wpAny_sequenceKey ht.typeIs XA ?_)
 refine Zj (wpAny_callSpecial?_slot (name:=Str.ofString "__getitem__") ht.typeIs slot_tuple_getitem
  (wpAny_call_entry slot_tuple_getitem ht.typeIs entry_tuple_getitem ?_ (args_tuple_getitem _ _)))
 show wpAny _ _ (Builtin.Tuple.tupleItemsOf (.ref t) >>= _) _ _ s;refine Zj (tupleItemsOf_ ht ?_);refine Zj (wpAny_typeOf hTs ?_);rw[if_pos XA];refine Zj (Uo hs pl pu ?_)
 have hyes:(((Yh items.size 0 lo:Nat):Int)==0&&(1:Int)==1&&(Yh items.size items.size hi-Yh items.size 0 lo)==items.size)=true:=by
  rw[hw.1,hw.2];simp
 show wpAny _ _ (if (((Yh items.size 0 lo:Nat):Int)==0&&(1:Int)==1&&(Yh items.size items.size hi-Yh items.size 0 lo)==items.size)=true then _ else _) _ _ s;rw[if_pos hyes];refine Zj (m:=Builtin.Tuple.tupleIsExact (.ref t)) (Zj (wpAny_typeOf ht.typeIs (Zr ?_)));rw[if_pos XA];exact Zj (wpAny_rule (Zr ⟨_,rfl,Zr h⟩))
end
end HT
namespace L2
open PySem PySem.Spec PyProof.Rows
section
variable{X:Cx}{e:Expr}{te:TE}{lo hi:Option Expr}{tl th:TO}{pos p2 p3 p4:Pos}{j1:Nat}
theorem Zn.lay{H:Hp}{p:Addr}{o:HO}(h:H p=none):Zn H (upd H p o):=λb u q=>by rw[Zz (Z1 q h)];exact q
inductive ya(K:W.Frag)(x:V)(lo:ZR)(hi:ZR)(H:Hp)(Q:VK):Prop
 | mk(a xs)(Vz:x=.ref a)(Y9:Y1 K H a xs)(U5:∀p H',Zn H H'->Y1 K H' p (Cb xs lo hi)->Q (.ref p) H'):ya K x lo hi H Q
def rSlG(K:W.Frag):V->ZR->ZR->Hp->VK->Prop:=λx lo hi H Q=>ya K x lo hi H Q
theorem uf:SlR X (rSlG X.K):=by
 intro XM s Z H x v vl vu lo hi sl Q I rx hs pl pu h;obtain⟨a,xs,rfl,hx,q⟩:=h;by_cases hw:HT.Yh xs.length 0 lo=0/\HT.Yh xs.length xs.length hi=xs.length
 .cases rx;obtain⟨XT,r,ht,hz⟩:=I.tuple hx;have hlen:XT.toArray.size=xs.length:=by rw[Jh];exact r.length.symm
  refine⟨"tuple",_,slot_tuple_getitem.lookup,ht.typeIs,?_⟩;refine HT.G4 ht hs pl pu (by rw[hlen];exact hw) ⟨.ref a,H,I,rfl,q a H (Zn.refl H) ?_⟩
  have e:Cb xs lo hi=xs:=by
   unfold Cb;rw[hw.1,hw.2,List.drop_zero,Nat.sub_zero,List.take_length]
  rw[e];exact hx
 .exact sl_tup XM s Z H _ v vl vu lo hi sl Q I rx hs pl pu ⟨a,xs,rfl,hx,hw,λp hp=>q p _ (Zn.lay hp) (Y1.of Zx)⟩
inductive Ab(K:W.Frag)(x:V)(y:V)(H:Hp)(Q:VK):Prop
 | mk(a b xs ys)(Vz:x=.ref a)(Y9:y=.ref b)(U5:Y1 K H a xs)(L4:Y1 K H b ys)(qf:xs.length+ys.length<=sizeLine)(h5_:∀p H',Zn H H'->Y1 K H' p (xs++ys)->Q (.ref p) H'):Ab K x y H Q
def rCatG(K:W.Frag):R2:=λx y H Q=>Ab K x y H Q
theorem o8:Ny X (binaryOp .Add) (rCatG X.K):=by
 intro XM s Z H x y v u Q I rx ry h;obtain⟨a,b,xs,ys,rfl,rfl,ha,hb,hz,q⟩:=h;cases xs with
 | nil=>exact fj XM s Z H _ _ v u Q I rx ry ⟨a,b,ys,rfl,rfl,ha,hb,q b H (Zn.refl H) hb⟩
 | cons x xs =>
  refine o6 XM s Z H _ _ v u Q I rx ry ⟨a,b,x::xs,ys,rfl,rfl,ha,hb,(λz=>nomatch z),hz,λe=>?_,λ_ p hp=>q p _ (Zn.lay hp) (Y1.of Zx)⟩;subst e;exact q a H (Zn.refl H) (by rw[XJ];exact ha)
end
section
variable{X:Cx}{x:Str}{p pos:Pos}{e:Expr}{es:ZC}{tn:TE}{t:TA}{Y:Cx->Addr->ZD->Sp->Prop}
end
section
variable{K:W.Frag}{H H1 H':Hp}
end
section
variable{X:Cx}
theorem Zzj{XM:ZY}{Z:St}{H:Hp}{s:Shared}{a:Addr}{xs:ZQ}{c:Value}{b:Bool}{Q:ZW}{E:ZW}(I:Inv X XM Z H s)(q:Y1 X.K H a xs)(e:W.kitOne X.K (.type "tuple") c=some b)(h:∀tk,Q (.bool b) { s with toks:=tk }) :
  wpAny (model X.prog X.w) X.A (call (.builtin "isinstance") [.ref a,c]) Q E s:=by
 obtain⟨XT,_,⟨o,h1,h2,_⟩,_⟩:=I.tuple q;exact W.kia_one W.kitx_tuple I.kIn ⟨o,h1,h2⟩ e (λz=>nomatch z) h
inductive Q5(K:W.Frag)(A:Around)(x:V)(y:V)(H:Hp)(Q:VK):Prop
 | mk(a b xs)(Vz:x=.ref a)(Y9:y=.ref b)(U5:V0 K H a xs)(L4:V0 K H b [])(qf:A.units<cLine)(h5_:Q (.bl xs.isEmpty) H):Q5 K A x y H Q
def rEqNil(K:W.Frag)(A:Around):R2:=λx y H Q=>Q5 K A x y H Q
theorem fq:Ny X (compareOp .Eq) (rEqNil X.K X.A):=by
 intro XM s Z H x y v u Q I rx ry h;obtain⟨a,b,xs,rfl,rfl,ha,hb,hu,q⟩:=h;cases rx;cases ry;obtain⟨i1,r1,p1,z1⟩:=I.list ha;obtain⟨i2,r2,p2,z2⟩:=I.list hb;have e2:i2=[]:=by cases r2;rfl
 subst e2;cases xs with
 | nil =>
  have e1:i1=[]:=by cases r1;rfl
  subst e1;have:=SeqAt.RcAt.lists (A:=X.A) (e:=λ_=>true) p1.isList p2.isList rfl hu (λj h1 h2=>absurd h1 XI);exact this X.prog X.w X.xe _ ⟨.bl _,H,I,rfl,q⟩
 | cons x xs =>
  have hl:=r1.length;exact SeqAt.RcAt.lists_lengths (A:=X.A) p1.isList p2.isList (by rw[Jh, <-hl];rfl) hu X.prog X.w X.xe _ ⟨.bl _,H,I,rfl,q⟩
end
section
variable{K:W.Frag}{H:Hp}{a D:Addr}{xs:ZQ}{ts:List Th}{te:TE}{tt:TT}{fin:Hp->Prop}{τ:St}{o:Option V}
end
end L2
namespace K01
open PySem PySem.Spec PyProof.Rows L2
end K01
namespace L2
open PySem PySem.Spec PyProof.Rows
section
variable{X:Cx}
end
end L2
namespace RevA
open PySem
section
variable{prog:Program}{w:World}{A:Around}{E:ZW}{s:Shared}{r t:Addr}{XT:ZN}{i:Int}
end
end RevA
namespace RevA
open PySem PyProof.Rows
section
variable{prog:Program}{w:World}{A:Around}{E:ZW}{s:Shared}{r t:Addr}{XT:ZN}
end
section
variable{prog:Program}{w:World}{A:Around}{E:ZW}{s:Shared}{r t:Addr}{XT:ZN}
end
section
variable{prog:Program}{w:World}{A:Around}{E:ZW}{s:Shared}{R:Result->Shared->Prop}{I S:Addr}{fp wr:ZU}{n:Nat}{P:Nat->Value->Prop}{St:Nat->Heap->Prop}{T:String}
end
section
variable{prog:Program}{w:World}{A:Around}{E:ZW}{s:Shared}{I:Addr}{fp wr:ZU}{n:Nat}{P:Nat->Value->Prop}{St:Nat->Heap->Prop}{T:String}
end
section
variable{prog:Program}{w:World}{A:Around}{E:ZW}{s:Shared}{r t:Addr}{XT:ZN}
end
section
variable{prog:Program}{w:World}{A:Around}{E:ZW}{s:Shared}{I:Addr}{fp wr:ZU}{n:Nat}{P:Nat->Value->Prop}{St:Nat->Heap->Prop}{T:String}
end
section
variable{prog:Program}{w:World}{A:Around}{E:ZW}{s:Shared}
end
end RevA
namespace IdxT
open PySem PySem.SeqAt PySem.MeetsSeq
open PySem.AutoSeq1 (wpAny_loadPart')
end IdxT
namespace L2
open PySem PySem.Spec PyProof.Rows
section
variable{X:Cx}{p p2 pos Ui:Pos}{a:Expr}{t:TA}
end
section
variable{X:Cx}{e:Expr}{t1 t2:TE}
end
section
variable{X:Cx}{p p2 pos Ui:Pos}{a:Expr}{t:TA}
end
section
variable{X:Cx}
end
section
variable{X:Cx}{k:Nat}{C:Addr}{m x:Str}{ps:ZD}{sp:Sp}{o e:Expr}{es:ZC}{ta:TE}{t:TA}{p pos apos:Pos}
end
end L2
namespace EnuT
open PySem
section
variable{prog:Program}{w:World}{A:Around}{E:ZW}{s:Shared}
theorem nextT{it t:Addr}{i:Nat}{XT:ZN}{x:Value}{Q:ZW}(hi:s.heap.IsTupleIter it t i)(ht:s.heap.IsTuple t XT)(hx:XT[i]?=some x)
  (q:∀h',h'.IsTupleIter it t (i+1)->Heap.SameBut it s.heap h'->Q x { s with heap:=h' }):wpAny (model prog w) A (Builtin.SmallTypes.nextOf (.ref it)) Q E s:=by
 obtain⟨u,hu,hc,hd⟩:=id hi;obtain⟨p,hp,_,n,dp⟩:=ht;unfold Builtin.SmallTypes.nextOf;refine Zj (wpAny_callSpecial?_slot (name:=Str.ofString "__next__") hi.typeIs F.slot_tuple_iterator_next (wpAny_call_entry F.slot_tuple_iterator_next hi.typeIs F.entry_tuple_iterator_next ?_ (F.args_tuple_iterator_next_1 _)));show wpAny _ _ (field (.ref it) 0 >>= _) _ _ s;refine Zj (wpAny_field hu hd (x:=.ref t) rfl ?_);show wpAny _ _ (if (Value.ref t==Value.none)=true then _ else _) _ _ s;rw[if_neg (show ¬ ((Value.ref t==Value.none)=true) from D5)];show wpAny _ _ (field (.ref it) 1 >>= _) _ _ s;refine Zj (wpAny_field hu hd (x:=.int i 0) rfl ?_);show wpAny _ _ (seqItems? (.ref t) >>= _) _ _ s;refine Zj (wpAny_seqItems hp dp ?_);simp only[XF,hx];refine Zj (wpAny_setField hu hd XI (Zr ⟨x,rfl,Zr (q _ ?_ (Heap.SameBut.update ..))⟩));exact⟨_,Heap.get?_update_self _ hu (Obj.isFreed_of_fields (Obj.data_mapFields hd _)),(Obj.cls_mapFields ..).trans hc,by rw[Obj.data_mapFields hd];simp[rawInt]⟩
theorem endT{it t:Addr}{i:Nat}{XT:ZN}{Q:ZW}(hh:A.handled=none)(hi:s.heap.IsTupleIter it t i)(ht:s.heap.IsTuple t XT)(hx:XT[i]?=none)
  (q:∀h' e,Heap.ExtBut it s.heap h'->(∃o,h'.get? e=some o/\o.cls=.type "StopIteration")->E (.ref e) { s with heap:=h' }):wpAny (model prog w) A (Builtin.SmallTypes.nextOf (.ref it)) Q E s:=by
 obtain⟨u,hu,hc,hd⟩:=id hi;obtain⟨p,hp,_,n,dp⟩:=ht;unfold Builtin.SmallTypes.nextOf;refine Zj (wpAny_callSpecial?_slot (name:=Str.ofString "__next__") hi.typeIs F.slot_tuple_iterator_next (wpAny_call_entry F.slot_tuple_iterator_next hi.typeIs F.entry_tuple_iterator_next ?_ (F.args_tuple_iterator_next_1 _)));show wpAny _ _ (field (.ref it) 0 >>= _) _ _ s;refine Zj (wpAny_field hu hd (x:=.ref t) rfl ?_);show wpAny _ _ (if (Value.ref t==Value.none)=true then _ else _) _ _ s;rw[if_neg (show ¬ ((Value.ref t==Value.none)=true) from D5)];show wpAny _ _ (field (.ref it) 1 >>= _) _ _ s;refine Zj (wpAny_field hu hd (x:=.int i 0) rfl ?_);show wpAny _ _ (seqItems? (.ref t) >>= _) _ _ s;refine Zj (wpAny_seqItems hp dp ?_);simp only[XF,hx];refine Zj (wpAny_rule (Zj (wpAny_setField hu hd XI ?_)));show wpAny _ _ (newExc (.type "StopIteration") [] >>= _) _ _ _;refine Zj ?_;simp only[newExc,newTuple];refine Zj (wpAny_newObj_type ?_ (by size_fits));refine Zj (m:=firstArgMember _ _) (wpAny_of_eq (a:=Value.none) (by first | rfl | (simp only[firstArgMember];rfl)) ?_);refine wpAny_newObj_type ?_ (by size_fits);simp only[raiseNew];refine Zj (wpAny_handled ?_)
 first | rw[show A.in1.handled=none from hh] | rw[hh]
 refine Zj (Zr (wpAny_throw ?_));exact q _ _ (((Heap.SameBut.update ..).extBut.push _).push _) ⟨_,Ur _ rfl,rfl⟩
end
section
variable{prog:Program}{w:World}{A:Around}{E:ZW}{s:Shared}
end
end EnuT
namespace L2
open PySem PySem.Spec PyProof.Rows
section
variable{X:Cx}{es:ZC}{k:Nat}{p2 pos Ui:Pos}{a:Expr}{t:TA}
end
section
variable{X:Cx}
end
noncomputable def rngI(i:Int)(n:Nat):ZL:=(List.range n).map λk:Nat=>i+(k:Int)
section
variable{X:Cx}{p p2 pos Ui:Pos}{a b:Expr}{t:TA}
end
end L2
namespace EX
open PySem
section
variable{M:Model}{A:Around}{E:ZW}{s:Shared}{env:Env}{outer:List Env}{base:Heap}{L e T:Addr}{oe:Obj}{vs:ZN}{Q:ZO}
end
section
variable{M:Model}{A:Around}{E:ZW}{s:Shared}{env:Env}
end
section
variable{M:Model}{A:Around}{E:ZW}{s:Shared}{env:Env}
end
section
variable{prog:Program}{w:World}{A:Around}{E:ZW}{s:Shared}{env:Env}
end
section
variable{prog:Program}{w:World}{A:Around}{E:ZW}{h:Heap}{g:Array GenState}{d:Drawn}{t:Nat}{os:OsState}
variable{nm q:Str}{C N:Addr}{bs bm bmB:ZM}{hdct:Bool}{sn:ZD}{sub:ZM}{ab:Bool}{col:Option Bool}{dd:ZP}{k0 k1 k2 k3 k5:ZT}{B newId initId:String}
end
section
variable{prog:Program}{w:World}{A:Around}{E:ZW}{h:Heap}{g:Array GenState}{d:Drawn}{t:Nat}{os:OsState}
variable{nm q:Str}{C N:Addr}{bs bm bmB:ZM}{hdct:Bool}{sn:ZD}{sub:ZM}{ab:Bool}{col:Option Bool}{dd:ZP}{k0 k1 k2 k3 k5:ZT}{B newId initId:String}
end
end EX
namespace EX
open PySem Builtin Builtin.ObjectAttr
section
variable{prog:Program}{w:World}{A:Around}{E:ZW}{s:Shared}{x C:Addr}{o:Obj}{name:Str}{v:Value}
end
section
variable{prog:Program}{w:World}{A:Around}{E:ZW}{s:Shared}{x C dx:Addr}{o:Obj}{name:Str}{v:Value}{mA:ZV}{vs:ZN}
end
end EX
namespace EX
open PySem
section
variable{prog:Program}{w:World}{A:Around}{E:ZW}{h:Heap}{g:Array GenState}{d:Drawn}{t:Nat}{os:OsState}
variable{nm q:Str}{C N:Addr}{bs bm bmB:ZM}{hdct:Bool}{sn:ZD}{sub:ZM}{ab:Bool}{col:Option Bool}{dd:ZP}{k0 k1 k2 k3 k5:ZT}{B newId initId:String}
end
end EX
namespace EX
open PySem PySem.W Builtin Builtin.ObjectAttr
section
variable{prog:Program}{w:World}{A:Around}{E:ZW}{s:Shared}{x C:Addr}{o:Obj}{od:Option Obj}{K:Frag}
end
end EX
namespace L2
open PySem PySem.Spec PyProof.Rows
section
variable{P:Program}{w:World}{H:Hp}{h:Heap}{a C:Addr}{od:ZP}{new:Bool}{fs:List (Str×V)}
end
section
variable{K:W.Frag}{C x:Addr}{M:Model}{h:Heap}{f:Str}{o:Obj}
end
section
variable{X:Cx}{XM:ZY}{Z:St}{H:Hp}{s:Shared}{h':Heap}{t':Nat}
end
section
variable{X:Cx}{o e value:Expr}{f:Str}{pos pos':Pos}{ta tv:TE}
end
section
variable{X:Cx}{CX:qm}{k:Nat}{f C:Addr}{fd:FuncData}{ps:ZD}{sp:Sp}{E:XK}{x m:Str}{p pos:Pos}{e:Expr}{es:ZC}{t:TA}
end
section
variable{X:Cx}{XM pn:ZY}{Z:St}{H:Hp}{s:Shared}{e:Addr}{W:St->Hp->Addr->Addr->ZP->Prop}
end
section
variable{X:Cx}{XM:ZY}{Z:St}{H:Hp}{s:Shared}
end
section
variable{X:Cx}{W:St->Hp->Addr->Addr->ZP->Prop}
end
section
variable{X:Cx}
end
section
variable{X:Cx}
end
end L2
namespace EX
open PySem
section
variable{M:Model}{A:Around}{E:ZW}{s:Shared}{env:Env}{outer:List Env}{base:Heap}{L e T:Addr}{oe:Obj}{vs:ZN}{Q:ZO}
end
end EX
namespace L2
open PySem PySem.Spec PyProof.Rows
section
variable{X:Cx}{XM:ZY}{Z:St}{H:Hp}{s s':Shared}
end
section
variable{P:Program}{w:World}{K:W.Frag}{mg:ZV}{base:Heap}
end
section
variable{X:Cx}{W:XWT}{k:Nat}{x:Str}{ps:ZD}{sp:Sp}{p pos:Pos}{e:Expr}{es:ZC}{t:TA}{te:TE}
end
section
variable{X:Cx}{XM pn:ZY}{Z:St}{H:Hp}{s:Shared}{e:Addr}{W:XWT}
end
section
variable{X:Cx}
end
section
variable{X:Cx}
end
section
variable{X:Cx}{XM:ZY}{Z:St}{H:Hp}{s:Shared}
end
section
variable{X:Cx}{W:XWT}{k:Nat}{f C:Addr}{fd:FuncData}{m:Str}{ps:ZD}{sp:Sp}{o e:Expr}{es:ZC}{ta:TE}{t:TA}{p pos apos:Pos}
end
section
variable{X:Cx}
inductive U2(K:W.Frag)(xs:ZQ)(H:Hp)(Q:VK):Prop
 | mk(p ys)(Vz:xs=[.ref p])(Y9:(V0 K H p ys\/Y1 K H p ys))(U5:∀t H',Zn H H'->Y1 K H' t ys->Q (.ref t) H'):U2 K xs H Q
theorem Ca:Yb X (.type "tuple") (λxs H Q=>U2 X.K xs H Q):=by
 intro XM s Z H xs us Q I rs h;obtain⟨p,ys,e,h,q⟩:=h;refine Ra XM s Z H xs us Q I rs ⟨p,ys,e,?_⟩;rcases h with h | h
 .exact .inl ⟨h,λl hl=>q l _ (Zn.lay hl) (Y1.of Zx)⟩
 .exact .inr ⟨h,q p H (Zn.refl H) h⟩
end
theorem kc(x:Str)(is:List Nat):∀c∈(Str.mk (is.filterMap (x.cps[·]?)).toArray).cps.toList,c∈x.cps.toList:=λc m=>by
 have m:c∈is.filterMap (x.cps[·]?):=by simpa using m
 obtain⟨i,_,e⟩:=List.mem_filterMap.mp m;have:=Array.mem_of_getElem? e;exact Array.mem_toList_iff.mpr this
theorem ix_hi(l:ZR)(k n:Nat):(Builtin.Str.strSliceIndices l (some (k:Int)) 1 n).length<=k:=by
 unfold Builtin.Str.strSliceIndices sliceRange;cases l<;>simp only[show (1:Int)>0 by decide,if_true,Yc,XY]<;>(split<;>(try split)<;>(try split)<;>(try simp only[Int.ediv_one])<;>omega)
theorem vp(x:Str)(l:ZR)(k:Nat):(Txt.slice x l (some (k:Int))).length<=k:=by
 have h:=ix_hi l k x.length;unfold Txt.slice
 split
 .rename_i c
  simp only[Y8,beq_iff_eq]at c;omega
 .show (List.filterMap _ (Builtin.Str.strSliceIndices l (some (k:Int)) 1 x.length)).toArray.size<=k;rw[Jh];exact D0 (List.length_filterMap_le _ _) h
theorem Xu(x:Str)(l u:ZR):∀c∈(Txt.slice x l u).cps.toList,c∈x.cps.toList:=by
 unfold Txt.slice
 split
 .exact λ_ m=>m
 .exact kc x _
section
variable{X:Cx}{e:Expr}{te t1 t2:TE}{p2 p3 p4 pos:Pos}{j1:Nat}
end
section
variable{Z:Type}[DecidableEq Z]
noncomputable def G0(XD:List (Z×V))(k:Z):Option V:=(XD.find? λkv=>decide (kv.1=k)).map (·.2)
noncomputable def putK(XD:List (Z×V))(k:Z)(v:V):List (Z×V) :=
 if (XD.any λkv=>decide (kv.1=k))=true then XD.map (λkv=>if kv.1=k then (kv.1,v) else kv) else XD++[(k,v)]
noncomputable def Zqk(XD:List (Z×V))(k:Z):List (Z×V):=XD.filter λkv=>decide (kv.1≠k)
theorem Mz{p:Z×V}{r:List (Z×V)}{k:Z}(e:p.1=k):G0 (p::r) k=some p.2:=by simp[G0,List.find?_cons,e]
theorem Mx{p:Z×V}{r:List (Z×V)}{k:Z}(e:¬ p.1=k):G0 (p::r) k=G0 r k:=by simp[G0,List.find?_cons,e]
theorem Qb(k:Z):∀XD:List (Z×V),(XD.any λkv=>decide (kv.1=k))=(G0 XD k).isSome
 | []=>rfl
 | p::r=>by
  rw[List.any_cons];by_cases e:p.1=k
  .simp only[Mz e,Gn e,Bool.true_or,Option.isSome_some]
  .rw[Mx e,Gr e,Bool.false_or];exact Qb k r
theorem V3(XD:List (Z×V))(k:Z)(v:V):(putK XD k v).length<=XD.length+1:=by
 unfold putK
 split
 .rw[Yc];omega
 .rw[Qw,B9,List.length_nil];omega
theorem N7.isSome_eq{o:Option V}{u:ZT}(r:N7 o u):o.isSome=u.isSome:=by
 cases o with
 | none=>cases u with
  | none=>rfl
  | some _=>exact(show False from r).elim
 | some _=>cases u with
  | none=>exact(show False from r).elim
  | some _=>rfl
theorem N7.getD{o:Option V}{u:ZT}{d:V}{d':Value}(r:N7 o u)(rd:RelV d d'):RelV (o.getD d) (u.getD d'):=by
 cases o with
 | none=>cases u with
  | none=>exact rd
  | some _=>exact(show False from r).elim
 | some _=>cases u with
  | none=>exact(show False from r).elim
  | some _=>exact r
theorem KV.val{XD:List (Z×V)}{vs:List (Z×Value)}(r:KV XD vs)(k:Z):N7 (G0 XD k) (valueAt vs k):=by
 unfold KV at r
 induction r with
 | nil=>exact True.intro
 | @cons p q ps qs h t ih =>
  obtain⟨h1,h2⟩:=h;by_cases e:p.1=k
  .have e':q.1=k:=h1.symm.trans e;have b:valueAt (q::qs) k=some q.2:=by simp[valueAt,List.find?_cons,e']
   rw[Mz e,b];exact h2
  .have e':¬ q.1=k:=λz=>e (h1.trans z);have b:valueAt (q::qs) k=valueAt qs k:=by simp[valueAt,List.find?_cons,e']
   rw[Mx e,b];exact ih
theorem KV.any{XD:List (Z×V)}{vs:List (Z×Value)}(r:KV XD vs)(k:Z):(XD.any λkv=>decide (kv.1=k))=vs.any λkv=>decide (kv.1=k):=by
 unfold KV at r
 induction r with
 | nil=>rfl
 | cons h t ih=>rw[List.any_cons,List.any_cons,ih,h.1]
theorem KV.repl{XD:List (Z×V)}{vs:List (Z×Value)}(r:KV XD vs)(k:Z){y:V}{u:Value}(ry:RelV y u) :
  KV (XD.map λkv=>if kv.1=k then (kv.1,y) else kv) (vs.map λkv=>if kv.1=k then (kv.1,u) else kv):=by
 unfold KV at r ⊢
 induction r with
 | nil=>exact .nil
 | @cons p q ps qs h t ih =>
  rw[D2,D2];refine .cons ?_ ih;obtain⟨h1,h2⟩:=h;by_cases e:p.1=k
  .rw[if_pos e,if_pos (h1.symm.trans e)];exact⟨h1,ry⟩
  .rw[if_neg e,if_neg (λz=>e (h1.trans z))];exact⟨h1,h2⟩
theorem KV.put{XD:List (Z×V)}{vs:List (Z×Value)}(r:KV XD vs)(k:Z){y:V}{u:Value}(ry:RelV y u):KV (putK XD k y) (stored vs k u):=by
 unfold putK stored;rw[r.any k];by_cases e:(vs.any λkv=>decide (kv.1=k))=true
 .rw[if_pos e,if_pos e];exact r.repl k ry
 .rw[if_neg e,if_neg e];exact Paired.snoc r ⟨rfl,ry⟩
theorem KV.drop{XD:List (Z×V)}{vs:List (Z×Value)}(r:KV XD vs)(k:Z):KV (Zqk XD k) (without vs k):=by
 unfold KV at r ⊢;unfold Zqk without
 induction r with
 | nil=>exact .nil
 | @cons p q ps qs h t ih =>
  obtain⟨h1,h2⟩:=h;rw[List.filter_cons,List.filter_cons];by_cases e:p.1=k
  .have a:¬ decide (p.1≠k)=true:=by simp[e]
   have b:¬ decide (q.1≠k)=true:=by simp[h1.symm.trans e]
   rw[if_neg a,if_neg b];exact ih
  .have e':¬ q.1=k:=λz=>e (h1.trans z);have a:decide (p.1≠k)=true:=by simp[e]
   have b:decide (q.1≠k)=true:=by simp[e']
   rw[if_pos a,if_pos b];exact .cons ⟨h1,h2⟩ ih
theorem KV.keys{XD:List (Z×V)}{vs:List (Z×Value)}(r:KV XD vs):XD.map (·.1)=vs.map (·.1):=by
 unfold KV at r
 induction r with
 | nil=>rfl
 | cons h t ih=>rw[D2,D2,ih,h.1]
theorem KV.length{XD:List (Z×V)}{vs:List (Z×Value)}(r:KV XD vs):XD.length=vs.length:=Paired.length r
end
theorem By{P:Program}{w:World}{k:Key}{u:Value}(r:RelV (kV k) u):(Zd P w).is k u=true:=by
 cases k with
 | inl i=>obtain⟨t,e⟩:=(show ∃t,u=Value.int i t from r);subst e;exact Pb P w i t
 | inr x=>obtain⟨t,e⟩:=(show ∃t,u=Value.str x t from r);subst e;exact Pf P w x t
theorem Wb{P:Program}{w:World}:∀{ks:List Key} {us:ZM},Zf (ks.map kV) us->ItemsAre (Zd P w) ks us
 | [],_,r=>by rw[List.map_nil]at r;cases r;exact .nil
 | k::ks,_,r=>by
  rw[D2]at r;cases r with
  | cons h t=>exact .cons (By h) (Wb t)
abbrev KT(H:Hp):List (List Key×V)->List (List Key×Addr×Value)->Prop:=Paired λp q=>p.1=q.1/\H q.2.1=some (.tup (p.1.map kV))/\RelV p.2 q.2.2
theorem KT.val{H:Hp}{XD:List (List Key×V)}{xs:List (List Key×Addr×Value)}(r:KT H XD xs)(k:List Key):N7 (G0 XD k) ((atKey xs k).map (·.2)):=by
 induction r with
 | nil=>exact True.intro
 | @cons p q ps qs h t ih =>
  obtain⟨h1,_,h2⟩:=h;by_cases e:p.1=k
  .have e':q.1=k:=h1.symm.trans e;have b:atKey (q::qs) k=some q.2:=by simp[atKey,List.find?_cons,e']
   rw[Mz e,b];exact h2
  .have e':¬ q.1=k:=λz=>e (h1.trans z);have b:atKey (q::qs) k=atKey qs k:=by simp[atKey,List.find?_cons,e']
   rw[Mx e,b];exact ih
theorem KT.repl{H:Hp}{XD:List (List Key×V)}{xs:List (List Key×Addr×Value)}(r:KT H XD xs)(k:List Key){y:V}{u:Value}(ry:RelV y u) :
  KT H (XD.map λkv=>if kv.1=k then (kv.1,y) else kv) (xs.map (putAt k u)):=by
 induction r with
 | nil=>exact .nil
 | @cons p q ps qs h t ih =>
  rw[D2,D2];refine .cons ?_ ih;obtain⟨h1,h2,h3⟩:=h;unfold putAt;by_cases e:p.1=k
  .rw[if_pos e,if_pos (h1.symm.trans e)];exact⟨h1,h2,ry⟩
  .rw[if_neg e,if_neg (λz=>e (h1.trans z))];exact⟨h1,h2,h3⟩
theorem KT.put{H:Hp}{XD:List (List Key×V)}{xs:List (List Key×Addr×Value)}(r:KT H XD xs)(k:List Key){b:Addr}{y:V}{u:Value}(hb:H b=some (.tup (k.map kV)))(ry:RelV y u) :
  KT H (putK XD k y) (storedH xs k b u):=by
 have e:(XD.any λkv=>decide (kv.1=k))=(atKey xs k).isSome:=by
  rw[Qb,(r.val k).isSome_eq,Option.isSome_map]
 unfold putK storedH;rw[e];by_cases q:(atKey xs k).isSome=true
 .rw[if_pos q,if_pos q];exact r.repl k ry
 .rw[if_neg q,if_neg q];exact Paired.snoc r ⟨rfl,hb,ry⟩
theorem KT.keeps{H H':Hp}{XD:List (List Key×V)}{xs:List (List Key×Addr×Value)}(r:KT H XD xs)(ht:∀b ys,H b=some (.tup ys)->H' b=some (.tup ys)):KT H' XD xs :=
 Paired.mapP r λ_ _ z=>⟨z.1,ht _ _ z.2.1,z.2.2⟩
section
variable{P:Program}{w:World}{H:Hp}{h:Heap}{a:Addr}
theorem rd_of{u:HO}(ok:D3 P w H h)(e:Rd H a u):Zp P w H h a u:=e.ok ok
theorem Jr{XD:List (Key×V)}(ok:D3 P w H h)(e:Rd H a (.dK XD)):XD.length<=sizeLine/\(a==sysModules)=false/\∃vs,KV XD vs/\h.DictOf (Zd P w) a vs :=
 show Zp P w H h a (.dK XD) from rd_of ok e
theorem dk_of{XD:List (Key×V)}(ok:D3 P w H h)(e:H a=some (.dK XD)):XD.length<=sizeLine/\(a==sysModules)=false/\∃vs,KV XD vs/\h.DictOf (Zd P w) a vs:=Jr ok (.inl e)
theorem Di{ks:List Key}(ok:D3 P w H h)(e:H a=some (.tup (ks.map kV))):(tupleKind (Zd P w)).is h ks a:=by
 obtain⟨_,XT,r,o,h1,h2,⟨n,h3⟩,_⟩:=(show Zp P w H h a (.tup (ks.map kV)) from ok a _ e);exact⟨o,XT.toArray,n,h1,h2,h3,by simpa using Wb r⟩
theorem Bk{XD:List (List Key×V)}(ok:D3 P w H h)(e:Rd H a (.dT XD)):XD.length<=sizeLine/\(a==sysModules)=false /\
  ∃xs,KT H XD xs/\h.DictOfH (tupleKind (Zd P w)) a xs:=by
 obtain⟨z,y,xs,r,o,es,ep,h1,h2,h3,h4,h5⟩:=(show Zp P w H h a (.dT XD) from rd_of ok e);refine⟨z,y,xs,r,o,es,ep,h1,h2,h3,h4,λx hx=>?_,h5⟩
 have all:∀{l:List (List Key×V)} {m:List (List Key×Addr×Value)},KT H l m->∀x∈m,(tupleKind (Zd P w)).is h x.1 x.2.1:=by
  intro l m q
  induction q with
  | nil=>intro x hx;exact nomatch hx
  | @cons p q ps qs hq t ih =>
   intro x hx;rcases Yf.mp hx with e | hx
   .subst e;exact Di ok (by rw[<-hq.1];exact hq.2.1)
   .exact ih x hx
 exact all r x hx
theorem dt_of{XD:List (List Key×V)}(ok:D3 P w H h)(e:H a=some (.dT XD)):XD.length<=sizeLine/\(a==sysModules)=false /\
  ∃xs,KT H XD xs/\h.DictOfH (tupleKind (Zd P w)) a xs:=Bk ok (.inl e)
end
def Ng(H:Hp)(a:Addr)(y:V)(r:Option V):Prop :=
 (∃XD k,Rd H a (.dK XD)/\y=kV k/\r=G0 XD k)\/∃XD k b,Rd H a (.dT XD)/\y=.ref b/\H b=some (.tup (k.map kV))/\r=G0 XD k
def K6(H:Hp)(a:Addr)(y v:V)(H':Hp):Prop :=
 (∃XD k,H a=some (.dK XD)/\y=kV k/\XD.length<sizeLine/\H'=upd H a (.dK (putK XD k v))) \/
 ∃XD k b,H a=some (.dT XD)/\y=.ref b/\H b=some (.tup (k.map kV))/\XD.length<sizeLine/\H'=upd H a (.dT (putK XD k v))
theorem Ng.k{H:Hp}{a:Addr}{XD:List (Key×V)}{k:Key}(e:H a=some (.dK XD)):Ng H a (kV k) (G0 XD k):=.inl ⟨XD,k,.inl e,rfl,rfl⟩
theorem Ng.t{H:Hp}{a b:Addr}{XD:List (List Key×V)}{k:List Key}(e:H a=some (.dT XD))(eb:H b=some (.tup (k.map kV))):Ng H a (.ref b) (G0 XD k):=.inr ⟨XD,k,b,.inl e,rfl,eb,rfl⟩
theorem K6.k{H:Hp}{a:Addr}{XD:List (Key×V)}{k:Key}{v:V}(e:H a=some (.dK XD))(hl:XD.length<sizeLine):K6 H a (kV k) v (upd H a (.dK (putK XD k v))):=.inl ⟨XD,k,e,rfl,hl,rfl⟩
theorem K6.t{H:Hp}{a b:Addr}{XD:List (List Key×V)}{k:List Key}{v:V}(e:H a=some (.dT XD))(eb:H b=some (.tup (k.map kV)))(hl:XD.length<sizeLine) :
  K6 H a (.ref b) v (upd H a (.dT (putK XD k v))):=.inr ⟨XD,k,b,e,rfl,eb,hl,rfl⟩
section
variable{X:Cx}{XM:ZY}{Z:St}{H:Hp}{s:Shared}{a:Addr}{y v:V}{u r:Value}{o:Option V}{A:Around}{E:ZW}
theorem Inv.big(I:Inv X XM Z H s):sysModules<s.heap.objs.size:=by
 have h:mainGlobals<s.heap.objs.size:=(I.mod.glob.keeps I.bk).lt;exact Nat.lt_trans XA h
theorem xt{Q:ZW}(hu:A.units+1<cLine)(I:Inv X XM Z H s)(g:Ng H a y (some v))(ry:RelV y u)(h:∀w' s',Inv X XM Z H s'->RelV v w'->Q w' s') :
  wpAny (model X.prog X.w) A (getItem (.ref a) u) Q E s:=by
 rcases g with ⟨XD,k,e,ey,l⟩ | ⟨XD,k,b,e,ey,eb,l⟩
 .subst ey;obtain⟨z,hd,vs,rel,dd⟩:=Jr I.hok e;obtain⟨w',hw,Ly⟩:=N7.some_of (v:=v) (o:=valueAt vs k) (by rw[l];exact rel.val k);exact wpAny_getItem_of (By ry) dd.mapOf hw (h w' _ (I.tok _) Ly)
 .subst ey;cases(show u=Value.ref b from ry);obtain⟨z,hd,xs,rel,dd⟩:=Bk I.hok e;obtain⟨w',hw,Ly⟩:=N7.some_of (v:=v) (o:=(atKey xs k).map (·.2)) (by rw[l];exact rel.val k);obtain⟨p,hp,hp2⟩:=Yx.mp hw;refine wpAny_getItem_heap (tupleKind_room_in1 hu) (Di I.hok eb) dd hp ?_;rw[hp2];exact h w' _ (I.tok _) Ly
theorem d_in{Q:ZW}(hu:A.units+1<cLine)(I:Inv X XM Z H s)(g:Ng H a y o)(ry:RelV y u)(h:∀s',Inv X XM Z H s'->Q (.bool o.isSome) s') :
  wpAny (model X.prog X.w) A (compareOp .In u (.ref a)) Q E s:=by
 rcases g with ⟨XD,k,e,ey,l⟩ | ⟨XD,k,b,e,ey,eb,l⟩
 .subst ey;obtain⟨z,hd,vs,rel,dd⟩:=Jr I.hok e;refine wpAny_in_of (By ry) hd dd.mapOf ?_;rw[<-(rel.val k).isSome_eq, <-l];exact h _ (I.tok _)
 .subst ey;cases(show u=Value.ref b from ry);obtain⟨z,hd,xs,rel,dd⟩:=Bk I.hok e;refine wpAny_in_heap (tupleKind_room_in1 hu) (Di I.hok eb) hd dd ?_;have q:=(rel.val k).isSome_eq;rw[Option.isSome_map]at q;rw[<-q, <-l];exact h _ (I.tok _)
theorem Zz2{Q:ZW}(hu:A.units+1<cLine)(I:Inv X XM Z H s)(g:Ng H a y o)(ry:RelV y u)(h:∀s',Inv X XM Z H s'->Q (.bool (!o.isSome)) s') :
  wpAny (model X.prog X.w) A (compareOp .NotIn u (.ref a)) Q E s:=by
 rcases g with ⟨XD,k,e,ey,l⟩ | ⟨XD,k,b,e,ey,eb,l⟩
 .subst ey;obtain⟨z,hd,vs,rel,dd⟩:=Jr I.hok e;refine wpAny_notIn_of (By ry) hd dd.mapOf ?_;rw[<-(rel.val k).isSome_eq, <-l];exact h _ (I.tok _)
 .subst ey;cases(show u=Value.ref b from ry);obtain⟨z,hd,xs,rel,dd⟩:=Bk I.hok e;refine wpAny_notIn_heap (tupleKind_room_in1 hu) (Di I.hok eb) hd dd ?_;have q:=(rel.val k).isSome_eq;rw[Option.isSome_map]at q;rw[<-q, <-l];exact h _ (I.tok _)
theorem Ia{h':Heap}{t':Nat}{ob:HO}(I:Inv X XM Z H s)(mu:Mut (H a))(hs:Heap.SameBut a s.heap h')(he:∃q,h'.get? a=some q)(new:Zp X.prog X.w (upd H a ob) h' a ob) :
  Inv X XM Z (upd H a ob) { s with heap:=h',toks:=t' } :=
 I.write (x:=a) (e:=a) mu (.inl rfl) (λb q hb z=>(hs.2 b hb).trans z) he new
theorem Kj{P:Program}{w:World}{H':Hp}{h':Heap}{XD:List (Key×V)}{vs:List (Key×Value)}(z:XD.length<=sizeLine)(hd:(a==sysModules)=false)(rel:KV XD vs)(dd:h'.DictOf (Zd P w) a vs) :
  Zp P w H' h' a (.dK XD):=⟨z,hd,vs,rel,dd⟩
theorem xm{H':Hp}{Q:ZO}(hu:A.units+1<cLine)(I:Inv X XM Z H s)(g:K6 H a y v H')(ry:RelV y u)(rv:RelV v r)(h:∀s',Inv X XM Z H' s'->Q () s') :
  wpAny (model X.prog X.w) A (setItem (.ref a) u r) Q E s:=by
 rcases g with ⟨XD,k,e,ey,l,eH⟩ | ⟨XD,k,b,e,ey,eb,l,eH⟩
 .subst ey eH;obtain⟨z,hd,vs,rel,dd⟩:=dk_of I.hok e;have hz:vs.length<=sizeLine:=by rw[<-rel.length];exact z
  have hl:(putK XD k v).length<=sizeLine:=by have:=V3 XD k v;omega
  refine wpAny_setItem_pairs (hsz:=hz) (By ry) dd λh' dd' hs=>h _ ?_;have he:∃q,h'.get? a=some q:=let ⟨q,_,_,hq,_⟩:=dd';⟨q,hq⟩;exact Ia I (by rw[e];exact True.intro) hs he (Kj hl hd (rel.put k rv) dd')
 .subst ey eH;cases(show u=Value.ref b from ry);obtain⟨z,hd,xs,rel,dd⟩:=dt_of I.hok e;have hz:xs.length<=sizeLine:=by rw[<-Paired.length rel];exact z
  have hl:(putK XD k v).length<=sizeLine:=by have:=V3 XD k v;omega
  refine wpAny_setItem_heap (hsz:=hz) (tupleKind_room_in1 hu) (Di I.hok eb) dd λh' dd' hs=>h _ ?_;obtain⟨q,es,ep,hq,h2,h3,h4,_,h5⟩:=dd';refine Ia I (by rw[e];exact True.intro) hs ⟨q,hq⟩ ⟨hl,hd,_,(rel.put k eb rv).keeps λc ys ec=>?_,q,es,ep,hq,h2,h3,h4,h5⟩;rw[Zz (ne_of ec e (λz=>nomatch z))];exact ec
end
section
variable{X:Cx}{XM:ZY}{Z:St}{H:Hp}{s:Shared}{a:Addr}{XD:List (Key×V)}{k:Key}{u:Value}{A:Around}{E:ZW}
theorem d_len{Q:ZW}(I:Inv X XM Z H s)(e:Rd H a (.dK XD))(h:∀t s',Inv X XM Z H s'->Q (.int XD.length t) s'):wpAny (model X.prog X.w) A (call (.builtin "len") [.ref a]) Q E s:=by
 obtain⟨z,hd,vs,rel,dd⟩:=Jr I.hok e;refine call_len_dict hd dd (by rw[<-rel.length];rw[sizeLine_eq]at z;omega) ?_;rw[<-rel.length];exact h _ _ (I.tok _)
end
theorem Ow{X:Cx}{XM:ZY}{Z:St}{H:Hp}{s:Shared}{a:Addr}{y:V}{o:Option V}(I:Inv X XM Z H s)(g:Ng H a y o):s.TypeIs (.ref a) "dict" := by
 rcases g with ⟨XD,k,e,_,_⟩ | ⟨XD,k,b,e,_,_,_⟩
 .obtain⟨_,_,vs,_,dd⟩:=Jr I.hok e;exact dd.typeIs
 .obtain⟨_,_,xs,_,dd⟩:=Bk I.hok e;exact dd.typeIs
inductive H0(D:Ends)(Z:St)(v:V)(x:V)(y:V)(H3:Hp):Prop
 | mk(a H4)(Vz:x=.ref a)(Y9:K6 H3 a y v H4)(U5:D.nx Z H4):H0 D Z v x y H3
def sDPut(td ty tv:TE):TS:=λD Z H=>tv Z H λv H1=>td Z H1 λx H2=>ty Z H2 λy H3=>H0 D Z v x y H3
section
variable{X:Cx}{o i e value:Expr}{pos pos' tpos:Pos}{td ty tv:TE}
theorem aa(hu:X.A.units+1<cLine)(ho:PE X o td)(hi:PE X i ty)(hv:PE X value tv)(hs:swapsWith value (some (.Subscript o i pos')) pos.line X.env=pure false) :
  PS X (.Assign [.Subscript o i pos'] value pos) (sDPut td ty tv):=by
 intro XM s Z H D I h;refine wpAny_Assign_Subscript (Z5 (hv XM s Z H _ I h) λr s1 ⟨v,H1,I1,rv,q1⟩=>Z5 (ho XM s1 Z H1 _ I1 q1) λu s2 ⟨x,H2,I2,rx,q2⟩=>Z5 (hi XM s2 Z H2 _ I2 q2) λiv s3 ⟨y,H3,I3,ry,a,H4,ex,g,q3⟩=>?_) hs;subst ex;obtain rfl:u=Value.ref a:=rx;exact xm hu I3 g ry rv λs4 I4=>⟨Z,H4,I4,q3⟩
end
theorem t5{P:Program}{w:World}{H:Hp}(h:Heap)(hb:sysModules<h.objs.size):Zp P w H (h.push { cls:=.type "dict",data:=.dict #[] }) h.objs.size (.dK []) :=
 ⟨B0 _,qd.mpr (Ne.symm (Dz hb)),[],.nil,Heap.DictOf.new h⟩
def tDNewK:TE:=λ_ H Q=>∀p,H p=none->Q (.ref p) (upd H p (.dK []))
section
variable{X:Cx}{pos:Pos}
theorem gw:PE X (.Dict [] [] pos) tDNewK:=λXM s Z H Q I h =>
 wpAny_Dict_empty ⟨.ref s.heap.objs.size,_,I.laid (a:=s.heap.objs.size) (o:=.dK []) (t':=s.toks) (λ_ _ q=>Yn _ q) (Yk _) (t5 s.heap I.big),rfl,h _ (I.hok.fresh (Yk _))⟩
end
structure M1(X:Cx)(o:Expr)(m:Str)(apos:Pos)(e:Expr)(cpos:Pos):Prop where
 base:attributeBase o m X.env (eval o X.env)=eval o X.env
 few:((backTo cpos (starEach [e] X.env)).all (λx=>!x.1)&&(backToKw cpos (keywordEach [] X.env)).all (λx=>x.1.isSome)
  && decide (([e]:ZC).length+([]:List Keyword).length+(if ([]:List Keyword).isEmpty then 0 else 1)<30))=true
 line:(apos.endLine==cpos.line)=true
 trees:backTo cpos (starEach [e] X.env)=[(false,eval e X.env)]
structure M2(X:Cx)(o:Expr)(m:Str)(apos:Pos)(e f:Expr)(cpos:Pos):Prop where
 base:attributeBase o m X.env (eval o X.env)=eval o X.env
 few:((backTo cpos (starEach [e,f] X.env)).all (λx=>!x.1)&&(backToKw cpos (keywordEach [] X.env)).all (λx=>x.1.isSome)
  && decide (([e,f]:ZC).length+([]:List Keyword).length+(if ([]:List Keyword).isEmpty then 0 else 1)<30))=true
 line:(apos.endLine==cpos.line)=true
 trees:backTo cpos (starEach [e,f] X.env)=[(false,eval e X.env),(false,eval f X.env)]
def nh(H:Hp)(a:Addr):Prop:=(∃XD,Rd H a (.dK XD))\/∃XD,Rd H a (.dT XD)
theorem Cq{X:Cx}{XM:ZY}{Z:St}{H:Hp}{s:Shared}{a:Addr}(I:Inv X XM Z H s)(d:nh H a) :
  s.TypeIs (.ref a) "dict" /\ (∀b,Value.ref a=.ref b->∃ob,s.heap.get? b=some ob/\ob.dict=none)/\(a==sysModules)=false:=by
 rcases d with ⟨XD,e⟩ | ⟨XD,e⟩
 .obtain⟨_,hd,vs,_,dd⟩:=Jr I.hok e;refine⟨dd.typeIs,λb q=>?_,hd⟩;cases q;obtain⟨ob,_,_,h1,h2,_⟩:=dd;exact⟨ob,h1,h2.2.1⟩
 .obtain⟨_,hd,xs,_,dd⟩:=Bk I.hok e;refine⟨dd.typeIs,λb q=>?_,hd⟩;cases q;obtain⟨ob,_,_,h1,h2,_⟩:=dd;exact⟨ob,h1,h2.2.1⟩
section
variable{X:Cx}{XM:ZY}{Z:St}{H:Hp}{s:Shared}{a:Addr}{y d:V}{u r:Value}{o:Option V}{A:Around}{E:ZW}
theorem d_get1{Q:ZW}(hu:A.units+1<cLine)(I:Inv X XM Z H s)(g:Ng H a y o)(ry:RelV y u)(h:∀w' s',Inv X XM Z H s'->RelV (o.getD .non) w'->Q w' s') :
  wpAny (model X.prog X.w) A (call (.builtin "dict.get") [.ref a,u]) Q E s:=by
 rcases g with ⟨XD,k,e,ey,l⟩ | ⟨XD,k,b,e,ey,eb,l⟩
 .subst ey;obtain⟨z,hd,vs,rel,dd⟩:=Jr I.hok e;refine call_meetsIn PySem.F.slot_dict_get dd.typeIs PySem.F.entry_dict_get (PySem.F.args_dict_get_2 _ _) (meets_dict_get (Zd X.prog X.w) a (By ry) hd) ⟨_,dd.mapOf,h _ _ (I.tok _) ?_⟩;rw[l];exact(rel.val k).getD rfl
 .subst ey;cases(show u=Value.ref b from ry);obtain⟨z,hd,xs,rel,dd⟩:=Bk I.hok e;refine call_meetsIn PySem.F.slot_dict_get dd.typeIs PySem.F.entry_dict_get (PySem.F.args_dict_get_2 _ _) (meetsH_dict_get (tupleKind (Zd X.prog X.w)) a b hd) ⟨tupleKind_room_in1 hu,k,xs,Di I.hok eb,dd,h _ _ (I.tok _) ?_⟩;rw[l];exact(rel.val k).getD rfl
theorem d_get2{Q:ZW}(hu:A.units+1<cLine)(I:Inv X XM Z H s)(g:Ng H a y o)(ry:RelV y u)(rd:RelV d r)(h:∀w' s',Inv X XM Z H s'->RelV (o.getD d) w'->Q w' s') :
  wpAny (model X.prog X.w) A (call (.builtin "dict.get") [.ref a,u,r]) Q E s:=by
 rcases g with ⟨XD,k,e,ey,l⟩ | ⟨XD,k,b,e,ey,eb,l⟩
 .subst ey;obtain⟨z,hd,vs,rel,dd⟩:=Jr I.hok e;refine call_meetsIn PySem.F.slot_dict_get dd.typeIs PySem.F.entry_dict_get (PySem.F.args_dict_get_3 _ _ _) (meets_dict_get_default (Zd X.prog X.w) a (By ry) hd r) ⟨_,dd.mapOf,h _ _ (I.tok _) ?_⟩;rw[l];exact(rel.val k).getD rd
 .subst ey;cases(show u=Value.ref b from ry);obtain⟨z,hd,xs,rel,dd⟩:=Bk I.hok e;refine call_meetsIn PySem.F.slot_dict_get dd.typeIs PySem.F.entry_dict_get (PySem.F.args_dict_get_3 _ _ _) (meetsH_dict_get_default (tupleKind (Zd X.prog X.w)) a b hd r) ⟨tupleKind_room_in1 hu,k,xs,Di I.hok eb,dd,h _ _ (I.tok _) ?_⟩;rw[l];exact(rel.val k).getD rd
end
inductive Ql(ty:TE)(Z:St)(Q:VK)(x:V)(H1:Hp):Prop
 | mk(a)(Vz:x=.ref a)(Y9:nh H1 a)(U5:ty Z H1 λy H2=>∃o,Ng H2 a y o/\Q (o.getD .non) H2):Ql ty Z Q x H1
def tDGet1(td ty:TE):TE:=λZ H Q=>td Z H λx H1=>Ql ty Z Q x H1
inductive Qn(ty:TE)(tx:TE)(Z:St)(Q:VK)(x:V)(H1:Hp):Prop
 | mk(a)(Vz:x=.ref a)(Y9:nh H1 a)(U5:ty Z H1 λy H2=>tx Z H2 λz H3=>∃o,Ng H3 a y o/\Q (o.getD z) H3):Qn ty tx Z Q x H1
def tDGet2(td ty tx:TE):TE:=λZ H Q=>td Z H λx H1=>Qn ty tx Z Q x H1
section
variable{X:Cx}{o e f:Expr}{apos cpos:Pos}{td ty tx:TE}
theorem gy(hu:X.A.units+1<cLine)(ho:PE X o td)(he:PE X e ty)(m:M1 X o "get" apos e cpos):PE X (.Call (.Attribute o "get" apos) [e] [] cpos) (tDGet1 td ty):=by
 intro XM s Z H Q I h;refine wpAny_Call_method m.base m.few m.line PySem.F.plainAttrs_dict PySem.F.slot_dict_get PySem.F.type_dict_get (Z5 (ho XM s Z H _ I h) λu s1 ⟨x,H1,I1,rx,a,ex,d,q1⟩=>?_);subst ex;obtain rfl:u=Value.ref a:=rx;obtain⟨t1,t2,_⟩:=Cq I1 d;refine⟨t1,t2,?_⟩;rw[m.trees];refine Calls.callWith_builtin rfl (Calls.evalArgs_plain (Calls.spliced_cons (Z5 (he XM s1 Z H1 _ I1 q1) λiv s2 ⟨y,H2,I2,ry,ov,g,q2⟩=>Calls.spliced_nil ?_)));exact d_get1 hu I2 g ry λw' s3 I3 Ly=>⟨_,H2,I3,Ly,q2⟩
theorem gv(hu:X.A.units+1<cLine)(ho:PE X o td)(he:PE X e ty)(hf:PE X f tx)(m:M2 X o "get" apos e f cpos):PE X (.Call (.Attribute o "get" apos) [e,f] [] cpos) (tDGet2 td ty tx):=by
 intro XM s Z H Q I h;refine wpAny_Call_method m.base m.few m.line PySem.F.plainAttrs_dict PySem.F.slot_dict_get PySem.F.type_dict_get (Z5 (ho XM s Z H _ I h) λu s1 ⟨x,H1,I1,rx,a,ex,d,q1⟩=>?_);subst ex;obtain rfl:u=Value.ref a:=rx;obtain⟨t1,t2,_⟩:=Cq I1 d;refine⟨t1,t2,?_⟩;rw[m.trees]
 refine Calls.callWith_builtin rfl (Calls.evalArgs_plain (Calls.spliced_cons (Z5 (he XM s1 Z H1 _ I1 q1) λiv s2 ⟨y,H2,I2,ry,q2⟩ =>
  Calls.spliced_cons (Z5 (hf XM s2 Z H2 _ I2 q2) λfv s3 ⟨z,H3,I3,rz,ov,g,q3⟩=>Calls.spliced_nil ?_))))
 exact d_get2 hu I3 g ry rz λw' s4 I4 Ly=>⟨_,H3,I4,Ly,q3⟩
end
section
variable{X:Cx}{XM:ZY}{Z:St}{H:Hp}{s:Shared}{a:Addr}{XD:List (Key×V)}{A:Around}{E:ZW}
theorem t7{Q:ZW}(I:Inv X XM Z H s)(e:Rd H a (.dK XD))(h:∀p s',H p=none->Inv X XM Z (upd H p (.dK XD)) s'->Q (.ref p) s'):wpAny (model X.prog X.w) A (call (.type "dict") [.ref a]) Q E s:=by
 obtain⟨z,hd,vs,rel,dd⟩:=Jr I.hok e;refine kt_call_dict hd dd (by rw[<-rel.length];exact z) λh' dd' hs=>?_;refine h _ _ (I.hok.fresh (Yk _)) (I.laid (a:=s.heap.objs.size) (o:=.dK XD) (t':=s.toks) (λb q hq=>?_) (Yk _) (Kj z (qd.mpr (Ne.symm (Dz I.big))) rel dd'));exact(hs.2 b (Dz (Ye hq))).trans (Yn _ hq)
end
section
variable{X:Cx}{XM:ZY}{Z:St}{H:Hp}{s:Shared}{a:Addr}{y:V}{u:Value}{A:Around}{E:ZW}
end
section
variable{X:Cx}
end
section
variable{Z:Type}[DecidableEq Z]
end
section
variable{X:Cx}{XM:ZY}{Z:St}{H:Hp}{s:Shared}
theorem Inv.freeze{d:Addr}{XD:List (Key×V)}(I:Inv X XM Z H s)(e:H d=some (.dK XD)):∃o,s.heap.get? d=some o/\Inv X XM Z (upd H d (.frz o (.dK XD))) s:=by
 obtain⟨z,y,vs,r,o,es,ep,ho,c⟩:=(show Zp X.prog X.w H s.heap d (.dK XD) from I.hok d _ e)
 have ne:∀{b:Addr} {u:HO},H b=some u->(∀k,u≠.dK k)->b≠d:=λh n z=>by
  rw[z,e]at h;cases h;exact n _ rfl
 refine⟨o,ho,?_⟩;refine I.step (g':=s.gens) (d':=s.drawn) (t':=s.toks) (h':=s.heap) (ch:=[]) (λ_ z=>nomatch z) (λ_ _ _ _ _ h _=>h) (λ_ o _ _ _ h _=>⟨o.slots,h⟩) (λb _ _ _ n=>?_) (λ_ o _ h=>⟨o,h⟩) (λb xs h=>?_) (λb o u h=>?_) (λb ps h=>⟨#[],?_⟩) (λ_ h=>h) (λb u h=>?_) I.bare
 .rw[Zz (λz=>by rw[z,e]at n;cases n)];exact n
 .rw[Zz (ne h λ_ z=>nomatch z)];exact h
 .rw[Zz (ne h λ_ z=>nomatch z)];exact h
 .rw[Zz (ne h λ_ z=>nomatch z),h];simp
 .by_cases q:b=d
  .subst q;rw[Zx]at h;cases h;exact⟨ho,z,y,vs,r,o,es,ep,ho,c⟩
  .rw[Zz q]at h;refine(I.hok b u h).stay (λc v hc q=>q) (λc q=>?_) λc xs q=>?_
   .rw[Zz (ne q λ_ z=>nomatch z)];exact q
   .rw[Zz (ne q λ_ z=>nomatch z)];exact q
noncomputable def Itd(d:Addr)(o:Obj)(XD:List (Key×V)):It :=
 ⟨λi H=>i<XD.length/\H d=some (.frz o (.dK XD)),λi H v H'=>H'=H/\∃k x,XD[i]?=some (k,x)/\v=kV k,λi H=>XD.length<=i/\H d=some (.frz o (.dK XD))⟩
theorem at_of{d:Addr}{o:Obj}{XD:List (Key×V)}(I:Inv X XM Z H s)(e:H d=some (.frz o (.dK XD))):∃vs es ep,(d==sysModules)=false/\KV XD vs/\o.data=.dict es ep/\s.heap.DictAt (Zd X.prog X.w) d vs ep:=by
 obtain⟨ho,z,y,vs,r,o',es,ep,Rn,c⟩:=(show Zp X.prog X.w H s.heap d (.frz o (.dK XD)) from I.hok d _ e);rw[ho]at Rn;cases Rn;exact⟨vs,es,ep,y,r,c.2.1,o,es,ho,c⟩
theorem KV.at{Z:Type}:∀{XD:List (Z×V)} {vs:List (Z×Value)} {i:Nat} {k:Z} {x:V},KV XD vs->XD[i]?=some (k,x)->∃v,vs[i]?=some (k,v)
 | [],_,i,k,x,_,e=>by simp at e
 | a::XD,_,0,k,x,.cons h t,e=>by
  rename_i b bs
  simp at e;subst e;exact⟨b.2,by rw[show k=b.1 from h.1];rfl⟩
 | a::XD,_,i+1,k,x,.cons h t,e=>by
  obtain⟨v,e'⟩:=KV.at (i:=i) t (by simpa using e);exact⟨v,by simpa using e'⟩
theorem kV_rel{P:Program}{w:World}{k:Key}{u:Value}(h:(Zd P w).is k u=true):RelV (kV k) u:=by
 rcases Zi (show Bv k u=true from h) with ⟨j,t,rfl,rfl⟩ | ⟨x,t,rfl,rfl⟩
 .exact⟨t,rfl⟩
 .exact⟨t,rfl⟩
theorem Xt{P:Program}{w:World}{K:W.Frag}{tg:Expr}(d it:Addr)(o:Obj)(XD:List (Key×V))(es:Array DictEntry)(ep:Nat)(ho:o.data=.dict es ep) :
  Turn P w K tg (Itd d o XD) [it] it (λi h=>h.IsKeyIter it d i XD.length ep) where
 mem:=by simp
 obj:=λi h st b hb=>by
  have e:b=it:=by simpa using hb
  subst e;obtain⟨o,e,c,d⟩:=st;exact⟨o,e,λv z=>by rw[d]at z;cases z⟩
 keep:=λi h h' st k=>by
  obtain⟨o,e,c,d⟩:=st;exact⟨o,k it XI o e,c,d⟩
 item:=by
  intro X hP hw hK hc i XM s Z H E I hf st hg;subst hP hw hK;obtain⟨hi,hd⟩:=hg;obtain⟨vs,es',ep',y,r,e',m⟩:=at_of I hd;rw[ho]at e';cases e';obtain⟨f0,f1,f2,f3,f4,f5⟩:=hf it XI;obtain⟨v,hv⟩:=KV.at (i:=i) (k:=XD[i].1) (x:=XD[i].2) r (D4 hi);have ln:=r.length;refine wpAny_pyNext_dict_item (by rw[<-ln];exact st) m hv λkey h' hk Sy sb=>?_;have I1:Inv X XM Z H { s with heap:=h' }:=I.turned (t':=s.toks) (λb o hb e=>(sb.2 b hb).trans e) f0 f1 f3 f4 f5;obtain⟨oo,e,c,dd⟩:=id Sy;exact⟨key,rfl,P6 (s:={ s with heap:=h' }) e c dd XA ⟨kV XD[i].1,H,I1,kV_rel hk,⟨rfl,_,_,D4 hi,rfl⟩,by rw[ln];exact Sy,λb hb=>(hf b hb).1⟩⟩
 done:=by
  intro X hP hw hK hc i XM s Z H E I hf st hg;subst hP hw hK;obtain⟨hi,hd⟩:=hg;obtain⟨vs,es',ep',y,r,e',m⟩:=at_of I hd;rw[ho]at e';cases e';obtain⟨f0,f1,f2,f3,f4,f5⟩:=hf it XI;have ln:=r.length;exact wpAny_pyNext_dict_end (I.ok.hd hc) (by rw[<-ln];exact st) m (List.getElem?_eq_none XH) λh' eb=>⟨rfl,I.turned (t':=s.toks) (λb o hb e=>eb b o hb e) f0 f1 f3 f4 f5⟩
 self:=λ_ _ _ _ _ st h=>wpAny_pyIter_keyiter st h
inductive Dt(xs:ZQ)(H:Hp)(Q:VK):Prop
 | mk(a:Addr)(XD:List (Key×V))(Vz:xs=[.ref a])(Y9:Rd H a (.dK XD))(U5:∀p,H p=none->Q (.ref p) (upd H p (.dK XD))):Dt xs H Q
theorem Od:Yb X (.type "dict") (λxs H Q=>Dt xs H Q):=by
 intro XM s Z H xs us Q I r h;obtain⟨a,XD,rfl,e,q⟩:=h;obtain⟨u,rfl,rx⟩:=vals1 r;cases rx;exact t7 I e λp s' hp I'=>⟨.ref p,_,I',rfl,q p hp⟩
end
noncomputable def cellOf(H:Hp)(l:Addr):Option V:=match H l with
 | some (.lst (x::_))=>some x
 | _=>none
end L2
namespace ZipT
open PySem
theorem Vo{h h':Heap}{b i t:Addr}{k:Nat}(st:h.IsTupleIter i t k)(e:Heap.ExtBut b h h')(n:i≠b):h'.IsTupleIter i t k:=let ⟨o,ho,r⟩:=st;⟨o,e _ _ n ho,r⟩
theorem tupK{h h':Heap}{b t:Addr}{xs:ZN}(st:h.IsTuple t xs)(e:Heap.ExtBut b h h')(n:t≠b):h'.IsTuple t xs:=let ⟨o,ho,r⟩:=st;⟨o,e _ _ n ho,r⟩
section
variable{prog:Program}{w:World}{A:Around}{E:ZW}{s:Shared}{z TI TO i1 i2 t1 t2:Addr}{k:Nat}{xs ys:ZN}{x y a b:Value}
theorem itemT{Q:ZW}(D:ZipApart z TI TO i1 i2 t1 t2)(hz:IsZip s.heap z TI TO .none)(hI:IsPair s.heap TI (.ref i1) (.ref i2))(hO:IsPair s.heap TO a b)(j1:s.heap.IsTupleIter i1 t1 k)(j2:s.heap.IsTupleIter i2 t2 k)(p1:s.heap.IsTuple t1 xs)(p2:s.heap.IsTuple t2 ys)(hx:xs[k]?=some x)(hy:ys[k]?=some y)
  (q:∀h',IsZip h' z TI TO (rawInt s.heap.objs.size)->IsPair h' TO x y->h'.IsTupleIter i1 t1 (k+1)->h'.IsTupleIter i2 t2 (k+1)->IsPair h' s.heap.objs.size x y->h'.objs.size=s.heap.objs.size+1->(∀c o,c≠z->c≠TO->c≠i1->c≠i2->s.heap.get? c=some o->h'.get? c=some o)->Q (.ref s.heap.objs.size) { s with heap:=h' }) :
  wpAny (model prog w) A (Builtin.«zip.__next__» ⟨[.ref z],[]⟩) (λfin s'=>∃v,fin=.done (.ret v)/\Q v s') E s:=by
 show wpAny _ _ (field (.ref z) 2 >>= _) _ _ _;refine Zj (wpAny_field hz rfl (x:=.bool false) rfl ?_);show wpAny _ _ (field (.ref z) 3 >>= _) _ _ _;refine Zj (wpAny_field hz rfl (x:=.ref TI) rfl (Zj (wpAny_seqItems hI rfl ?_)));show wpAny _ _ (Builtin.SmallTypes.ownedTupleIsFree (.ref z) >>= _) _ _ _;refine Zj ?_;unfold Builtin.SmallTypes.ownedTupleIsFree;refine Zj (wpAny_field hz rfl (x:=.none) rfl (Zr ?_));simp only[if_true];refine Zj (wpAny_rule (Zj (wpAny_field hz rfl (x:=.ref TO) rfl ?_)));refine Zj (wpAny_setField_rec hz XI λg1 hz1 e1=>?_);replace hz1:IsZip g1 z TI TO .ellipsis:=hz1;refine Zj ?_;simp only[List.zipIdx_cons,List.zipIdx_nil,List.forIn_cons,List.forIn_nil];refine Zj (Zj (wpAny_onRaise ?_));show wpAny _ _ (Builtin.SmallTypes.nextOf (.ref i1) >>= _) _ _ _;refine Zj (EnuT.nextT (Vo j1 e1.extBut D.i1z) (tupK p1 e1.extBut D.l1z) hx λg2 j12 e2=>Zr ?_);have hO2:IsPair g2 TO a b:=e2.extBut _ _ D.TOi1 (e1.extBut _ _ D.TOz hO);refine Zj (wpAny_seqItems hO2 rfl (Zj (wpAny_updateSeq_pair hO2 λg3 hO3 e3=>?_)));replace hO3:IsPair g3 TO x b:=hO3;refine Zj (wpAny_letGo (Zr (Zj (Zj (wpAny_onRaise ?_)))));show wpAny _ _ (Builtin.SmallTypes.nextOf (.ref i2) >>= _) _ _ _;refine Zj (EnuT.nextT (Vo (Vo (Vo j2 e1.extBut D.i2z) e2.extBut D.i12.symm) e3.extBut D.TOi2.symm) (tupK (tupK (tupK p2 e1.extBut D.l2z) e2.extBut D.l2i1) e3.extBut D.l2TO) hy λg4 j24 e4=>Zr ?_);have hO4:IsPair g4 TO x b:=e4.extBut _ _ D.TOi2 hO3;refine Zj (wpAny_seqItems hO4 rfl (Zj (wpAny_updateSeq_pair hO4 λg5 hO5 e5=>?_)));replace hO5:IsPair g5 TO x y:=hO5;refine Zj (wpAny_letGo (Zr (Zr (Zj (wpAny_seqItems hO5 rfl (Zj (wpAny_newTuple ?_)))))));have sz:g5.objs.size=s.heap.objs.size:=by rw[e5.1,e4.1,e3.1,e2.1,e1.1]
 have hz5:IsZip g5 z TI TO .ellipsis:=e5.extBut _ _ D.TOz.symm (e4.extBut _ _ D.i2z.symm (e3.extBut _ _ D.TOz.symm (e2.extBut _ _ D.i1z.symm hz1)));have kp:∀c o,c≠z->c≠TO->c≠i1->c≠i2->s.heap.get? c=some o->g5.get? c=some o:=λc o c1 c2 c3 c4 e=>e5.extBut _ _ c2 (e4.extBut _ _ c4 (e3.extBut _ _ c2 (e2.extBut _ _ c3 (e1.extBut _ _ c1 e))));have j15:g5.IsTupleIter i1 t1 (k+1):=Vo (Vo (Vo j12 e3.extBut D.TOi1.symm) e4.extBut D.i12) e5.extBut D.TOi1.symm;have j25:g5.IsTupleIter i2 t2 (k+1):=Vo j24 e5.extBut D.TOi2.symm;have zl:z<g5.objs.size:=Ye hz5;show wpAny _ _ (Builtin.SmallTypes.ownedTupleHandOut (.ref z) (.ref g5.objs.size) >>= _) _ _ _;refine Zj ?_;unfold Builtin.SmallTypes.ownedTupleHandOut;have hz6:IsZip (g5.push { cls:=.type "tuple",data:=.seq #[x,y] }) z TI TO .ellipsis:=Yn _ hz5;refine Zj (wpAny_setField_rec hz6 XI λg7 hz7 e7=>?_);replace hz7:IsZip g7 z TI TO (rawInt g5.objs.size):=hz7;refine wpAny_setField_rec hz7 XI λg8 hz8 e8=>?_;replace hz8:IsZip g8 z TI TO (rawInt g5.objs.size):=hz8;have up:∀c o,c≠z->g5.get? c=some o->g8.get? c=some o:=λc o c1 e=>e8.extBut _ _ c1 (e7.extBut _ _ c1 (Yn _ e));have hT8:IsPair g8 g5.objs.size x y:=e8.extBut _ _ (Nat.ne_of_gt zl) (e7.extBut _ _ (Nat.ne_of_gt zl) (Ur _ rfl));have sz8:g8.objs.size=g5.objs.size+1:=by rw[e8.1,e7.1,Heap.size_push]
 rw[sz]at hz8 hT8 sz8;refine Zr ⟨_,rfl,?_⟩;show Q (.ref g5.objs.size) _;rw[sz];exact q g8 hz8 (up _ _ D.TOz hO5) (let ⟨o,ho,r⟩:=j15;⟨o,up _ _ D.i1z ho,r⟩) (let ⟨o,ho,r⟩:=j25;⟨o,up _ _ D.i2z ho,r⟩) hT8 sz8 λc o c1 c2 c3 c4 e=>up c o c1 (kp c o c1 c2 c3 c4 e)
theorem endT{Q:Fin->Shared->Prop}(hh:A.handled=none)(D:ZipApart z TI TO i1 i2 t1 t2)(hz:IsZip s.heap z TI TO .none)(hI:IsPair s.heap TI (.ref i1) (.ref i2))(hO:IsPair s.heap TO a b)(j1:s.heap.IsTupleIter i1 t1 k)(j2:s.heap.IsTupleIter i2 t2 k)(p1:s.heap.IsTuple t1 xs)(p2:s.heap.IsTuple t2 ys)(dj:xs[k]?=none\/ys[k]?=none)
  (q:∀h' e,(∀c o,c≠z->c≠TO->c≠i1->c≠i2->s.heap.get? c=some o->h'.get? c=some o)->(∃o,h'.get? e=some o/\o.cls=.type "StopIteration")->E (.ref e) { s with heap:=h' }) :
  wpAny (model prog w) A (Builtin.«zip.__next__» ⟨[.ref z],[]⟩) Q E s:=by
 show wpAny _ _ (field (.ref z) 2 >>= _) _ _ _;refine Zj (wpAny_field hz rfl (x:=.bool false) rfl ?_);show wpAny _ _ (field (.ref z) 3 >>= _) _ _ _;refine Zj (wpAny_field hz rfl (x:=.ref TI) rfl (Zj (wpAny_seqItems hI rfl ?_)));show wpAny _ _ (Builtin.SmallTypes.ownedTupleIsFree (.ref z) >>= _) _ _ _;refine Zj ?_;unfold Builtin.SmallTypes.ownedTupleIsFree;refine Zj (wpAny_field hz rfl (x:=.none) rfl (Zr ?_));simp only[if_true];refine Zj (wpAny_rule (Zj (wpAny_field hz rfl (x:=.ref TO) rfl ?_)));refine Zj (wpAny_setField_rec hz XI λg1 hz1 e1=>?_);replace hz1:IsZip g1 z TI TO .ellipsis:=hz1;refine Zj ?_;simp only[List.zipIdx_cons,List.zipIdx_nil,List.forIn_cons,List.forIn_nil];refine Zj (Zj (wpAny_onRaise ?_));show wpAny _ _ (Builtin.SmallTypes.nextOf (.ref i1) >>= _) _ _ _;cases hx:xs[k]? with
 | none =>
  refine Zj (EnuT.endT hh (Vo j1 e1.extBut D.i1z) (tupK p1 e1.extBut D.l1z) hx λg2 e e2 he=>?_);obtain⟨oe,hoe,hce⟩:=he;have hz2:IsZip g2 z TI TO .ellipsis:=e2 _ _ D.i1z.symm hz1;have ez:e≠z:=λv=>by subst v;rw[hz2]at hoe;cases hoe;simp at hce
  exact wpAny_setField_rec hz2 XI λg3 _ e3=>q g3 e (λc o c1 _ c3 _ v=>e3.extBut _ _ c1 (e2 _ _ c3 (e1.extBut _ _ c1 v))) ⟨oe,e3.extBut _ _ ez hoe,hce⟩
 | some x =>
  have hy:ys[k]?=none:=by rcases dj with h | h;rw[hx]at h;cases h;exact h
  refine Zj (EnuT.nextT (Vo j1 e1.extBut D.i1z) (tupK p1 e1.extBut D.l1z) hx λg2 j12 e2=>Zr ?_);have hO2:IsPair g2 TO a b:=e2.extBut _ _ D.TOi1 (e1.extBut _ _ D.TOz hO);refine Zj (wpAny_seqItems hO2 rfl (Zj (wpAny_updateSeq_pair hO2 λg3 hO3 e3=>?_)));refine Zj (wpAny_letGo (Zr (Zj (Zj (wpAny_onRaise ?_)))));show wpAny _ _ (Builtin.SmallTypes.nextOf (.ref i2) >>= _) _ _ _;refine Zj (EnuT.endT hh (Vo (Vo (Vo j2 e1.extBut D.i2z) e2.extBut D.i12.symm) e3.extBut D.TOi2.symm) (tupK (tupK (tupK p2 e1.extBut D.l2z) e2.extBut D.l2i1) e3.extBut D.l2TO) hy λg4 e e4 he=>?_);obtain⟨oe,hoe,hce⟩:=he;have hz4:IsZip g4 z TI TO .ellipsis:=e4 _ _ D.i2z.symm (e3.extBut _ _ D.TOz.symm (e2.extBut _ _ D.i1z.symm hz1));have ez:e≠z:=λv=>by subst v;rw[hz4]at hoe;cases hoe;simp at hce
  exact wpAny_setField_rec hz4 XI λg5 _ e5=>q g5 e (λc o c1 c2 c3 c4 v=>e5.extBut _ _ c1 (e4 _ _ c4 (e3.extBut _ _ c2 (e2.extBut _ _ c3 (e1.extBut _ _ c1 v))))) ⟨oe,e5.extBut _ _ ez hoe,hce⟩
theorem fu{Q:ZT->Shared->Prop}(D:ZipApart z TI TO i1 i2 t1 t2)(hz:IsZip s.heap z TI TO .none)(hI:IsPair s.heap TI (.ref i1) (.ref i2))(hO:IsPair s.heap TO a b)(j1:s.heap.IsTupleIter i1 t1 k)(j2:s.heap.IsTupleIter i2 t2 k)(p1:s.heap.IsTuple t1 xs)(p2:s.heap.IsTuple t2 ys)(hx:xs[k]?=some x)(hy:ys[k]?=some y)
  (q:∀h',IsZip h' z TI TO (rawInt s.heap.objs.size)->IsPair h' TO x y->h'.IsTupleIter i1 t1 (k+1)->h'.IsTupleIter i2 t2 (k+1)->IsPair h' s.heap.objs.size x y->h'.objs.size=s.heap.objs.size+1->(∀c o,c≠z->c≠TO->c≠i1->c≠i2->s.heap.get? c=some o->h'.get? c=some o)->Q (some (.ref s.heap.objs.size)) { s with heap:=h' }) :
  wpAny (model prog w) A (pyNext (.ref z)) Q E s:=by
 have T:s.TypeIs (.ref z) "zip" := ⟨_,hz,rfl⟩;unfold pyNext;exact Zj (wpAny_attempt (wpAny_callSpecial?_slot (name:=Str.ofString "__next__") T F.slot_zip_next (wpAny_call_entry F.slot_zip_next T F.entry_zip_next (itemT D hz hI hO j1 j2 p1 p2 hx hy λh' a1 a2 a3 a4 a5 a6 a7=>Zr (q h' a1 a2 a3 a4 a5 a6 a7)) (F.args_zip_next_1 _))))
theorem ij{Q:ZT->Shared->Prop}(hh:A.handled=none)(D:ZipApart z TI TO i1 i2 t1 t2)(hz:IsZip s.heap z TI TO .none)(hI:IsPair s.heap TI (.ref i1) (.ref i2))(hO:IsPair s.heap TO a b)(j1:s.heap.IsTupleIter i1 t1 k)(j2:s.heap.IsTupleIter i2 t2 k)(p1:s.heap.IsTuple t1 xs)(p2:s.heap.IsTuple t2 ys)(dj:xs[k]?=none\/ys[k]?=none)
  (q:∀h',(∀c o,c≠z->c≠TO->c≠i1->c≠i2->s.heap.get? c=some o->h'.get? c=some o)->Q none { s with heap:=h' }):wpAny (model prog w) A (pyNext (.ref z)) Q E s:=by
 have T:s.TypeIs (.ref z) "zip" := ⟨_,hz,rfl⟩;unfold pyNext;refine Zj (wpAny_attempt (wpAny_callSpecial?_slot (name:=Str.ofString "__next__") T F.slot_zip_next (wpAny_call_entry F.slot_zip_next T F.entry_zip_next (endT hh D hz hI hO j1 j2 p1 p2 dj λh' e hk he=>?_) (F.args_zip_next_1 _))));obtain⟨o,ho,hc⟩:=he;exact Zj (wpAny_isInstance (T:="StopIteration") (b:=true) ⟨o,ho,hc⟩ isSubtype_stop (Zr (q _ hk)))
end
noncomputable abbrev H1(h:Heap)(l1:Addr):Heap:=h.push { cls:=.type "tuple_iterator",data:=.fields #[.ref l1,.int 0 0] }
noncomputable abbrev H2(h:Heap)(l1 l2:Addr):Heap:=(H1 h l1).push { cls:=.type "tuple_iterator",data:=.fields #[.ref l2,.int 0 0] }
noncomputable abbrev H3(h:Heap)(l1 l2:Addr):Heap:=(H2 h l1 l2).push { cls:=.type "tuple",data:=.seq #[.ref h.objs.size,.ref (H1 h l1).objs.size] }
noncomputable abbrev H4(h:Heap)(l1 l2:Addr):Heap:=(H3 h l1 l2).push { cls:=.type "tuple",data:=.seq #[.none,.none] }
noncomputable abbrev H5(h:Heap)(l1 l2:Addr):Heap:=(H4 h l1 l2).push { cls:=.type "zip",data:=.fields #[.none,.bool false,.bool false,.ref (H2 h l1 l2).objs.size,.ref (H3 h l1 l2).objs.size] }
theorem meets(l1 l2:Addr)(xs ys:ZN) :
  Meets (Builtin.«zip.__new__» ⟨[.type "zip",.ref l1,.ref l2],[]⟩) (λ_ R s=>s.heap.IsTuple l1 xs/\s.heap.IsTuple l2 ys /\
   R (.ok (.ret (.ref (H4 s.heap l1 l2).objs.size))) { s with heap:=H5 s.heap l1 l2 }) :=
 .of_wp λprog w A R s h=>by
  obtain⟨hp,g,d,tk,os⟩:=s;obtain⟨hl1,hl2,h⟩:=h;have hsub:=sub_zip;have hL1:Heap.IsTuple (Shared.heap ⟨hp,g,d,tk,os⟩) l1 xs:=hl1;have hL2:Heap.IsTuple (Shared.heap ⟨hp.push { cls:=.type "tuple_iterator",data:=.fields #[.ref l1,.int 0 0] },g,d,tk,os⟩) l2 ys:=let ⟨o,ho,r⟩:=hl2;⟨o,Yn _ ho,r⟩
  wp_walk using wpAny_pyIter_tuple hL1,wpAny_pyIter_tuple hL2
  exact⟨_,rfl,h⟩
theorem call2{prog:Program}{w:World}{A:Around}{E:ZW}{s:Shared}{l1 l2:Addr}{xs ys:ZN}{Q:ZW}(hl1:s.heap.IsTuple l1 xs)(hl2:s.heap.IsTuple l2 ys)
  (h:∀h',IsZip h' (s.heap.objs.size+4) (s.heap.objs.size+2) (s.heap.objs.size+3) .none->IsPair h' (s.heap.objs.size+2) (.ref s.heap.objs.size) (.ref (s.heap.objs.size+1)) ->
   IsPair h' (s.heap.objs.size+3) .none .none->h'.IsTupleIter s.heap.objs.size l1 0->h'.IsTupleIter (s.heap.objs.size+1) l2 0->h'.objs.size=s.heap.objs.size+5 ->
   (∀c o,s.heap.get? c=some o->h'.get? c=some o)->Q (.ref (s.heap.objs.size+4)) { s with heap:=h' }) :
  wpAny (model prog w) A (call (.type "zip") [.ref l1,.ref l2]) Q E s:=by
 refine callType_new F.called_zip XA (F.typeCall_zip_2 _ _) (F.newCall_zip_2 _ _) (λobj=>F.args_object_init_3 obj _ _) F.entry_zip_new (meets l1 l2 xs ys) ⟨hl1,hl2,?_⟩;have z1:(H1 s.heap l1).objs.size=s.heap.objs.size+1:=Heap.size_push ..;have z2:(H2 s.heap l1 l2).objs.size=s.heap.objs.size+2:=by rw[Heap.size_push,z1]
 have z3:(H3 s.heap l1 l2).objs.size=s.heap.objs.size+3:=by rw[Heap.size_push,z2]
 have z4:(H4 s.heap l1 l2).objs.size=s.heap.objs.size+4:=by rw[Heap.size_push,z3]
 have z5:(H5 s.heap l1 l2).objs.size=s.heap.objs.size+5:=by rw[Heap.size_push,z4]
 have g5:(H5 s.heap l1 l2).get? (H4 s.heap l1 l2).objs.size=some _:=Ur _ rfl;have g4:(H5 s.heap l1 l2).get? (H3 s.heap l1 l2).objs.size=some _:=Yn _ (Ur _ rfl);have g3:(H5 s.heap l1 l2).get? (H2 s.heap l1 l2).objs.size=some _:=Yn _ (Yn _ (Ur _ rfl));have g2:(H5 s.heap l1 l2).get? (H1 s.heap l1).objs.size=some _:=Yn _ (Yn _ (Yn _ (Ur _ rfl)));have g1:(H5 s.heap l1 l2).get? s.heap.objs.size=some _:=Yn _ (Yn _ (Yn _ (Yn _ (Ur _ rfl))));show _/\_;rw[z2,z3,z4]at g5;rw[z1,z2]at g3;rw[z3]at g4;rw[z1]at g2;rw[z4]
 exact⟨⟨_,g5,rfl⟩,h _ g5 g3 g4 ⟨_,g1,rfl,rfl⟩ ⟨_,g2,rfl,rfl⟩ z5 λc o x =>
  Yn _ (Yn _ (Yn _ (Yn _ (Yn _ x))))⟩
end ZipT
namespace L2
open PySem PySem.Spec PyProof.Rows
def Itzt(K:W.Frag)(l1 l2:Addr):It :=
  ⟨λi H=>∃xs ys x y,Y1 K H l1 xs/\Y1 K H l2 ys/\xs[i]?=some x/\ys[i]?=some y,
   λi H v H'=>∃p x y,v=.ref p/\H p=none/\H'=upd H p (.tup [x,y])/\(∀xs,Y1 K H l1 xs->xs[i]?=some x)/\∀ys,Y1 K H l2 ys->ys[i]?=some y,
   λi H=>∃xs ys,Y1 K H l1 xs/\Y1 K H l2 ys/\(xs.length<=i\/ys.length<=i)⟩
theorem Xm{P:Program}{w:World}{K:W.Frag}{es:ZC}{k:Nat}{pos:Pos}(z TI TO i1 i2 l1 l2:Addr)(D:ZipApart z TI TO i1 i2 l1 l2) :
  Turn P w K (.Tuple es k pos) (Itzt K l1 l2) [z,TI,TO,i1,i2] z (λi h=>IsZip h z TI TO .none/\IsPair h TI (.ref i1) (.ref i2)/\(∃a b,IsPair h TO a b)/\h.IsTupleIter i1 l1 i/\h.IsTupleIter i2 l2 i) where
 mem:=by simp
 obj:=λi h st b hb=>by
  obtain⟨hz,L3,⟨a,c,P5⟩,⟨o1,e1,_,d1⟩,⟨o2,e2,_,d2⟩⟩:=st;simp only[Yf,Ve,or_false]at hb;rcases hb with rfl | rfl | rfl | rfl | rfl
  .exact⟨_,hz,λv q=>nomatch q⟩
  .exact⟨_,L3,λv q=>nomatch q⟩
  .exact⟨_,P5,λv q=>nomatch q⟩
  .exact⟨_,e1,λv q=>by rw[d1]at q;cases q⟩
  .exact⟨_,e2,λv q=>by rw[d2]at q;cases q⟩
 keep:=λi h h' st hk=>by
  obtain⟨hz,L3,⟨a,b,P5⟩,h1,h2⟩:=st;exact⟨hk z XI _ hz,hk TI XI _ L3,⟨a,b,hk TO XI _ P5⟩,(let ⟨o,ho,r⟩:=h1;⟨o,hk i1 XI o ho,r⟩),(let ⟨o,ho,r⟩:=h2;⟨o,hk i2 XI o ho,r⟩)⟩
 item:=by
  intro X hP hw hK hc i XM s Z H E I hf st hg;subst hP hw hK;obtain⟨xs,ys,x,y,q1,q2,g1,g2⟩:=hg;obtain⟨hz,L3,⟨a,b,P5⟩,h1,h2⟩:=st;obtain⟨ly,v1,X8,z1⟩:=I.tuple q1;obtain⟨is2,v2,X7,z2⟩:=I.tuple q2;obtain⟨u1,e1,r1⟩:=v1.get g1;obtain⟨u2,e2,r2⟩:=v2.get g2;refine ZipT.fu D hz L3 P5 h1 h2 (show s.heap.IsTuple l1 ly.toArray from X8) (show s.heap.IsTuple l2 is2.toArray from X7) (x:=u1) (y:=u2) (by simpa using e1) (by simpa using e2) λh' a1 a2 a3 a4 a5 a6 hk=>?_;refine⟨_,rfl,wpAny_letOwnedTupleGo_zip (s:={ s with heap:=h' }) a1 λh'' hz' Qq=>?_⟩;have lt:∀{c o},s.heap.get? c=some o->s.heap.objs.size≠c:=λe=>Nat.ne_of_gt (Ye e);have nz:s.heap.objs.size≠z:=lt hz
  have kk:∀c u,c∉[z,TI,TO,i1,i2]->s.heap.get? c=some u->h''.get? c=some u:=λc u m e=>by
   simp only[Yf,Ve,or_false,not_or]at m;exact Qq.extBut _ _ m.1 (hk c u m.1 m.2.2.1 m.2.2.2.1 m.2.2.2.2 e)
  have fresh:=I.hok.fresh (Yk s.heap.objs.size);have J:Inv X XM Z (upd H s.heap.objs.size (.tup [x,y])) { s with heap:=h'',toks:=s.toks }:=I.turnLay kk hf (Yk _) ⟨by show 2<=sizeLine;decide,[u1,u2],.cons r1 (.cons r2 .nil),⟨_,Qq.extBut _ _ nz a5,rfl,⟨_,rfl⟩,rfl⟩⟩;refine⟨.ref s.heap.objs.size,_,J,rfl,⟨_,x,y,rfl,fresh,rfl,λws hw=>by rw[I.tuple_inj hw q1];exact g1,λws hw=>by rw[I.tuple_inj hw q2];exact g2⟩,⟨hz',Qq.extBut _ _ D.TIz (hk _ _ D.TIz D.TITO D.TIi1 D.TIi2 L3),⟨_,_,Qq.extBut _ _ D.TOz a2⟩,ZipT.Vo a3 Qq.extBut D.i1z,ZipT.Vo a4 Qq.extBut D.i2z⟩,λc hc=>?_⟩
  have nc:c≠s.heap.objs.size:=λq=>by
   subst q;simp only[Yf,Ve,or_false]at hc;rcases hc with q | q | q | q | q
   .exact lt hz q
   .exact lt L3 q
   .exact lt P5 q
   .obtain⟨_,e,_⟩:=h1;exact lt e q
   .obtain⟨_,e,_⟩:=h2;exact lt e q
  rw[Zz nc];exact(hf c hc).1
 done:=by
  intro X hP hw hK hc i XM s Z H E I hf st hg;subst hP hw hK;obtain⟨xs,ys,q1,q2,g⟩:=hg;obtain⟨hz,L3,⟨a,b,P5⟩,h1,h2⟩:=st;obtain⟨ly,v1,X8,z1⟩:=I.tuple q1;obtain⟨is2,v2,X7,z2⟩:=I.tuple q2;have hl1:=v1.length;have hl2:=v2.length;refine ZipT.ij (I.ok.hd hc) D hz L3 P5 h1 h2 (show s.heap.IsTuple l1 ly.toArray from X8) (show s.heap.IsTuple l2 is2.toArray from X7) (by rcases g with g | g;exact .inl (by simp;omega);exact .inr (by simp;omega)) λh' hk=>⟨rfl,I.turnL (t':=s.toks) (fp:=[z,TI,TO,i1,i2]) (λc u m e=>?_) hf⟩;simp only[Yf,Ve,or_false,not_or]at m;exact hk c u m.1 m.2.2.1 m.2.2.2.1 m.2.2.2.2 e
 self:=λA i s Q E st h=>wpAny_pyIter_zip st.1 h
inductive Iw(K:W.Frag)(R:(It->Hp->Prop))(vs:ZQ)(H1:Hp):Prop
 | mk(p q)(Vz:vs=[.ref p,.ref q])(Y9:(∃xs,Y1 K H1 p xs))(U5:(∃ys,Y1 K H1 q ys))(L4:R (Itzt K p q) H1):Iw K R vs H1
def iZipT(K:W.Frag)(t:TA):TI:=λZ H R=>t Z H λvs H1=>Iw K R vs H1
section
variable{X:Cx}{es:ZC}{k:Nat}{p2 pos Ui:Pos}{a b:Expr}{t:TA}
theorem ao(hgz:Gl X "zip")(hmz:X.mg "zip"=none)(ha:PA X [a,b] t)
  (he2:starEach [a,b] X.env=(false,eval a X.env)::starEach [b] X.env:=by rfl) (qy:(backTo Ui (starEach [b] X.env)).any (·.1)=false:=by rfl) :
  PI X (.Tuple es k pos) (.Call (.Name "zip" p2) [a,b] [] Ui) (iZipT X.K t):=by
 intro XM s Z H R I h;refine wpAny_Call_Name_kw (J4 I hgz hmz (by decide +kernel:bootBuiltins "zip"=some (.type "zip")) ?_ XA XA);refine callWith_type1 (Z5 (ha Ui XM s Z H _ I h) λus s1 ⟨vs,H1,I1,r1,q1⟩=>?_) he2 qy;obtain⟨l1,l2,rfl,⟨xs,hx⟩,⟨ys,hy⟩,q⟩:=q1;obtain⟨u1,u2,rfl,e1,e2⟩:=vals2 r1;cases e1;cases e2;obtain⟨ly,v1,X8,z1⟩:=I1.tuple hx;obtain⟨is2,v2,X7,z2⟩:=I1.tuple hy;have n1:l1<s1.heap.objs.size:=by obtain⟨_,e,_⟩:=(show s1.heap.IsTuple l1 ly.toArray from X8);exact Ye e
 have n2:l2<s1.heap.objs.size:=by obtain⟨_,e,_⟩:=(show s1.heap.IsTuple l2 is2.toArray from X7);exact Ye e
 refine ZipT.call2 (show s1.heap.IsTuple l1 ly.toArray from X8) (show s1.heap.IsTuple l2 is2.toArray from X7) λh2 b1 b2 b3 b4 b5 b6 k2=>?_;refine wpAny_pyIter_zip (s:={ s1 with heap:=h2 }) b1 ?_;have J:Inv X XM Z H1 { s1 with heap:=h2,toks:=s1.toks }:=I1.kept k2;refine⟨_,[s1.heap.objs.size+4,s1.heap.objs.size+2,s1.heap.objs.size+3,s1.heap.objs.size,s1.heap.objs.size+1],_,_,H1,rfl,J,Xm _ _ _ _ _ l1 l2 (zipApart_new n1 n2),⟨b1,b2,⟨_,_,b3⟩,b4,b5⟩,λc hc=>?_,q⟩
 have ge:s1.heap.objs.size<=c:=by
  simp only[Yf,Ve,or_false]at hc;rcases hc with q | q | q | q | q<;>rw[q]<;>first | exact Yk _ | exact Nat.le_add_right _ _
 exact I1.fpOk ge (I1.hok.fresh ge)
end
section
variable{X:Cx}
end
section
variable{X:Cx}{es:ZC}{k:Nat}{p2 pos Ui:Pos}{a:Expr}{t:TA}
end
section
variable{X:Cx}{XM:ZY}{Z:St}{H:Hp}{s:Shared}
end
section
variable{X:Cx}
end
noncomputable def E6(x:Str)(p0:Pos):Arguments:={ posonlyargs:=[],args:=[{ arg:=x,annotation:=none,pos:=p0:PySem.Arg }],vararg:=none,kwonlyargs:=[],kw_defaults:=[],kwarg:=none,defaults:=[]:PySem.Arguments }
noncomputable def zh(x:Str)(p1 p2 p3:Pos):Expr:=.Subscript (.Name x p1) (.Constant (.int 0) 0 p2) p3
noncomputable def Mp(x:Str):Scope:={ kind:=.function,names:=[(x,.local)],isGenerator:=false,isCoroutine:=false,more:=[]:PySem.Scope }
def Ul(c:Addr)(q:Str):HO:=.ext λh=>h.CodeRec (.ref c) q
def C8(H:Hp)(lp:Pos)(q:Str)(ps:ZN):Prop:=TriplesOk ps.toList/\(codeAmong lp ps.toList=none\/∃c',codeAmong lp ps.toList=some (.ref c')/\H c'=some (Ul c' q))
def SmT(P:Addr)(H H':Hp):Prop:=∀a o,a≠P->H a=some o->H' a=some o
theorem Mq{lp:Pos}{a b:Int}{ta tb:Tok}{c:Value}:∀{l:ZM},TriplesOk l->TriplesOk (l++[.int a ta,.int b tb,c])
 | [],_=>True.intro
 | [_],h=>by cases(show False by simpa [TriplesOk] using h)
 | [_,_],h=>by cases(show False by simpa [TriplesOk] using h)
 | x::y::z::r,h=>by
  cases x<;>cases y<;>first | exact(show False by simpa [TriplesOk] using h).elim | exact Mq (lp:=lp) (l:=r) h
theorem C6{lp:Pos}{ta tb:Tok}{c:Value}:∀{l:ZM},TriplesOk l->codeAmong lp l=none->codeAmong lp (l++[.int lp.line ta,.int lp.col tb,c])=some c
  | [],_,_=>by simp[codeAmong]
  | [_],h,_=>by cases(show False by simpa [TriplesOk] using h)
  | [_,_],h,_=>by cases(show False by simpa [TriplesOk] using h)
  | x::y::z::r,h,e=>by
    cases x<;>cases y<;>first
      | exact(show False by simpa [TriplesOk] using h).elim
      | (rename_i i ti j tj
         have e':(if (i==(lp.line:Int)&&j==(lp.col:Int))=true then some z else codeAmong lp r)=none:=e;show (if (i==(lp.line:Int)&&j==(lp.col:Int))=true then some z else codeAmong lp (r++[.int lp.line ta,.int lp.col tb,c]))=some c;by_cases q:(i==(lp.line:Int)&&j==(lp.col:Int))=true
         . rw[if_pos q]at e';cases e'
         . rw[if_neg q]at e' ⊢
           exact C6 (l:=r) h e')
structure nr(X:Cx)(P:Addr):Prop where
 c:∃c,X.env.code=.ref c/\∀h,X.K.In h->W.CodeHd h c P
 bi:∀h,X.K.In h->h.BuiltinsAt X.mg P
 ne:mainGlobals≠P
section
variable{X:Cx}{XM:ZY}{Z:St}{H:Hp}{s:Shared}
theorem B6{h h':Heap}{L:Addr}{m:ZV}(n:h.Ns L m)(k:∀o,h.get? L=some o->h'.get? L=some o):h'.Ns L m :=
 let ⟨o,es,ep,e,r⟩:=n
 ⟨o,es,ep,k o e,r⟩
theorem Ul.ok{P:Program}{w:World}{H':Hp}{h:Heap}{c:Addr}{q:Str}(k:h.CodeRec (.ref c) q):Zp P w H' h c (Ul c q):=by
 refine⟨k,?_,λh1 h2 k1 e=>?_⟩
 .obtain⟨c1,o,vs,t,e,ho,_⟩:=k;cases e;exact⟨o,ho⟩
 .obtain⟨c1,o,vs,t,ec,ho,r⟩:=k1;cases ec;exact⟨c,o,vs,t,rfl,e o ho,r⟩
theorem Ul.code{P:Program}{w:World}{H':Hp}{h:Heap}{c:Addr}{q:Str}(x:D3 P w H' h)(e:H' c=some (Ul c q)):h.CodeRec (.ref c) q:=(x c _ e).1
theorem ba{P:Addr}{ps:ZN}{lp:Pos}{params:Arguments}{body:Expr}{x:Str}{A:Around}{E:ZW}{Q:ZW}(L:nr X P)(hcl:closureFor (Mp x) X.env=pure [])(hdf:defaultsOf params X.env=([],[]))
  (I:Inv X XM Z H s) (hP:H P=some (.tbl ps)) (ok:C8 H lp (X.env.qual++Str.ofString "<lambda>") ps)
  (h:∀(f c':Addr) (pm ctv:Value) (s':Shared) (H':Hp) (Sg:ZN),Inv X XM Z H' s'->SmT P H H'->H' P=some (.tbl Sg)->C8 H' lp (X.env.qual++Str.ofString "<lambda>") Sg ->
   s'.heap.get? f=some (W.kla_obj (Str.ofString "<lambda>") (X.env.qual++Str.ofString "<lambda>") params body (Mp x) [] pm c' ctv)->H' c'=some (Ul c' (X.env.qual++Str.ofString "<lambda>"))->H' f=none->Q (.ref f) s') :
  wpAny (model X.prog X.w) A (eval (.Lambda params body (Mp x) lp) X.env) Q E s:=by
 obtain⟨c,hc,hd⟩:=L.c;have KX:=I.kIn;have gl:s.heap.Ns mainGlobals X.mg:=B6 I.mod.glob λo e=>I.bk _ _ e;have tP:s.heap.get? P=some (W.tabObj ps):=I.hok P _ hP;refine W.kla_eval hdf ?_;obtain⟨tr,am⟩:=ok;rcases am with am | ⟨c0,am,hc0⟩
 .refine W.kla_makeFunction hcl I.ok.glob gl hc (hd _ KX) tP tr am L.ne (L.bi _ KX) λc' ctv h' tk ext lo hi rec tab=>?_;have fc:H c'=none:=I.hok.fresh lo;have nP:c'≠P:=λz=>by rw[z,hP]at fc;cases fc
  have kp:∀b o,b≠P->s.heap.get? b=some o->(h'.push (W.kla_obj (Str.ofString "<lambda>") (X.env.qual++Str.ofString "<lambda>") params body (Mp x) [] ((X.mg (Str.ofString "__name__")).getD Value.none) c' ctv)).get? b=some o :=
   λb o nb e=>Yn _ (ext b o nb e)
  have nb:∀{b:Addr},H b=none->b≠P:=λ{b} e z=>by rw[z,hP]at e;cases e
  have H'e:∀b,b≠c'->b≠P->upd (upd H P (.tbl (ps++#[rawInt lp.line,rawInt lp.col,.ref c']))) c' (Ul c' (X.env.qual++Str.ofString "<lambda>")) b=H b:=λb n1 n2=>by rw[Zz n1,Zz n2]
  have nc:∀{b:Addr} {u:HO},H b=some u->b≠c':=λ{b u} e z=>by rw[z,fc]at e;cases e
  have I':=I.step (h':=h'.push (W.kla_obj (Str.ofString "<lambda>") (X.env.qual++Str.ofString "<lambda>") params body (Mp x) [] ((X.mg (Str.ofString "__name__")).getD Value.none) c' ctv)) (g':=s.gens) (d':=s.drawn) (t':=tk) (ch:=[])
   (H':=upd (upd H P (.tbl (ps++#[rawInt lp.line,rawInt lp.col,.ref c']))) c' (Ul c' (X.env.qual++Str.ofString "<lambda>"))) (λ_ z=>nomatch z)
   (λb o _ _ _ e n=>kp b o (nb n) e) (λb o _ _ _ e n=>⟨o.slots,kp b o (nb n) e⟩) (λb o _ e n=>?_) (λb o _ e=>?_) (λb xs e=>?_) (λb o u e=>?_) (λb qs e=>?_) (λm hm=>B6 hm λo e=>kp _ o (nb I.free) e) (λb u e=>?_) I.bare
  .refine h h'.objs.size c' _ ctv _ _ (ps++#[rawInt lp.line,rawInt lp.col,.ref c']) I' (λa o na e=>?_) (by rw[Zz nP.symm,Zx]) ⟨?_,.inr ⟨c',?_,Zx⟩⟩ (Ur _ rfl) Zx ?_
   .rw[H'e a (nc e) na];exact e
   .rw[Array.toList_append];exact Mq (lp:=lp) tr
   .rw[Array.toList_append];exact C6 tr am
   .rw[H'e _ (Nat.ne_of_gt hi) (Nat.ne_of_gt (Ye tab))];exact I.hok.fresh (Nat.le_of_lt (N0o lo hi))
  .have e1:=Ye e;rw[H'e b (λz=>by rw[z]at e1;exact absurd (Rv e1 lo) (Nat.lt_irrefl _)) (nb n)];exact n
  .by_cases z:b=P
   .exact⟨_,by rw[z];exact Yn _ tab⟩
   .exact⟨o,kp b o z e⟩
  .rw[H'e b (nc e) (λz=>by rw[z,hP]at e;cases e)];exact e
  .rw[H'e b (nc e) (λz=>by rw[z,hP]at e;cases e)];exact e
  .by_cases z:b=P
   .rw[z,hP]at e;cases e;exact⟨_,by rw[z,Zz nP.symm,Zx]⟩
   .exact⟨#[],by rw[H'e b (nc e) z,e];simp⟩
  .by_cases z:b=c'
   .subst z;rw[Zx]at e;cases e;obtain⟨c1,o,vs,t,ec,ho,r⟩:=rec;cases ec;exact Ul.ok ⟨b,o,vs,t,rfl,Yn _ ho,r⟩
   .by_cases y:b=P
    .subst y;rw[Zz nP.symm,Zx]at e;cases e;exact Yn _ tab
    .rw[H'e b z y]at e;refine(I.hok b u e).stay (λd v hd q=>kp d v ?_ q) (λd q=>?_) λd xs q=>?_
     .rcases hd with rfl | hd
      .exact y
      .intro zz;rw[zz,hP]at hd;cases hd
     .rw[H'e d (nc q) (λzz=>by rw[zz,hP]at q;cases q)];exact q
     .rw[H'e d (nc q) (λzz=>by rw[zz,hP]at q;cases q)];exact q
 .refine W.kla_makeFunctionHit hcl I.ok.glob gl hc (hd _ KX) tP tr am (L.bi _ KX) λctv h' tk kp lo=>?_
  have kp':∀b o,s.heap.get? b=some o->(h'.push (W.kla_obj (Str.ofString "<lambda>") (X.env.qual++Str.ofString "<lambda>") params body (Mp x) [] ((X.mg (Str.ofString "__name__")).getD Value.none) c0 ctv)).get? b=some o :=
   λb o e=>Yn _ (kp b o e)
  exact h h'.objs.size c0 _ ctv _ H ps (I.kept kp') (λ_ _ _ e=>e) hP ⟨tr,.inr ⟨c0,am,hc0⟩⟩ (Ur _ rfl) hc0 (I.hok.fresh lo)
end
noncomputable def Ms(h:Heap)(L:Addr):Heap:={ h with objs:=h.objs.extract 0 L }
theorem A2{h:Heap}{L b:Nat}:(Ms h L).objs[b]?=if b<L then h.objs[b]? else none:=by
 show (h.objs.extract 0 L)[b]?=_;rw[Array.getElem?_extract];simp only[Nat.zero_add,Nat.sub_zero];by_cases hb:b<L
 .rw[if_pos hb];by_cases hc:b<h.objs.size
  .rw[if_pos XH]
  .rw[if_neg XH,Array.getElem?_eq_none XH]
 .rw[if_neg hb,if_neg XH]
theorem Mr{h:Heap}{L b:Addr}{o:Obj}(e:h.get? b=some o)(hb:b<L):(Ms h L).get? b=some o:=by
 unfold Heap.get? at e ⊢;rw[A2,if_pos hb];exact e
theorem B7{h:Heap}{L b:Addr}{o:Obj}(e:(Ms h L).get? b=some o):h.get? b=some o/\b<L:=by
 unfold Heap.get? at e;rw[A2]at e;by_cases hb:b<L
 .rw[if_pos hb]at e;exact⟨e,hb⟩
 .rw[if_neg hb]at e;cases e
noncomputable def T2(h:Heap)(L:Addr):ZY:=(List.range h.objs.size).filterMap λb=>if b<=L then none else (h.get? b).map λo=>(b,o)
theorem U0{h:Heap}{L b:Addr}{o:Obj}:(b,o)∈T2 h L↔L<b/\h.get? b=some o:=by
 unfold T2;rw[List.mem_filterMap];constructor
 .rintro⟨x,hx,e⟩;by_cases z:x<=L
  .rw[if_pos z]at e;cases e
  .rw[if_neg z]at e;obtain⟨o',e1,e2⟩:=Yx.mp e;cases e2;exact⟨Nat.lt_of_not_le z,e1⟩
 .rintro⟨hb,e⟩;refine⟨b,List.mem_range.mpr (Ye e),?_⟩;rw[if_neg (Nat.not_le.mpr hb),e];rfl
theorem Zp.has{P:Program}{w:World}{H:Hp}{h:Heap}{a:Addr}{o:HO}(x:Zp P w H h a o):∃u,h.get? a=some u:=by
 cases o with
 | lst xs=>obtain⟨_,_,_,_,e⟩:=x;exact⟨_,e⟩
 | tup xs=>obtain⟨_,_,_,o,e,_⟩:=x;exact⟨_,e⟩
 | dK XD=>obtain⟨_,_,_,_,o,_,_,e,_⟩:=x;exact⟨_,e⟩
 | dT XD=>obtain⟨_,_,_,_,o,_,_,e,_⟩:=x;exact⟨_,e⟩
 | set S n=>obtain⟨o,_,_,_,e,_⟩:=x;exact⟨_,e⟩
 | ins C dx fs=>obtain⟨_,_,_,e,_⟩:=x;exact⟨_,e⟩
 | own y=>exact x
 | xd fs=>obtain⟨_,⟨_,_,_,e,_⟩,_⟩:=x;exact⟨_,e⟩
 | rng lo hi=>obtain⟨_,_,_,e⟩:=x;exact⟨_,e⟩
 | frz ob u=>obtain⟨e,_⟩:=x;exact⟨_,e⟩
 | tbl ps=>exact⟨_,(show h.get? a=some _ from x)⟩
 | met f y=>exact⟨_,(show h.get? a=some _ from x)⟩
 | ext φ=>obtain⟨_,e,_⟩:=x;exact e
theorem Ma{h h':Heap}{L:Addr}{m:ZV}{own:ZY}(f:Fr (Ms h L) L h' m)(n:News (Ms h L) L h' own)(hs:∀p∈T2 h L,p∈own):∀b o,b≠L->h.get? b=some o->h'.get? b=some o:=λb o nb e=>by
 rcases Nat.lt_trichotomy b L with z | z | z
 .exact f.keep b o (Mr e z)
 .exact absurd z nb
 .exact(n (b,o) (hs _ (U0.mpr ⟨z,e⟩))).1
theorem Tx:∀{kz:ZL} {xs:ZQ} {vs:ZM},Zf xs vs->Paired (λ(p:Int×V) (q:Int×Value)=>p.1=q.1/\RelV p.2 q.2) (kz.zip xs) (kz.zip vs)
 | [],_,_,_=>.nil
 | _::_,[],_,.nil=>.nil
 | k::kz,_,_,.cons r t=>.cons ⟨rfl,r⟩ (Tx t)
theorem Qf:∀{qs:List (Int×V)} {ps:List (Int×Value)},Paired (λ(p:Int×V) (q:Int×Value)=>p.1=q.1/\RelV p.2 q.2) qs ps->Zf (qs.map (·.2)) (ps.map (·.2))
 | _,_,.nil=>.nil
 | _,_,.cons r t=>.cons r.2 (Qf t)
theorem fst_eq:∀{qs:List (Int×V)} {ps:List (Int×Value)},Paired (λ(p:Int×V) (q:Int×Value)=>p.1=q.1/\RelV p.2 q.2) qs ps->qs.map (·.1)=ps.map (·.1)
 | _,_,.nil=>rfl
 | _,_,.cons r t=>by rw[D2,D2,r.1,fst_eq t]
def Keyd(K:W.Frag)(H:Hp)(xs:ZQ)(kz:ZL):Prop:=kz.length=xs.length/\∀(i:Nat) (x:V) (k:Int),xs[i]?=some x->kz[i]?=some k->∃t ys,x=.ref t/\Y1 K H t (.int k::ys)
inductive Tw(K:W.Frag)(P:Addr)(lp:Pos)(q:Str)(Q:VK)(vs:ZQ)(H1:Hp):Prop
 | mk(l:Addr)(xs:ZQ)(kz:ZL)(ps:ZN)(Vz:vs=[V.ref l])(Y9:V0 K H1 l xs)(U5:xs.length<64)(L4:H1 P=some (.tbl ps))(qf:C8 H1 lp q ps)(h5_:Keyd K H1 xs kz)(h6_:∀(D:Addr) (Sg:ZN) (qs:List (Int×V)) (H2:Hp),SmT P H1 H2->H2 P=some (.tbl Sg)->C8 H2 lp q Sg->H1 D=none->H2 D=some (.lst (qs.map (·.2)))->qs.Perm (kz.zip xs)->qs.Pairwise (λa b=>a.1<=b.1)->Q (.ref D) H2):Tw K P lp q Q vs H1
def w4(K:W.Frag)(P:Addr)(lp:Pos)(q:Str)(te:TA):TE:=λZ H Q=>te Z H λvs H1=>Tw K P lp q Q vs H1
section
variable{X:Cx}{e:Expr}{te:TA}{p pos lp kp p0 p1 p2 p3:Pos}
end
end L2
namespace PySem.Heap
end PySem.Heap
namespace L2
open PySem PySem.Spec PyProof.Rows
section
variable{X:Cx}{x y:Str}{p p2 pos Ui:Pos}{a b:Expr}{t:TA}
end
end L2
namespace DicP2
open PySem PySem.Spec PyProof.Rows
noncomputable def Zql(t:Value):Obj:={ cls:=.type "AttributeError",data:=.fields #[t,.none,.none,.none,.bool false,.none,unsetMember,unsetMember] }
theorem nst:((Manifest.find? "AttributeError").elim false λt=>t.mro.contains "StopIteration" || t.mro.contains "SystemExit")=false:=by decide +kernel
theorem newAE{prog:Program}{w:World}{A:Around}{E:ZW}{s:Shared}{v:Value}{Q:ZW}
  (hq:∀h' e t,(∀b u,s.heap.get? b=some u->h'.get? b=some u)->h'.get? e=some (Zql t)->s.heap.get? e=none->Q (.ref e) { s with heap:=h' }):wpAny (model prog w) A (newExc (.type "AttributeError") [v]) Q E s:=by
 obtain⟨h,g,d,t,os⟩:=s;simp only[newExc,newTuple]
 wp_walk
 have e:(#[Value.ref h.objs.size,Value.none,Value.none,Value.none,Value.bool false,if ((Manifest.find? "AttributeError").elim false λt=>t.mro.contains "StopIteration" || t.mro.contains "SystemExit")=true then [v].headD Value.none else Value.none]++ownMembersOf (Value.type "AttributeError") [v])=#[.ref h.objs.size,.none,.none,.none,.bool false,.none,unsetMember,unsetMember]:=by
  rw[nst];rfl
 rw[e];refine hq _ _ (.ref h.objs.size) (λb u q=>Yn _ (Yn _ q)) (Ur _ rfl) ?_;cases z:h.get? (h.push { cls:=Value.type "tuple",data:=Data.seq #[v] }).objs.size with
 | none=>rfl
 | some o =>
  have:=Ye z;rw[Heap.size_push]at this;exact absurd this (Nat.not_lt.mpr (Nat.le_succ _))
theorem note{prog:Program}{w:World}{A:Around}{E:ZW}{s:Shared}{e:Addr}{t o nm:Value}{Q:ZO}(he:s.heap.get? e=some (Zql t))
  (hq:∀h' d,Heap.SameBut e s.heap h'->h'.get? e=some { cls:=.type "AttributeError",data:=d }->Q () { s with heap:=h' }):wpAny (model prog w) A (noteAttr (.ref e) o nm) Q E s:=by
 unfold noteAttr;simp only[];unfold lacksNameAndObj;simp only[];refine Zj (Zj (wpAny_isInstance (T:="AttributeError") (b:=true) ⟨_,he,rfl⟩ (by rw[isSubtype_type];kernel_rfl) ?_));simp only[Bool.not_true,B0f,if_false];refine Zj (wpAny_load he ?_);show wpAny _ _ (pure true) _ _ _;refine Zr ?_;simp only[if_true];refine Zj (wpAny_rule (Zj (wpAny_typeOf (T:="AttributeError") ⟨_,he,rfl⟩ ?_)));refine wpAny_layMembers he rfl ?_;refine hq _ _ ⟨Heap.size_update _ _ _,λb hb=>Heap.get?_update_other _ _ (Ne.symm hb)⟩ (Heap.get?_update_self _ he rfl)
theorem tl1:typeLookup (.type "tuple") (Str.ofString "__getattribute__")=pure (some (.builtin "tuple.__getattribute__")):=by rw[typeLookup_type,builtinLookup_eq_fast];kernel_rfl
theorem tl2:typeLookup (.type "tuple") (Str.ofString "keys")=pure none:=by rw[typeLookup_type,builtinLookup_eq_fast];kernel_rfl
theorem tl3:typeLookup (.type "tuple") (Str.ofString "__getattr__")=pure none:=by rw[typeLookup_type,builtinLookup_eq_fast];kernel_rfl
theorem slot_ga:Slot "tuple" (Str.ofString "__getattribute__") "tuple.__getattribute__" := Slot.of (owner:="tuple") (n:="__getattribute__") tl1 XU XU XU (.inl XU) (by rw[isSubtype_type];kernel_rfl)
theorem hb0:hookBefore (.type "tuple")=pure none:=rfl
theorem T4:entryFor table "dict.update.loop"=some Builtin.«dict.update.loop»:=entryFor_of_tree (by kernel_rfl)
theorem Jj:plainId "dict.update.loop"=true:=by decide +kernel
section
variable{prog:Program}{w:World}{K:Type}[DecidableEq K]{knd:PySem.KeyKind prog w K}
def Prs(knd:PySem.KeyKind prog w K)(h:Heap)(XT:ZN)(rs:List (K×Value)):Prop :=
 XT.size=rs.length/\∀(j:Nat) (k:K) (v:Value),rs[j]?=some (k,v)->∃p u,XT[j]?=some (.ref p)/\IsTup h p #[u,v]/\knd.is k u=true
noncomputable def stK(rs:List (K×Value))(i:Nat):List (K×Value):=(rs.take i).foldl (λacc kv=>stored acc kv.1 kv.2) []
theorem Ey(XD:List (K×Value))(k:K)(v:Value):(stored XD k v).length<=XD.length+1:=by
 unfold stored
 split
 .rw[Yc];omega
 .rw[Qw];simp
theorem Qh{rs:List (K×Value)}{i:Nat}{k:K}{v:Value}(h:rs[i]?=some (k,v)):stK rs (i+1)=stored (stK rs i) k v:=by
 unfold stK;rw[List.take_succ,h];simp
theorem W5(rs:List (K×Value)):∀i,(stK rs i).length<=i
 | 0=>by simp[stK]
 | i+1=>by
  cases h:rs[i]? with
  | none =>
   have:=W5 rs i;unfold stK at this ⊢;rw[List.take_succ,h];simp only[Option.toList_none,XJ];omega
  | some p =>
   obtain⟨k,v⟩:=p;rw[Qh h];have:=W5 rs i;have:=Ey (stK rs i) k v;omega
variable{A:Around}{R:Result->Shared->Prop}{E:ZW}{s:Shared}{d it t:Addr}{XT:ZN}{rs:List (K×Value)}
end
end DicP2
namespace L2
open PySem PySem.Spec PyProof.Rows
section
variable{X:Cx}{XM:ZY}{Z:St}{H:Hp}{s:Shared}
theorem Inv.lay2{h':Heap}{D:Addr}{u:HO}{t':Nat}(I:Inv X XM Z H s){m:ZV}(hn:s.heap.Ns X.env.locals m)(hn':h'.Ns X.env.locals m)(ka:∀b o,b≠X.env.locals->s.heap.get? b=some o->h'.get? b=some o)(nD:s.heap.get? D=none)
  (new:Zp X.prog X.w (upd H D u) h' D u):Inv X XM Z (upd H D u) { s with heap:=h',toks:=t' }/\H D=none:=by
 have fD:H D=none:=by
  cases eo:H D with
  | none=>rfl
  | some u =>
   obtain⟨o,e⟩:=(I.hok D u eo).has;rw[e]at nD;cases nD
 refine⟨?_,fD⟩;have ne:∀{b:Addr} {o:Obj},s.heap.get? b=some o->b≠D:=λ{b o} e z=>by rw[z,nD]at e;cases e
 have neH:∀{b:Addr} {u:HO},H b=some u->b≠D:=λ{b u} e z=>by rw[z,fD]at e;cases e
 refine I.step (h':=h') (g':=s.gens) (d':=s.drawn) (t':=t') (ch:=[]) (H':=upd H D u) (λ_ z=>nomatch z)
  (λb o nl _ _ e _=>ka b o nl e) (λb o nl _ _ e _=>⟨o.slots,ka b o nl e⟩) (λb o _ e n=>by rw[Zz (ne e)];exact n) (λb o _ e=>?_) (λb xs e=>by rw[Zz (neH e)];exact e) (λb o u e=>by rw[Zz (neH e)];exact e) (λb qs e=>⟨#[],by rw[Zz (neH e),e];simp⟩) (λm' hm=>?_) (λb v e=>?_) I.bare
 .by_cases z:b=X.env.locals
  .obtain⟨o2,_,_,e2,_⟩:=hn';exact⟨o2,by rw[z];exact e2⟩
  .exact⟨o,ka b o z e⟩
 .have em:m'=m:=by
   obtain⟨o2,es,ep,e2,d2,_,r2⟩:=hm;obtain⟨o3,es3,ep3,e3,d3,_,r3⟩:=hn;rw[e2]at e3;cases e3;rw[d2]at d3;cases d3;exact funext λx=>(r2 x).symm.trans (r3 x)
  rw[em];exact hn'
 .by_cases z:b=D
  .subst z;rw[Zx]at e;cases e;exact new
  .rw[Zz z]at e;refine(I.hok b v e).stay (λd v hd q=>ka d v ?_ q) (λd q=>by rw[Zz (neH q)];exact q) λd xs q=>by rw[Zz (neH q)];exact q
   rcases hd with rfl | hd
   .exact λzz=>by rw[zz,I.free]at e;cases e
   .exact λzz=>by rw[zz,I.free]at hd;cases hd
theorem Inv.frame(I:Inv X XM Z H s):∃m,s.heap.Ns X.env.locals m/\Fr (Ms s.heap X.env.locals) X.env.locals s.heap m/\News (Ms s.heap X.env.locals) X.env.locals s.heap (T2 s.heap X.env.locals):=by
 obtain⟨m,hn,_⟩:=id I.loc
 have lsz:(Ms s.heap X.env.locals).objs.size<=X.env.locals:=by
  show (s.heap.objs.extract 0 X.env.locals).size<=_;rw[Array.size_extract];omega
 refine⟨m,hn,⟨hn,λb o e=>(B7 e).1,lsz⟩,λp hp=>?_⟩;obtain⟨b,o⟩:=p;obtain⟨h1,h2⟩:=U0.mp hp;refine⟨h2,Nat.ne_of_gt h1,?_⟩;cases z:(Ms s.heap X.env.locals).get? b with
 | none=>rfl
 | some o'=>exact absurd (B7 z).2 (Nat.lt_asymm h1)
theorem Inv.newAt{h':Heap}{D:Addr}{o:Obj}{m:ZV}(n':News (Ms s.heap X.env.locals) X.env.locals h' ((D,o)::T2 s.heap X.env.locals))(hD:∀q∈T2 s.heap X.env.locals,q.1<D):s.heap.get? D=none:=by
 obtain⟨_,nDL,lD⟩:=n' (D,o) Yu;cases eo:s.heap.get? D with
 | none=>rfl
 | some o =>
  exfalso
  rcases Nat.lt_trichotomy D X.env.locals with y | y | y
  .rw[Mr eo y]at lD;cases lD
  .exact nDL y
  .exact absurd (hD (D,o) (U0.mpr ⟨y,eo⟩)) (Nat.lt_irrefl _)
end
theorem Pt{P:Nat->Key->Value->Prop}:∀{XD:List (Key×V)} (o:Nat),(∀j k v,XD[j]?=some (k,v)->∃w,RelV v w/\P (o+j) k w)->∃rs,KV XD rs/\∀j k w,rs[j]?=some (k,w)->P (o+j) k w
 | [],o,_=>⟨[],.nil,λj k w e=>by simp at e⟩
 | (k,v)::XD,o,h=>by
  obtain⟨w,Ly,pw⟩:=h 0 k v rfl
  obtain⟨rs,kv,pr⟩:=Pt (P:=P) (XD:=XD) (o+1) λj k' v' e=>by
   obtain⟨w',a,b⟩:=h (j+1) k' v' e;exact⟨w',a,by rw[Nat.add_assoc,Nat.add_comm 1 j];exact b⟩
  refine⟨(k,w)::rs,.cons ⟨rfl,Ly⟩ kv,λj k' w' e=>?_⟩;cases j with
  | zero =>
   have e':(k,w)=(k',w'):=by simpa using e
   cases e';exact pw
  | succ j =>
   have:=pr j k' w' (by simpa using e);rw[Nat.add_assoc,Nat.add_comm 1 j]at this;exact this
def Wc(XD:List (Key×V)):List (Key×V):=XD.foldl (λacc kv=>putK acc kv.1 kv.2) []
theorem A6:∀{XD:List (Key×V)} {rs:List (Key×Value)} {a:List (Key×V)} {b:List (Key×Value)},KV XD rs->KV a b->KV (XD.foldl (λacc kv=>putK acc kv.1 kv.2) a) (rs.foldl (λacc kv=>stored acc kv.1 kv.2) b)
 | _,_,_,_,.nil,h=>h
 | (k,v)::XD,(k',v')::rs,_,_,.cons r t,h=>by
  have e:k=k':=r.1;subst e;rw[List.foldl_cons,List.foldl_cons];exact A6 (XD:=XD) (rs:=rs) t (h.put k r.2)
theorem N3:∀(XD a:List (Key×V)),(XD.foldl (λacc kv=>putK acc kv.1 kv.2) a).length<=a.length+XD.length
 | [],a=>by simp
 | p::XD,a=>by
  have:=N3 XD (putK a p.1 p.2);have:=V3 a p.1 p.2;rw[List.foldl_cons,B9];omega
section
variable{X:Cx}
end
section
variable{X:Cx}{XM:ZY}{Z:St}{H:Hp}{s:Shared}
end
end L2
namespace DctT
open PySem PySem.SeqAt PySem.MeetsSeq
open PySem.AutoSeq1 (wpAny_loadPart')
end DctT
namespace L2
open PySem PySem.Spec PyProof.Rows
section
variable{X:Cx}
end
section
variable{X:Cx}
end
end L2
namespace EX
open PySem
section
variable{M:Model}{A:Around}{E:ZW}{s:Shared}{env:Env}{outer:List Env}{base:Heap}{L e T:Addr}{oe oT:Obj}{vs ts:ZN}{x:Value}{Q:ZO}
end
end EX
namespace L2
open PySem PySem.Spec PyProof.Rows
section
variable(prog:Program)(w:World)(A:Around)(tg elt:Expr)(ifs:ZC)(env:Env)(it acc:Value)(E:ZW)
end
section
variable{X:Cx}{scope:Scope}{N:ZD}{fr:ZG}{tg elt iter:Expr}{ifs:ZC}{pos:Pos}{wi:TI}{g:DG}{tt:DT}{te:DE}
end
section
variable{X:Cx}{XM:ZY}{Z:St}{H:Hp}{s s':Shared}
end
section
variable{X:Cx}{scope:Scope}{N:ZD}{fr:ZG}{tg elt iter:Expr}{ifs:ZC}{pos:Pos}{wi:TI}{g:St->DG}{tt:St->DT}{te:St->DE}{W:XWT}
end
section
variable{X:Cx}
end
section
variable{X:Cx}
end
section
variable{X:Cx}
end
end L2
namespace SRT
open PySem PySem.Spec PyProof.Rows L2
noncomputable def insI(x:Int):ZL->ZL
 | []=>[x]
 | y::r=>if x<=y then x::y::r else y::insI x r
def Eg:ZL->ZL
 | []=>[]
 | x::r=>insI x (Eg r)
theorem insI_perm(x:Int):∀r:ZL,(insI x r).Perm (x::r)
 | []=>.refl _
 | y::r=>by
  unfold insI
  split
  .exact .refl _
  .exact((insI_perm x r).cons y).trans (.swap x y r)
theorem Gh:∀r:ZL,(Eg r).Perm r
 | []=>.refl _
 | x::r=>(insI_perm x _).trans ((Gh r).cons x)
theorem Ph(x:Int):∀r:ZL,r.Pairwise (·<=·)->(insI x r).Pairwise (·<=·)
 | [],_=>List.pairwise_singleton _ _
 | y::r,h=>by
  rw[XZ]at h;unfold insI
  split
  .rename_i hx
   rw[XZ,XZ];exact⟨λz m=>by rcases Yf.mp m with rfl | m;exact hx;exact Int.le_trans hx (h.1 z m),h.1,h.2⟩
  .rename_i hx
   rw[XZ];refine⟨λz m=>?_,Ph x r h.2⟩;rcases Yf.mp ((insI_perm x r).mem_iff.mp m) with rfl | m
   .omega
   .exact h.1 z m
theorem Qu:∀r:ZL,(Eg r).Pairwise (·<=·)
 | []=>List.Pairwise.nil
 | x::r=>Ph x _ (Qu r)
theorem pz{a b:ZL}(h:a.Perm b)(s:a.Pairwise (·<=·)):a=Eg b :=
 List.Perm.eq_of_pairwise (λ_ _ _ _ h1 h2=>Int.le_antisymm h1 h2) s (Qu b) (h.trans (Gh b).symm)
noncomputable def Sd(a b:Str):Bool:=!decide (b.cps.toList<a.cps.toList)
noncomputable def xq(x:Str):ZD->ZD
 | []=>[x]
 | y::r=>if Sd x y=true then x::y::r else y::xq x r
def G2:ZD->ZD
 | []=>[]
 | x::r=>xq x (G2 r)
theorem Ni(x:Str):∀r:ZD,(xq x r).Perm (x::r)
 | []=>.refl _
 | y::r=>by
  unfold xq
  split
  .exact .refl _
  .exact((Ni x r).cons y).trans (.swap x y r)
theorem Ys:∀r:ZD,(G2 r).Perm r
 | []=>.refl _
 | x::r=>(Ni x _).trans ((Ys r).cons x)
theorem Lp{a b:Str}:Sd a b=true↔¬ b.cps.toList<a.cps.toList:=by unfold Sd;simp
theorem Wg{a b c:Str}(h1:Sd a b=true)(h2:Sd b c=true):Sd a c=true:=by
 rw[Lp]at *;exact List.not_lt.mpr (List.le_trans (List.not_lt.mp h1) (List.not_lt.mp h2))
theorem zt{a b:Str}(h:¬ Sd a b=true):Sd b a=true:=by
 rw[Lp]at *;exactλz=>List.lt_asymm (Decidable.not_not.mp h) z
theorem bp{a b:Str}(h1:Sd a b=true)(h2:Sd b a=true):a=b:=by
 rw[Lp]at *;have e:a.cps.toList=b.cps.toList:=List.le_antisymm (List.not_lt.mp h1) (List.not_lt.mp h2);cases a;cases b
 congr
 exact Array.toList_inj.mp e
theorem Pl(x:Str):∀r:ZD,r.Pairwise (λa b=>Sd a b=true)->(xq x r).Pairwise (λa b=>Sd a b=true)
 | [],_=>List.pairwise_singleton _ _
 | y::r,h=>by
  rw[XZ]at h;unfold xq
  split
  .rename_i hx
   rw[XZ,XZ];exact⟨λz m=>by rcases Yf.mp m with rfl | m;exact hx;exact Wg hx (h.1 z m),h.1,h.2⟩
  .rename_i hx
   rw[XZ];refine⟨λz m=>?_,Pl x r h.2⟩;rcases Yf.mp ((Ni x r).mem_iff.mp m) with rfl | m
   .exact zt hx
   .exact h.1 z m
theorem Qp:∀r:ZD,(G2 r).Pairwise (λa b=>Sd a b=true)
 | []=>List.Pairwise.nil
 | x::r=>Pl x _ (Qp r)
theorem My:∀(l:ZD) (p:Str),risingS p l=true->(p::l).Pairwise (λa b=>Sd a b=true)
 | [],p,_=>List.pairwise_singleton _ _
 | q::l,p,h=>by
  unfold risingS at h;rw[Y8]at h;have r:=My l q h.2
  have h1:Sd p q=true:=by
   have:=h.1;rw[ltCps_eq]at this;exact this
  rw[XZ];refine⟨λz m=>?_,r⟩;rcases Yf.mp m with rfl | m
  .exact h1
  .exact Wg h1 ((XZ.mp r).1 z m)
theorem W8:∀l:ZD,sortedS l=true->l.Pairwise (λa b=>Sd a b=true)
 | [],_=>List.Pairwise.nil
 | p::l,h=>My l p h
theorem su{a b:ZD}(h:a.Perm b)(s:sortedS a=true):a=G2 b :=
 List.Perm.eq_of_pairwise (λ_ _ _ _ h1 h2=>bp h1 h2) (W8 a s) (Qp b) (h.trans (Ys b).symm)
section
variable{prog:Program}{w:World}{A:Around}{E:ZW}{s:Shared}
theorem Of{l:Addr}{o:Obj}{vs:ZM}{n:Nat}{T:String}{Q:ZM->Shared->Prop}(ho:s.heap.get? l=some o)(hc:o.cls=.type T)(hT:T="list" \/ T="tuple")(hd:o.data=.seq vs.toArray n)
  (h:Q vs { s with heap:=(s.heap.push (seqObj "list" #[] 0)).update s.heap.objs.size (Obj.mapSeq (·++vs.toArray)) }) (hsz:vs.length<=sizeLine) :
  wpAny (model prog w) A (collect (.ref l)) Q E s:=by
 unfold collect;refine Zj (wpAny_runValue (codeAny_builtin entry_proto_collect' ?_));show wpAny _ _ (do again (.builtin "list.__iadd__" ⟨[<-newList [],.ref l],[]⟩)) _ _ s;refine Zj (wpAny_newList (Zr ⟨Code.quiet_builtin _ XU,codeAny_builtin entry_list_iadd' ?_⟩));show wpAny _ _ (Builtin.List.listExtendWith (.ref s.heap.objs.size) (.ref l) (.ref s.heap.objs.size)) _ _ { s with heap:=s.heap.push (seqObj "list" #[] 0) };unfold Builtin.List.listExtendWith;have Rn:(s.heap.push (seqObj "list" #[] 0)).get? l=some o:=Yn _ ho;refine Zj (wpAny_typeOf (T:=T) ⟨o,Rn,hc⟩ ?_)
 have ht:(Value.type T==Value.type "list" || Value.type T==Value.type "tuple")=true:=by
  rcases hT with rfl | rfl<;>rfl
 rw[if_pos (by rw[Bool.or_assoc,ht];simp)];refine Zj (listItems_at Rn hd ?_);refine Zj (listItems_at (xs:=#[]) (n:=0) (Ur _ rfl) rfl ?_);rw[if_neg XI];refine Zj (listUpdate_at (xs:=#[]) (n:=0) (Ur _ rfl) rfl ?_ (B0 _) (by show (#[]++vs.toArray).size<=sizeLine+1;simp only[Array.size_append,Jh,List.length_nil];omega));refine Zr ?_
 show wpAny (model prog w) A (do
   let o <-load s.heap.objs.size
   match o.data with
   | .seq xs _=>pure xs.toList
   | _=>unsupported "internal:collect") Q E { s with heap:=(s.heap.push (seqObj "list" #[] 0)).update s.heap.objs.size (Obj.mapSeq (·++vs.toArray)) }
 refine Zj (wpAny_load (get?_update_seq (Ur _ rfl) _) ?_);show wpAny _ _ (pure ((#[]:ZN)++vs.toArray).toList) Q E _;rw[show ((#[]:ZN)++vs.toArray).toList=vs by simp];exact Zr h
theorem Qi{l:Addr}{o:Obj}{vs:ZM}{n:Nat}{T:String}{Q:ZW}(ho:s.heap.get? l=some o)(hc:o.cls=.type T)(hT:T="list" \/ T="tuple")(hd:o.data=.seq vs.toArray n)(hsz:vs.length<=sizeLine)
  (h:∀(h1:Heap) (D:Addr),(∀b ob,s.heap.get? b=some ob->h1.get? b=some ob)->s.heap.objs.size<=D->h1.get? D=some (seqObj "list" vs.toArray 0) ->
   wpAny (model prog w) A.in1 (call (.builtin "list.sort") [.ref D]) (λ_ s'=>Q (.ref D) s') E { s with heap:=h1 }) :
  wpAny (model prog w) A (call (.builtin "sorted") [.ref l]) Q E s:=by
 refine Calls.call_function_entry kind_sorted plain_sorted entry_sorted (args_sorted1 _) ?_;unfold Builtin.«sorted»;refine Zj (m:=checkCount "sorted" 1 1 _) (Zr ?_);refine Zj (Of ho hc hT hd ?_ hsz);refine Zj (wpAny_newList ?_ hsz)
 have hs1:((s.heap.push (seqObj "list" #[] 0)).update s.heap.objs.size (Obj.mapSeq (·++vs.toArray))).objs.size=s.heap.objs.size+1:=by
  rw[Heap.size_update,size_push']
 have k1:∀b ob,s.heap.get? b=some ob->((s.heap.push (seqObj "list" #[] 0)).update s.heap.objs.size (Obj.mapSeq (·++vs.toArray))).get? b=some ob:=λb ob e=>by
  rw[Heap.get?_update_ne _ _ _ _ (Dz (Ye e))];exact Yn _ e
 have hg:=h ((((s.heap.push (seqObj "list" #[] 0)).update s.heap.objs.size (Obj.mapSeq (·++vs.toArray)))).push (seqObj "list" vs.toArray 0)) _ (λb ob e=>Yn _ (k1 b ob e)) (by rw[hs1];exact Nat.le_succ _) (Ur _ rfl);refine Zj (wpAny_holding (wpAny_mono hg (λ_ s' x=>?_) λ_ _ e=>e));exact Zr ⟨_,rfl,x⟩
def Srt(prog:Program)(w:World)(Ok:Heap->Prop)(vs:ZM)(R:ZM->Prop):Prop:=∀(A:Around) (E:ZW) (s:Shared) (D:Addr) (Q:Shared->Prop),Ok s.heap->s.heap.get? D=some (seqObj "list" vs.toArray 0) ->
 (∀(h1:Heap) (out:ZN) (n:Nat),(∀b ob,b≠D->s.heap.get? b=some ob->h1.get? b=some ob)->h1.get? D=some (seqObj "list" out n)->R out.toList->Q { s with heap:=h1 }) ->
 wpAny (model prog w) A (call (.builtin "list.sort") [.ref D]) (λ_ s'=>Q s') E s
theorem vw{Ok:Heap->Prop}{vs:ZM}{zs:ZL}(hI:IntsAre vs zs)(h64:vs.length<64):Srt prog w Ok vs λo=>IntsAre o (Eg zs):=by
 intro A E s D Q _ Vi h;refine wpAny_call_entry slot_list_sort ⟨_,Vi,rfl⟩ entry_list_sort ?_ (args_list_sort _);refine list_sort_tree Vi hI h64 λout ns q1 q2 q3=>⟨_,rfl,?_⟩;obtain⟨n,e⟩:=sortedHeap_at (h:=s.heap) (a:=D) (vs:=vs) (n:=0) (out:=out) Vi;exact h _ out n (λb ob nb e0=>SetM.Yo nb e0) e (by rw[<-pz q2 q3];exact q1)
theorem srt_strs{Ok:Heap->Prop}{vs:ZM}{ss:ZD}(hI:StrsAre vs ss)(h64:vs.length<64):Srt prog w Ok vs λo=>StrsAre o (G2 ss):=by
 intro A E s D Q _ Vi h;refine wpAny_call_entry slot_list_sort ⟨_,Vi,rfl⟩ entry_list_sort ?_ (args_list_sort _);refine list_sort_treeK strKind_oneLt Vi hI.keysOf (λv1 v2 rest e=>keyKind_strs (by rw[<-e];exact hI)) h64 λst hp hs=>⟨_,rfl,?_⟩;obtain⟨ns,q1,q2,q3⟩:=sorted_out_str hI hp hs;obtain⟨n,e⟩:=sortedHeap_at (h:=s.heap) (a:=D) (vs:=vs) (n:=0) (out:=(arrOf st).map (·.2)) Vi;exact h _ _ n (λb ob nb e0=>SetM.Yo nb e0) e (by rw[<-su q2 q3];exact q1)
end
theorem Wm:∀{zs:ZL} {vs:ZM},Zf (zs.map V.int) vs->IntsAre vs zs
 | [],_,h=>by cases h;exact .nil
 | z::zs,_,h=>by
  cases h with | cons a b =>
  obtain⟨t,rfl⟩:=(show ∃t,_=Value.int z t from a);exact .cons _ _ (Wm b)
theorem R7:∀{zs:ZD} {vs:ZM},Zf (zs.map V.str) vs->StrsAre vs zs
 | [],_,h=>by cases h;exact .nil
 | z::zs,_,h=>by
  cases h with | cons a b =>
  obtain⟨t,rfl⟩:=(show ∃t,_=Value.str z t from a);exact .cons _ _ (R7 b)
theorem R6{P:Program}{w:World}:∀{XD:List (Key×Value)} {vs:ZM},vs.length=XD.length->(∀(j:Nat) (v:Value),vs[j]?=some v->∃k x,XD[j]?=some (k,x)/\(Zd P w).is k v=true)->Zf (XD.map λp=>kV p.1) vs
 | [],vs,l,_=>by
  cases vs with
  | nil=>exact .nil
  | cons _ _=>simp at l
 | (k,x)::r,vs,l,h=>by
  cases vs with
  | nil=>simp at l
  | cons v vs =>
   obtain⟨k',x',ek,iv⟩:=h 0 v rfl;cases(show some (k,x)=some (k',x') from ek);refine .cons ?_ (R6 (by simpa using l) λj v hv=>h (j+1) v hv);rcases Zi (show Bv k v=true from iv) with ⟨j,t,rfl,rfl⟩ | ⟨y,t,rfl,rfl⟩
   .exact⟨t,rfl⟩
   .exact⟨t,rfl⟩
section
variable{X:Cx}
def qx(X:Cx)(H:Hp)(zs ys:ZQ):Prop:=ys.length=zs.length/\∀XM Z s,Inv X XM Z H s->∀vs,Zf zs vs->∃Ok:Heap->Prop,(∀h1:Heap,(∀b o,b≠X.env.locals->s.heap.get? b=some o->h1.get? b=some o)->Ok h1)/\Srt X.prog X.w Ok vs λo=>Zf ys o
theorem Xh{H:Hp}{zs:ZL}(h:zs.length<64):qx X H (zs.map V.int) ((Eg zs).map V.int):=by
 refine⟨by rw[Yc,Yc,(Gh zs).length_eq],λXM Z s I vs r=>⟨λ_=>True,λ_ _=>trivial,?_⟩⟩;have:=vw (prog:=X.prog) (w:=X.w) (Ok:=λ_=>True) (Wm r) (by rw[<-r.length,Yc];exact h);intro A E s D Q o e q;exact this A E s D Q o e λh1 out n k e1 r1=>q h1 out n k e1 (Nd r1)
theorem Xs{H:Hp}{zs:ZD}(h:zs.length<64):qx X H (zs.map V.str) ((G2 zs).map V.str):=by
 refine⟨by rw[Yc,Yc,(Ys zs).length_eq],λXM Z s I vs r=>⟨λ_=>True,λ_ _=>trivial,?_⟩⟩;have:=srt_strs (prog:=X.prog) (w:=X.w) (Ok:=λ_=>True) (R7 r) (by rw[<-r.length,Yc];exact h);intro A E s D Q o e q;exact this A E s D Q o e λh1 out n k e1 r1=>q h1 out n k e1 (R4 r1)
theorem M9:Yb X (.builtin "sorted") (λxs H Q=>∃(a:Addr) (zs ys:ZQ),xs=[.ref a]/\(V0 X.K H a zs\/Y1 X.K H a zs)/\qx X H zs ys/\∀l:Addr,H l=none->Q (.ref l) (upd H l (.lst ys))):=by
 intro XM s Z H xs us Q I r h;obtain⟨a,zs,ys,rfl,hq,hv,q⟩:=h;obtain⟨u,rfl,rx⟩:=vals1 r;cases rx
 obtain⟨XT,o,T,n,rv,e0,hc,hT,hd,z⟩:∃(XT:ZM) (o:Obj) (T:String) (n:Nat),Zf zs XT/\s.heap.get? a=some o/\o.cls=.type T/\(T="list" \/ T="tuple")/\o.data=.seq XT.toArray n/\zs.length<=sizeLine:=by
  rcases hq with hq | hq
  .obtain⟨XT,rv,⟨o,n,e,hc,_,hd⟩,z⟩:=I.list hq;exact⟨XT,o,_,n,rv,e,hc,.inl rfl,hd,z⟩
  .obtain⟨XT,rv,⟨o,e,hc,n,hd⟩,z⟩:=I.tuple hq;exact⟨XT,o,_,n,rv,e,hc,.inr rfl,hd,z⟩
 obtain⟨lv,hv⟩:=hv;obtain⟨Ok,ok,st⟩:=hv XM Z s I XT rv;refine Qi e0 hc hT hd (by rw[<-rv.length];exact z) λh1 D k1 sz Vi=>?_;refine st _ _ { s with heap:=h1 } D _ (ok h1 λb o _ e=>k1 b o e) Vi λh2 out n k2 at2 r2=>?_;refine⟨.ref D,_,I.put (o:=.lst ys) (t':=s.toks) (d':=s.drawn) (λb o e=>k2 b o (Dz (Rv (Ye e) sz)) (k1 b o e)) sz ⟨by rw[lv];exact z,out.toList,n,r2,by simpa using at2⟩,rfl,q D (I.hok.fresh sz)⟩
theorem Ff(hc:X.calm=true):Yb X (.builtin "sorted") (λxs H Q=>∃(a:Addr) (XD:List (Key×V)) (ys:ZQ),xs=[.ref a]/\Rd H a (.dK XD)/\qx X H (XD.map λp=>kV p.1) ys/\∀l:Addr,H l=none->Q (.ref l) (upd H l (.lst ys))):=by
 intro XM s Z H xs us Q I r h;obtain⟨a,XD,ys,rfl,hq,⟨lv,hv⟩,q⟩:=h;obtain⟨u,rfl,rx⟩:=vals1 r;cases rx;obtain⟨z,hd,ws,rel,dd⟩:=Jr I.hok hq;obtain⟨ep,da⟩:=dd.dictAt;obtain⟨m,hn,fr,nw⟩:=I.frame;refine W.kdu_sorted (W.kdl_dict (knd:=Zd X.prog X.w) (ep:=ep) hd) (I.ok.hd hc) fr nw da (by rw[<-rel.length];exact z) λD h' tk vs f' n' hD vl hv'=>?_
 have rv:Zf (XD.map λp=>kV p.1) vs:=by
  have:=R6 vl hv';have e:=congrArg (List.map kV) rel.keys;rw[List.map_map,List.map_map]at e;have e:(XD.map λp=>kV p.1)=ws.map λp=>kV p.1:=e;rw[e];exact this
 obtain⟨Ok,ok,st⟩:=hv XM Z s I vs rv;have ka:=Ma f' n' λp hp=>Y3 _ hp;have nD:=Inv.newAt (X:=X) (m:=m) n' hD;obtain⟨eD,nDL,_⟩:=n' _ Yu;have Vi:h'.get? D=some (seqObj "list" vs.toArray 0):=eD;refine st _ _ { s with heap:=h',toks:=tk } D _ (ok h' λb o nb e=>ka b o nb e) Vi λh2 out n k2 at2 r2=>?_;have neD:∀{b:Addr} {o:Obj},s.heap.get? b=some o->b≠D:=λ{b o} e z=>by rw[z,nD]at e;cases e
 obtain⟨J,fD⟩:=I.lay2 (h':=h2) (D:=D) (u:=.lst ys) (t':=tk) hn (B6 f'.ns λo e=>k2 _ o (λz=>nDL z.symm) e) (λb o nb eb=>k2 b o (neD eb) (ka b o nb eb)) nD ⟨by rw[lv,Yc];exact z,out.toList,n,r2,by simpa using at2⟩;exact⟨.ref D,_,J,rfl,q D fD⟩
end
end SRT
namespace DicL
open PySem PySem.Spec PyProof.Rows
open DicP2
theorem tl1:typeLookup (.type "list") (Str.ofString "__getattribute__")=pure (some (.builtin "list.__getattribute__")):=by rw[typeLookup_type,builtinLookup_eq_fast];kernel_rfl
theorem tl2:typeLookup (.type "list") (Str.ofString "keys")=pure none:=by rw[typeLookup_type,builtinLookup_eq_fast];kernel_rfl
theorem tl3:typeLookup (.type "list") (Str.ofString "__getattr__")=pure none:=by rw[typeLookup_type,builtinLookup_eq_fast];kernel_rfl
theorem slot_ga:Slot "list" (Str.ofString "__getattribute__") "list.__getattribute__" := Slot.of (owner:="list") (n:="__getattribute__") tl1 XU XU XU (.inl XU) (by rw[isSubtype_type];kernel_rfl)
theorem tf:entryFor table "list.__getattribute__"=some Builtin.«object.__getattribute__»:=entryFor_alias (id':="object.__getattribute__") (by kernel_rfl) rfl XU (by kernel_rfl)
theorem Zxv(a b:Value):argsOk "list.__getattribute__" ⟨[a,b],[]⟩:=by unfold argsOk;kernel_rfl
theorem Zzd{prog:Program}{w:World}{A:Around}{E:ZW}{s:Shared}{u:Nat}{a:Addr}{XT:ZN}{n:Nat}{sl:ZF}{Q:PySem.Fin->Shared->Prop}(hh:A.handled=none)(ho:s.heap.get? a=some ⟨.type "list",none,.seq XT n,sl⟩)
  (hq:∀e h' t',(∃o,h'.get? e=some o/\o.cls=.type "AttributeError")->(∀b u,s.heap.get? b=some u->h'.get? b=some u)->E (.ref e) { s with heap:=h',toks:=t' }):wpAny (model prog w) A (Builtin.«object.__getattribute__» ⟨[.ref a,.str (Str.ofString "keys") u],[]⟩) Q E s:=by
 obtain⟨h,g,d,t,os⟩:=s;have ho:h.get? a=some ⟨.type "list",none,.seq XT n,sl⟩:=ho;unfold Builtin.«object.__getattribute__»
 wp_walk
 show wpAny _ _ (typeLookup (.type "list") _) _ _ _;rw[tl2]
 wp_walk
 have hl:(Str.ofString (toString "'" ++ toString ((Manifest.find? "list").elim "list" λx=>x.tpName)++toString "' object has no attribute '")++Str.ofString "keys" ++ Str.ofString "'").length<=sizeLine:=XU
 generalize (Str.ofString (toString "'" ++ toString ((Manifest.find? "list").elim "list" λx=>x.tpName)++toString "' object has no attribute '")++Str.ofString "keys" ++ Str.ofString "'")=msg at hl ⊢;unfold raiseAttrError;refine Zj (wpAny_mkStr ?_ hl);refine Zj (newAE λh1 e t1 k1 e1 n1=>?_);refine Zj (wpAny_mkText ?_);refine Zj (note e1 λh2 d2 sb e2=>?_);refine wpAny_raiseNew_none hh (hq e h2 _ ⟨_,e2,rfl⟩ λb u q=>?_);refine(sb.2 b λz=>?_).trans (k1 b u q);rw[z]at q;rw[show h.get? e=none from n1]at q;cases q
theorem hb0:hookBefore (.type "list")=pure none:=rfl
theorem zp{prog:Program}{w:World}{A:Around}{E:ZW}{s:Shared}{a:Addr}{XT:ZN}{n:Nat}{sl:ZF}{Q:ZT->Shared->Prop}(hh:A.handled=none)(ho:s.heap.get? a=some ⟨.type "list",none,.seq XT n,sl⟩)
  (hq:∀h' t',(∀b u,s.heap.get? b=some u->h'.get? b=some u)->Q none { s with heap:=h',toks:=t' }):wpAny (model prog w) A (getAttr? (.ref a) (Str.ofString "keys")) Q E s:=by
 obtain⟨h,g,d,t,os⟩:=s;have ho:h.get? a=some ⟨.type "list",none,.seq XT n,sl⟩:=ho;unfold getAttr?;refine Zj (wpAny_mkText ?_);unfold getAttrBy?;refine Zj (wpAny_attempt ?_);unfold getAttrBy;refine wpAny_holding ?_;have ht:Shared.TypeIs ⟨h,g,d,t+1,os⟩ (.ref a) "list" := ⟨_,ho,rfl⟩;refine Zj (wpAny_typeOf ht ?_);rw[tl1];refine Zj (Zr ?_);simp only[];refine wpAny_ite_split (λz=>absurd z XA) λ_=>?_;unfold getAttrByItsOwn;rw[hb0];refine Zj (Zr ?_);refine Zj (wpAny_attempt (wpAny_holding ?_));show wpAny _ _ (boundAndCalled (.builtin "list.__getattribute__") (.ref a) _) _ _ _;unfold boundAndCalled;rw[slot_ga.toG.bind];refine Zj (Zr ?_);show wpAny _ _ (call (.builtin "list.__getattribute__") [.ref a,.str (Str.ofString "keys") t]) _ _ _;refine wpAny_call_entry slot_ga ht tf ?_ (Zxv _ _);refine Zzd (s:=⟨h,g,d,t+1,os⟩) hh ho λe h' t' he kp=>?_;obtain⟨o,e1,e2⟩:=he;have ae:∀t'',Shared.TypeIs ⟨h',g,d,t'',os⟩ (.ref e) "AttributeError" := λ_=>⟨o,e1,e2⟩;show wpAny _ _ (getattributeRaised _ _ _ _ _ _ _) _ _ _;unfold getattributeRaised;refine Zj (wpAny_isInstance (T:="AttributeError") (b:=true) (ae _) (by rw[isSubtype_type];kernel_rfl) ?_);simp only[if_true];rw[show hookBehind (Value.type "list") none=typeLookup (.type "list") (Str.ofString "__getattr__") from rfl,tl3];refine Zj (Zr ?_);unfold hookOrError;simp only[];unfold attributeErrorLeaves;simp only[Bool.not_false,if_true];refine Zj (wpAny_throw ?_);refine Zj (wpAny_isInstance (T:="AttributeError") (b:=true) (ae _) (by rw[isSubtype_type];kernel_rfl) ?_);simp only[if_true];exact Zr (hq h' t' kp)
end DicL
namespace DicL
open PySem PySem.Spec PyProof.Rows DicP2
section
variable{prog:Program}{w:World}{K:Type}[DecidableEq K]{knd:PySem.KeyKind prog w K}
variable{A:Around}{R:Result->Shared->Prop}{E:ZW}{s:Shared}{d it t:Addr}{XT:ZN}{rs:List (K×Value)}
theorem loop(hh:A.handled=none)(hdi:d≠it)(htd:t≠d)(hti:t≠it)(hz:rs.length<=sizeLine){h₁:Heap}(ht:h₁.IsList t XT)(hp:Prs knd h₁ XT rs)(hpd:∀(p:Addr),.ref p∈XT.toList->p≠d/\p≠it)
  (fin:∀h' tk,(∀b o,b≠d->b≠it->h₁.get? b=some o->h'.get? b=some o)->h'.DictOf knd d (stK rs rs.length)->R (.ok (.ret .none)) { s with heap:=h',toks:=tk }) :
  ∀(k i:Nat) (h:Heap) (tk:Nat),rs.length-i=k->i<=rs.length->(∀b o,b≠d->b≠it->h₁.get? b=some o->h.get? b=some o)->h.IsListIter it t i->h.DictOf knd d (stK rs i) ->
   codeAny (model prog w) A (.builtin "dict.update.loop" ⟨[.ref d,.ref it,rawInt i,.none],[]⟩) R { s with heap:=h,toks:=tk }:=by
 intro k
 induction k with
 | zero =>
  intro i h tk hk hi kp st dd;have ei:i=rs.length:=XH
  subst ei;refine codeAny_builtin T4 ?_;rw[Around.under_plainId Jj _]
  change wpAny _ A.in1 (pyNext (.ref it) >>= _) _ _ _
  refine Zj (wpAny_pyNext_list_end (s:={ s with heap:=h,toks:=tk }) (A:=A.in1) hh st (ht.at λo e=>kp _ o htd hti e) (Array.getElem?_eq_none (by rw[hp.1];exact Yk _)) λh' ext=>?_)
  change wpAny _ A.in1 (Builtin.Dict.addKeywords d [] >>= _) _ _ _
  refine Zj (m:=Builtin.Dict.addKeywords d []) ?_;unfold Builtin.Dict.addKeywords;simp only[List.forIn_nil];refine Zj (Zr (Zr (Zr ?_)));refine fin h' tk (λb o n1 n2 e=>ext b o n2 (kp b o n1 n2 e)) ?_;obtain⟨o,es,ep,e1,r⟩:=dd;exact⟨o,es,ep,ext d o hdi e1,r⟩
 | succ k ih =>
  intro i h tk hk hi kp st dd;have qg:i<rs.length:=XH
  obtain⟨⟨kk,vv⟩,hkv⟩:∃p,rs[i]?=some p:=⟨rs[i],D4 qg⟩;obtain⟨p,u,ep,tp,ku⟩:=hp.2 i kk vv hkv;have np:=hpd p (by rw[<-Array.mem_def];exact Array.mem_of_getElem? ep);refine codeAny_builtin T4 ?_;rw[Around.under_plainId Jj _]
  change wpAny _ A.in1 (pyNext (.ref it) >>= _) _ _ _
  refine Zj (wpAny_pyNext_list_item (s:={ s with heap:=h,toks:=tk }) (A:=A.in1) st (ht.at λo e=>kp _ o htd hti e) ep λh' Sy sb=>?_);have Ex:IsTup h' p #[u,vv]:=let ⟨o,e1,e2⟩:=tp;⟨o,sb.extBut _ _ np.2 (kp _ _ np.1 np.2 e1),e2⟩;have dd':h'.DictOf knd d (stK rs i):=let ⟨o,es,ep,e1,r⟩:=dd;⟨o,es,ep,sb.extBut _ _ hdi e1,r⟩;simp only[];refine Zj (wpAny_holding (Zj (wpAny_tryCatch ?_)));unfold Builtin.Dict.pairItems;refine Zj (wpAny_typeOf (T:="tuple") Ex.typeIs ?_);simp only[show (Value.type "tuple" == Value.type "list" || Value.type "tuple" == Value.type "tuple")=true from by decide,if_true];obtain⟨o,e1,e2,n,e3⟩:=id Ex;refine Zj (m:=seqItems? (.ref p)) ?_;unfold seqItems?;simp only[];refine Zj (wpAny_load e1 ?_);rw[e3];refine Zr (Zr ?_);show wpAny _ _ (holding [u,vv] (dictSet d u vv)) _ _ _;refine wpAny_holding ?_;refine wpAny_dictSet_pairs (hsz:=D0 (W5 rs i) (D0 hi hz)) ku dd' λh2 dd2 sb2=>?_;refine Zr ⟨plainId_quiet Jj _,?_⟩;refine ih (i+1) h2 _ XH qg (λb o n1 n2 e=>sb2.extBut _ _ n1 (sb.extBut _ _ n2 (kp b o n1 n2 e))) (Sy.extBut sb2.extBut hdi.symm) ?_;rw[Qh hkv];exact dd2
theorem Kg{Q:ZW}(hh:A.handled=none){n:Nat}{sl:ZF}(ho:s.heap.get? t=some ⟨.type "list",none,.seq XT n,sl⟩)(hp:Prs knd s.heap XT rs)(hz:rs.length<=sizeLine)
  (hl:∀(p:Addr),.ref p∈XT.toList->p<s.heap.objs.size)
  (fin:∀h' tk,(∀b o,s.heap.get? b=some o->h'.get? b=some o)->h'.DictOf knd s.heap.objs.size (stK rs rs.length)->Q (.ref s.heap.objs.size) { s with heap:=h',toks:=tk }) :
  wpAny (model prog w) A (call (.type "dict") [.ref t]) Q E s:=by
 have lt:∀{c o},s.heap.get? c=some o->c≠s.heap.objs.size:=λe=>Dz (Ye e);have pu:∀{c o},s.heap.get? c=some o->(s.heap.push { cls:=.type "dict",data:=.dict #[] }).get? c=some o:=λe=>Yn _ e
 refine callType_codes (Q₁:=λobj s₁=>obj=.ref s.heap.objs.size/\s₁={ s with heap:=s.heap.push { cls:=.type "dict",data:=.dict #[] } }) F.kt_called_dict (F.kt_typeCall_dict_1 _) F.entry_dict_init
  (kt_code_dict_new _ ⟨rfl,rfl⟩) λobj s₁ q=>?_
 obtain⟨rfl,rfl⟩:=q;have Vi:(s.heap.push { cls:=.type "dict",data:=.dict #[] }).get? s.heap.objs.size=some { cls:=.type "dict",data:=.dict #[] }:=Ur _ rfl;refine⟨⟨_,Vi,rfl⟩,F.args_dict_init_2 _ _,?_⟩;have ty:Shared.TypeIs { s with heap:=s.heap.push { cls:=.type "dict",data:=.dict #[] } } (.ref s.heap.objs.size) "dict" := ⟨_,Vi,rfl⟩;unfold Builtin.«dict.__init__»;unfold Builtin.Dict.selfAndRest;refine Zj (Zj (wpAny_notOrdered_dict ty ?_));refine Zj (m:=Builtin.Dict.addrOf (.ref s.heap.objs.size)) (Zr (Zr ?_));show wpAny _ _ (Builtin.Dict.updateFrom "dict.__init__" s.heap.objs.size (.ref t) [] .none) _ _ _;unfold Builtin.Dict.updateFrom;refine Zj (wpAny_typeOf (T:="list") ⟨_,pu ho,rfl⟩ ?_);simp only[show (Value.type "list" != Value.type "dict")=true from by decide,if_true];refine Zj (zp (s:={ s with heap:=s.heap.push { cls:=.type "dict",data:=.dict #[] } }) (A:=A.in1.in1) hh (pu ho) λh2 t2 k2=>?_);simp only[Option.isNone_none,if_true];refine Zj (wpAny_rule ?_);have tu:Heap.IsList h2 t XT:=⟨_,k2 _ _ (pu ho),rfl,n,rfl⟩;refine Zj (wpAny_pyIter_list (s:={ s with heap:=h2,toks:=t2 }) tu ?_);have lt2:∀{c o},h2.get? c=some o->c≠h2.objs.size:=λe=>Dz (Ye e);have at2:=k2 _ _ Vi;have sz2:s.heap.objs.size<h2.objs.size:=Ye at2;refine Zr ⟨plainId_quiet Jj _,?_⟩;have kp3:∀b o,h2.get? b=some o->(h2.push { cls:=.type "list_iterator",data:=.fields #[.ref t,.int 0 0] }).get? b=some o:=λb o e=>Yn _ e;refine loop (knd:=knd) (s:=s) (A:=A.in1) (d:=s.heap.objs.size) (it:=h2.objs.size) (t:=t) hh (Dz sz2) (lt ho) (lt2 (k2 _ _ (pu ho))) hz (h₁:=h2.push { cls:=.type "list_iterator",data:=.fields #[.ref t,.int 0 0] }) (tu.at λo e=>kp3 _ o e) ⟨hp.1,λj k v e=>?_⟩ (λp hm=>⟨Dz (hl p hm),Dz (Nat.lt_trans (hl p hm) sz2)⟩) (λh' tk kp dd=>?_) _ 0 _ t2 rfl (B0 _) (λb o _ _ e=>e) ⟨_,Ur _ rfl,rfl,rfl⟩ ?_
 .obtain⟨p,u,e1,tp,ku⟩:=hp.2 j k v e;exact⟨p,u,e1,let ⟨o,a1,a2⟩:=tp;⟨o,kp3 _ _ (k2 _ _ (pu a1)),a2⟩,ku⟩
 .refine⟨rfl,fin h' tk (λb o e=>kp b o (lt e) (lt2 (k2 _ _ (pu e))) (kp3 _ _ (k2 _ _ (pu e)))) dd⟩
 .exact⟨_, #[],_,kp3 _ _ at2,⟨rfl,rfl,rfl⟩,rfl,λe he=>by simp at he,.nil,List.nodup_nil⟩
end
end DicL
namespace SetM
open PySem PySem.Spec PyProof.Rows
section
variable{prog:Program}{w:World}{A:Around}{E:ZW}{s:Shared}
variable{K:Type}[DecidableEq K]{knd:KeyKind prog w K}
end
end SetM
namespace L2
open PySem PySem.Spec PyProof.Rows
section
variable{X:Cx}
theorem Bo(hc:X.calm=true):Yb X (.type "dict") (λxs H Q=>∃(a:Addr) (ys:ZQ) (XD:List (Key×V)),xs=[.ref a]/\V0 X.K H a ys/\ys.length=XD.length/\(∀(j:Nat) (k:Key) (v:V),XD[j]?=some (k,v)->∃p,ys[j]?=some (.ref p)/\Y1 X.K H p [kV k,v]) /\
  ∀D,H D=none->Q (.ref D) (upd H D (.dK (Wc XD)))):=by
 intro XM s Z H xs us Q I r h;obtain⟨a,ys,XD,rfl,sq,hl,hp,q⟩:=h;obtain⟨u,rfl,rx⟩:=vals1 r;cases rx;obtain⟨XT,rv,⟨o,n,e1,e2,e4,e3⟩,hz⟩:=I.list sq;obtain⟨oc,od,dt,sl⟩:=o;obtain rfl:oc=_:=e2;obtain rfl:dt=_:=e3;obtain rfl:od=none:=e4
 obtain⟨rs,kv,pr⟩:=Pt (P:=λj k w=>∃p u,XT.toArray[j]?=some (.ref p)/\IsTup s.heap p #[u,w]/\(Zd X.prog X.w).is k u=true) (XD:=XD) 0 λj k v e=>by
  obtain⟨p,ep,sp⟩:=hp j k v e;obtain⟨jts,jr,tp,_⟩:=I.tuple sp;cases jr with
  | cons j1 j2=>cases j2 with
   | cons j2 j3 =>
    cases j3;obtain⟨w,ew,Ly⟩:=rv.get ep;cases(show w=Value.ref p from Ly);exact⟨_,j2,p,_,by simpa using ew,tp,By j1⟩
 have lr:XT.toArray.size=rs.length:=by rw[Jh, <-rv.length,hl,kv.length]
 have pr':∀(j:Nat) (k:Key) (w:Value),rs[j]?=some (k,w)->∃p u,XT.toArray[j]?=some (.ref p)/\IsTup s.heap p #[u,w]/\(Zd X.prog X.w).is k u=true:=λj k w e=>by
  have:=pr j k w e;rw[Nat.zero_add]at this;exact this
 have kz:XD.length<=sizeLine:=by rw[<-hl];exact hz
 refine DicL.Kg (knd:=Zd X.prog X.w) (rs:=rs) (I.ok.hd hc) e1 ⟨lr,pr'⟩ (by rw[<-kv.length];exact kz) (λp hm=>?_) λh' tk kp dd=>?_
 .obtain⟨j,hj⟩:=List.mem_iff_getElem?.mp hm
  have hjl:j<rs.length:=by
   rw[<-lr];have:=(Rk.mp hj).1;simpa using this
  obtain⟨p',u,a1,tp,_⟩:=pr' j _ _ (D4 hjl);have:Value.ref p=Value.ref p':=Je ((show XT.toArray[j]?=some (.ref p) by simpa using hj).symm.trans a1);cases this;exact tp.lt
 .refine⟨.ref s.heap.objs.size,_,I.laid (o:=.dK (Wc XD)) (t':=tk) kp (Yk _) (Kj ?_ (qd.mpr (Ne.symm (Dz I.big))) (vs:=DicP2.stK rs rs.length) ?_ dd),rfl,q _ (I.hok.fresh (Yk _))⟩
  .have:=N3 XD [];unfold Wc;simp only[List.length_nil,Nat.zero_add]at this;omega
  .unfold DicP2.stK Wc;rw[List.take_length];exact A6 kv .nil
end
end L2
namespace PySem.SeqAt
open PySem PySem.Spec PyProof.Rows PySem.Calls
section
variable{A:Around}{s:Shared}
end
end PySem.SeqAt
namespace SRT
open PySem PySem.Spec PyProof.Rows PySem.W
section
variable{n:Nat}{z:Nat->Int}{s:Shared}{cmp:Nat->Nat->(Bool->Shared->Prop)->Shared->Prop}
def Pm(n:Nat)(p:ZS):Prop:=p.toList.Perm (List.range n)
noncomputable def ky(z:Nat->Int)(p:ZS)(k:Nat):Int:=z (p[k]?.getD 0)
def Ke(z:Nat->Int)(p:ZS)(k:Nat):Prop:=∀i j,i<j->j<k->ky z p i<ky z p j
def Dn(z:Nat->Int)(p:ZS)(k:Nat):Prop:=∀i j,i<j->j<k->ky z p j<ky z p i
theorem getD_eq(p:ZS)(k:Nat):p.getD k 0=p[k]?.getD 0:=by
 unfold Array.getD
 split
 .rename_i h;rw[rm h];rfl
 .rename_i h;rw[Array.getElem?_eq_none XH];rfl
theorem Pm.size{p:ZS}(h:Pm n p):p.size=n:=by rw[<-qt,h.length_eq,XY]
theorem Pm.lt{p:ZS}(h:Pm n p){k:Nat}(hk:k<n):p[k]?.getD 0<n:=by
 have hs:k<p.size:=by rw[h.size];exact hk
 rw[rm hs];exact List.mem_range.mp (h.mem_iff.mp (Array.mem_def.mp (Array.getElem_mem hs)))
theorem Pm.inj{p:ZS}(h:Pm n p){k l:Nat}(hk:k<n)(hl:l<n)(e:p[k]?.getD 0=p[l]?.getD 0):k=l:=by
 have hs:k<p.size:=by rw[h.size];exact hk
 have ht:l<p.size:=by rw[h.size];exact hl
 rw[rm hs,rm ht]at e;have nd:p.toList.Nodup:=h.nodup_iff.mpr List.nodup_range;have e:p[k]=p[l]:=e;rw[<-Array.getElem_toList (h:=hs), <-Array.getElem_toList (h:=ht)]at e;rcases Nat.lt_trichotomy k l with q | q | q
 .exact absurd e (List.pairwise_iff_getElem.mp nd k l _ _ q)
 .exact q
 .exact absurd e.symm (List.pairwise_iff_getElem.mp nd l k _ _ q)
theorem Pm.perm{p q:ZS}(h:Pm n p)(e:q.Perm p):Pm n q:=(Array.perm_iff_toList_perm.mp e).trans h
variable(hz:∀i j,i<n->j<n->z i=z j->i=j)(hc:∀i j,i<n->j<n->i≠j->∀C:Bool->Shared->Prop,C (decide (z i<z j)) s->cmp i j C s)
include hz in
theorem Pm.ne{p:ZS}(h:Pm n p){k l:Nat}(hk:k<n)(hl:l<n)(e:ky z p k=ky z p l):k=l:=h.inj hk hl (hz _ _ (h.lt hk) (h.lt hl) e)
include hc in
theorem C4{Z:Type}{p:ZS}(h:Pm n p){i j:Nat}(hi:i<n)(hj:j<n)(Wd:i≠j){k:Bool->KasT Z}{Q:Z->Shared->Prop}(g:(k (decide (ky z p i<ky z p j))).kasWp cmp Q s):(KasT.ask (p.getD i 0) (p.getD j 0) k).kasWp cmp Q s:=by
 rw[getD_eq,getD_eq];exact hc _ _ (h.lt hi) (h.lt hj) (λe=>Wd (h.inj hi hj e)) _ g
theorem Ke.succ{p:ZS}{m:Nat}(h:Ke z p m)(h1:1<=m)(e:ky z p (m-1)<ky z p m):Ke z p (m+1):=λi j Wd hj=>by
 rcases Nat.lt_or_ge j m with hjm | hjm
 .exact h i j Wd hjm
 .obtain rfl:j=m:=by omega
  rcases Nat.lt_or_ge i (j-1) with hi | hi
  .exact Int.lt_trans (h i (j-1) hi XH) e
  .obtain rfl:i=j-1:=by omega
   exact e
theorem Dn.succ{p:ZS}{m:Nat}(h:Dn z p m)(h1:1<=m)(e:ky z p m<ky z p (m-1)):Dn z p (m+1):=λi j Wd hj=>by
 rcases Nat.lt_or_ge j m with hjm | hjm
 .exact h i j Wd hjm
 .obtain rfl:j=m:=by omega
  rcases Nat.lt_or_ge i (j-1) with hi | hi
  .exact Int.lt_trans e (h i (j-1) hi XH)
  .obtain rfl:i=j-1:=by omega
   exact e
include hz hc in
theorem Ka{p:ZS}(h:Pm n p){Q:Nat->Shared->Prop}:∀(f m:Nat),1<=m->m+f=n->Ke z p m->(∀m',m<=m'->m'<=n->Ke z p m'->(m'=n\/(m'<n/\ky z p m'<ky z p (m'-1)))->Q m' s)->(kas_asc p f m).kasWp cmp Q s
 | 0,m,h1,hm,hu,g=>g m (Yk _) XH hu (.inl XH)
 | f+1,m,h1,hm,hu,g=>by
  unfold kas_asc;refine C4 hc h XH XH XH ?_;by_cases hl:ky z p m<ky z p (m-1)
  .rw[Gn hl,if_pos rfl];exact g m (Yk _) XH hu (.inr ⟨by omega,hl⟩)
  .rw[Gr hl,if_neg XI];have ne:ky z p (m-1)≠ky z p m:=λe=>by have:=h.ne hz XH XH e;omega
   exact Ka h f (m+1) XH XH (hu.succ h1 XH) λm' a b c d=>g m' XH b c d
include hz hc in
theorem Iu{p:ZS}(h:Pm n p){Q:ZS×Nat×Nat->Shared->Prop}:∀(f m:Nat),1<=m->m+f=n->Dn z p m->(∀m',m<=m'->m'<=n->Dn z p m'->Q (p,m',0) s)->(kas_desc f p m 0).kasWp cmp Q s
 | 0,m,h1,hm,hu,g=>g m (Yk _) XH hu
 | f+1,m,h1,hm,hu,g=>by
  unfold kas_desc;refine C4 hc h XH XH XH ?_;by_cases hl:ky z p m<ky z p (m-1)
  .rw[Gn hl,if_pos rfl,if_neg XH];exact Iu h f (m+1) XH XH (hu.succ h1 hl) λm' a b c=>g m' XH b c
  .rw[Gr hl,if_neg XI];have ne:ky z p (m-1)≠ky z p m:=λe=>by have:=h.ne hz XH XH e;omega
   refine C4 hc h XH XH XH ?_;rw[Gn (show ky z p (m-1)<ky z p m by omega),if_pos rfl];exact g m (Yk _) XH hu
theorem rev_up{p:ZS}{m:Nat}(hm:m<=p.size)(h:Dn z p m):Ke z (kas_rev p 0 m) m:=λi j Wd hj=>by
 unfold ky kas_rev;rw[getElem?_mirror_all hm,getElem?_mirror_all hm,if_pos XH,if_pos XH];exact h _ _ XH XH
include hz hc in
theorem wa{p:ZS}(h:Pm n p){m:Nat}(h1:1<=m)(hm:m<=n)(hd:Dn z p m){Q:Nat×ZS->Shared->Prop}(g:∀m' p',1<=m'->m'<=n->Pm n p'->Ke z p' m'->Q (m',p') s):(kas_tail3 m n p).kasWp cmp Q s:=by
 unfold kas_tail3;rw[KasT.kasWp_bind];have h':Pm n (kas_rev p 0 m):=h.perm (mirror_perm _ _ _ _);exact Ka hz hc h' (n-m) m h1 XH (rev_up (by rw[h.size];exact hm) hd) λm' a b c _=>g m' _ XH b h' c
include hz hc in
theorem count_ok{p:ZS}(h:Pm n p)(h2:2<=n){Q:Nat×ZS->Shared->Prop}(g:∀m' p',1<=m'->m'<=n->Pm n p'->Ke z p' m'->Q (m',p') s):(kas_count n p).kasWp cmp Q s:=by
 unfold kas_count;rw[KasT.kasWp_bind];refine Ka hz hc h (n-1) 1 (Yk _) XH (λi j _ _=>by omega) λm a b c d=>?_;by_cases hm:m=n
 .subst hm;rw[if_pos XI];exact g m p a b h c
 .rw[if_neg (by simpa using hm)];by_cases hm1:m>1
  .rw[if_pos hm1];refine C4 hc h XH XH XH ?_;rw[Gn (c 0 (m-1) XH XH),if_pos rfl];exact g m p a b h c
  .rw[if_neg hm1];obtain rfl:m=1:=by omega
   rcases d with d | ⟨_,d⟩
   .omega
   unfold kas_descPart;rw[KasT.kasWp_bind];refine Iu hz hc h (n-(1+1)) (1+1) XH XH (λi j Wd hj=>?_) λm' a' b' c'=>?_
   .obtain rfl:j=1:=by omega
    obtain rfl:i=0:=by omega
    exact d
   .rw[if_neg (by show ¬ (0>0);omega)];exact wa hz hc h XH b' c' g
include hz hc in
theorem Tr{p:ZS}(h:Pm n p){k:Nat}(hk:k<n){Q:Nat->Shared->Prop}(g:∀l,l<=k->(∀i,i<l->ky z p i<ky z p k)->(∀i,l<=i->i<k->ky z p k<ky z p i)->Q l s)(hs:Ke z p k):∀(f l r:Nat),l<=r->r<=k->r-l<=f->(∀i,i<l->ky z p i<ky z p k)->(∀i,r<=i->i<k->ky z p k<ky z p i)->(kas_place p k f l r).kasWp cmp Q s
 | 0,l,r,h1,h2,h3,h4,h5=>by
  obtain rfl:l=r:=by omega
  exact g l h2 h4 h5
 | f+1,l,r,h1,h2,h3,h4,h5=>by
  unfold kas_place;by_cases hlr:l ≥ r
  .rw[if_pos hlr];obtain rfl:l=r:=by omega
   exact g l h2 h4 h5
  .rw[if_neg hlr];refine C4 hc h hk XH XH ?_;by_cases hl:ky z p k<ky z p ((l+r) / 2)
   .rw[Gn hl,if_pos rfl];refine Tr h hk g hs f l ((l+r) / 2) XH XH XH h4 λi a b=>?_;rcases Nat.lt_or_ge ((l+r) / 2) i with c | c
    .exact Int.lt_trans hl (hs _ _ c b)
    .obtain rfl:i=(l+r) / 2:=by omega
     exact hl
   .rw[Gr hl,if_neg XI];have ne:ky z p k≠ky z p ((l+r) / 2):=λe=>by have:=h.ne hz XH XH e;omega
    refine Tr h hk g hs f ((l+r) / 2+1) r XH h2 XH (λi a=>?_) h5;rcases Nat.lt_or_ge i ((l+r) / 2) with c | c
    .exact Int.lt_trans (hs _ _ c XH) XH
    .obtain rfl:i=(l+r) / 2:=by omega
     omega
theorem qz{p:ZS}{k l:Nat}(hk:k<p.size)(hl:l<=k)(h:Ke z p k)(h1:∀i,i<l->ky z p i<ky z p k)(h2:∀i,l<=i->i<k->ky z p k<ky z p i):Ke z (bubble p k (k-l)) (k+1):=λi j Wd hj=>by
 have e:∀x,x<=k->ky z (bubble p k (k-l)) x=if x=l then ky z p k else if l<x then ky z p (x-1) else ky z p x:=λx hx=>by
  unfold ky;rw[getElem?_bubble hk (k-l) XH,show k-(k-l)=l by omega];by_cases a:x=l
  .rw[if_pos a,if_pos a]
  .rw[if_neg a,if_neg a];by_cases b:l<x
   .rw[if_pos ⟨b,hx⟩,if_pos b]
   .rw[if_neg (λq=>b q.1),if_neg b]
 rw[e i XH,e j XH];by_cases a:i=l
 .rw[if_pos a,if_neg XH,if_pos XH];exact h2 _ XH XH
 .rw[if_neg a];by_cases b:l<i
  .rw[if_pos b,if_neg XH,if_pos XH];exact h _ _ XH XH
  .rw[if_neg b];by_cases c:j=l
   .rw[if_pos c];exact h1 i XH
   .rw[if_neg c];by_cases d:l<j
    .rw[if_pos d];rcases Nat.lt_or_ge i (j-1) with q | q
     .exact h _ _ q XH
     .omega
    .rw[if_neg d];exact h _ _ Wd XH
include hz hc in
theorem cf{Q:ZS->Shared->Prop}(g:∀p',Pm n p'->Ke z p' n->Q p' s):∀(f:Nat) (p:ZS) (k:Nat),Pm n p->k+f=n->Ke z p k->(kas_bin f p k).kasWp cmp Q s
 | 0,p,k,h,hk,hu=>g p h (by rw[<-(by omega:k=n)];exact hu)
 | f+1,p,k,h,hk,hu=>by
  unfold kas_bin;rw[KasT.kasWp_bind];refine Tr hz hc h XH (λl a b c=>?_) hu k 0 k (B0 _) (Yk _) XH (λi q=>absurd q XH) (λi q r=>absurd q XH);exact cf g f _ (k+1) (h.perm (bubble_perm _ _ _)) XH (qz (by rw[h.size];omega) a hu b c)
include hz hc in
theorem ph(h2:2<=n){Q:ZS->Shared->Prop}(g:∀p',Pm n p'->Ke z p' n->Q p' s):(kas_sort n).kasWp cmp Q s:=by
 unfold kas_sort;rw[KasT.kasWp_bind];have h0:Pm n (List.toArray (List.range n)):=by unfold Pm;rw[List.toList_toArray]
 refine count_ok hz hc h0 h2 λm p a b h c=>?_;show (if m<n then kas_bin (n-max m 1) p (max m 1) else KasT.ret p).kasWp cmp Q s;rw[show max m 1=m by omega]
 split
 .exact cf hz hc g _ p m h XH c
 .exact g p h (by rw[<-(by omega:m=n)];exact c)
end
end SRT
namespace SRT
open PySem PySem.Spec PyProof.Rows L2 PySem.W
def Hd(h:Heap)(v:Value)(i:Int):Prop:=∃a o xs n t,v=.ref a/\h.get? a=some o/\o.cls=.type "tuple" /\ o.data=.seq xs n/\xs[0]?=some (.int i t)
def Hds(h:Heap)(vs:ZM)(zs:ZL):Prop:=vs.length=zs.length/\∀i,i<vs.length->Hd h (vs.getD i .none) (zs.getD i 0)
theorem Hds.tups{h:Heap}:∀{vs:ZM} {zs:ZL},Hds h vs zs->∃fs,KatTups h vs fs/\fs.length=vs.length/\∀v∈fs,∃i t,v=.int i t
 | [],zs,g=>⟨[],trivial,rfl,λ_ m=>absurd m Ve⟩
 | v::vs,[],g=>absurd g.1 XI
 | v::vs,z::zs,g=>by
  obtain⟨fs,k1,k2,k3⟩:=Hds.tups (vs:=vs) (zs:=zs) ⟨by simpa using g.1,λi hi=>by simpa using g.2 (i+1) (by simpa using hi)⟩;obtain⟨a,o,xs,n,t,e,h1,h2,h3,h4⟩:=g.2 0 XI;have e:v=.ref a:=e;subst e
  exact⟨.int z t::fs,⟨⟨a,o,xs,n,rfl,h1,h2,h3,h4⟩,k1⟩,by simp[k2],λv m=>by
   rcases Yf.mp m with rfl | m
   .exact⟨_,_,rfl⟩
   .exact k3 v m⟩
section
variable{prog:Program}{w:World}{A:Around}{E:ZW}{s:Shared}
theorem bb{x y:Value}{i j:Int}{Q:Bool->Shared->Prop}(hx:Hd s.heap x i)(hy:Hd s.heap y j)(ne:i≠j)(h:Q (decide (i<j)) s):wpAny (model prog w) A (keyLt' (tuples' true) x y) Q E s:=by
 obtain⟨a,o,xs,n,t,rfl,h1,_,h3,h4⟩:=hx;obtain⟨b,o',ys,m,u,rfl,g1,_,g3,g4⟩:=hy
 obtain⟨x0,xr,ex⟩:∃x0 xr,xs.toList=x0::xr:=by
  cases e:xs.toList with
  | nil=>rw[<-Array.getElem?_toList,e]at h4;simp at h4
  | cons p q=>exact⟨p,q,rfl⟩
 obtain⟨y0,yr,ey⟩:∃y0 yr,ys.toList=y0::yr:=by
  cases e:ys.toList with
  | nil=>rw[<-Array.getElem?_toList,e]at g4;simp at g4
  | cons p q=>exact⟨p,q,rfl⟩
 have e0:x0=.int i t:=by rw[<-Array.getElem?_toList,ex]at h4;exact Je h4
 have f0:y0=.int j u:=by rw[<-Array.getElem?_toList,ey]at g4;exact Je g4
 subst e0 f0;refine kat_lt h1 h3 g1 g3 ?_;rw[ex,ey,List.zip_cons_cons];refine kat_cons (SeqAt.EqAt.int_int i t j u prog w _ _ ?_);have hb:(i==j)=false:=qd.mpr ne;rw[hb];refine kat_no ?_;exact oneLt_int h
theorem xx{i:Int}{t:Tok}{M:Model}{h:Heap}:Looks M h (typeOf (.int i t)) (.type "int"):=Looks.of_pure rfl
def Ord(zs:ZL)(p:ZS):Prop:=Pm zs.length p/\Ke (λi=>zs.getD i 0) p zs.length
theorem W7{h₀:Heap}{L:Addr}{m:ZV}{news:ZY}{l:Addr}{vs:ZM}{zs:ZL}{Q:ZW}(F:Fr h₀ L s.heap m)(N:News h₀ L s.heap news)(hl:s.heap.IsList l vs.toArray)
  (hh:∀h',Fr h₀ L h' m->News h₀ L h' news->Hds h' vs zs) (nd:zs.Nodup) (h2:2<=vs.length) (h64:vs.length<64)
  (fin:∀D h' p c,Ord zs p->Fr h₀ L h' m->News h₀ L h' ((D,listOf (List.toArray (p.toList.map λi=>vs.getD i Value.none)) c)::news)->(∀q∈news,q.1<D)->Q (.ref D) { s with heap:=h' }) :
  wpAny (model prog w) A (call (.builtin "sorted") [.ref l]) Q E s:=by
 refine kat_sorted F N hl h2 h64 λD e1 h' F' N' lt=>?_;have N1:News h₀ L h' news:=λp hp=>N' p (Y3 _ hp);have hd:=hh h' F' N1;obtain⟨fs,k1,k2,k3⟩:=hd.tups;refine kat_kind (s:={ s with heap:=h' }) (T:=.type "int") k1 XH (λv m=>?_) rfl ?_
 .obtain⟨i,t,rfl⟩:=k3 v m;exact xx
 .have e:(Value.type "int" != Value.type "tuple")=true:=XA
  rw[e];have el:vs.length=zs.length:=hd.1;rw[el];refine ph (z:=λi=>zs.getD i 0) (λi j hi hj e=>?_) (λi j hi hj Wd C hC=>?_) XH λp pm up=>?_
  .simp only[List.getD_eq_getElem?_getD,D4 hi,D4 hj,Option.getD_some]at e;rcases Nat.lt_trichotomy i j with q | q | q
   .exact absurd e (List.pairwise_iff_getElem.mp nd i j _ _ q)
   .exact q
   .exact absurd e.symm (List.pairwise_iff_getElem.mp nd j i _ _ q)
  .unfold kas_ask;refine bb (s:={ s with heap:=h' }) (hd.2 i XH) (hd.2 j XH) (λe=>Wd ?_) hC;simp only[List.getD_eq_getElem?_getD,D4 hi,D4 hj,Option.getD_some]at e;rcases Nat.lt_trichotomy i j with q | q | q
   .exact absurd e (List.pairwise_iff_getElem.mp nd i j _ _ q)
   .exact q
   .exact absurd e.symm (List.pairwise_iff_getElem.mp nd j i _ _ q)
  .refine KasFin.intro F' N' (g:=λo=>(D,o)::news) ?_ λh2 c F2 N2=>fin D h2 p c ⟨pm,up⟩ F2 N2 lt;exact .head λp hp=>Dz (lt p hp)
theorem Xr{Ok:Heap->Prop}{vs:ZM}(hz:vs.length<2):Srt prog w Ok vs λo=>o=vs:=by
 intro A E s D Q _ Vi h;refine wpAny_call_entry slot_list_sort ⟨_,Vi,rfl⟩ entry_list_sort ?_ (args_list_sort _);have ha:D<s.heap.objs.size:=Ye Vi;have sl:=sizeLine_eq;rw[list_sort_plain];refine Zj (listItems_at Vi rfl (Zj (listUpdate_at Vi rfl ?_ (by rw[Jh];omega) (B0 _))));obtain⟨e1,Ss⟩:∃e1,(s.heap.update D (Obj.mapSeq λ_=>#[])).get? D=some (seqObj "list" #[] e1):=⟨_,get?_update_seq Vi (λ_=>#[])⟩;refine Zj (seqEpoch_at Ss rfl (Zj (wpAny_newTuple (Zj (wpAny_newList (wpAny_holding ?_) (B0 _))) (by show vs.length<=_;omega))))
 have ho6:(((s.heap.update D (Obj.mapSeq λ_=>#[])).push (seqObj "tuple" vs.toArray 0)).push (seqObj "list" #[] 0)).get? D=some (seqObj "list" #[] e1) :=
  Yn _ (Yn _ Ss)
 show wpAny _ _ _ _ _ { s with heap:=((s.heap.update D (Obj.mapSeq λ_=>#[])).push (seqObj "tuple" vs.toArray 0)).push (seqObj "list" #[] 0) };dsimp only;have h2:vs.toArray.size<2:=by rw[Jh];exact hz
 rw[if_pos h2,if_pos h2];refine Zj (Zr ?_);rw[StateT.run_pure];refine Zj (Zr ?_);dsimp only;refine Zj (seqEpoch_at ho6 rfl (Zj (listUpdate_at ho6 rfl ?_ (B0 _) (by rw[Array.size_map];show (pairsOf vs).size<=_;rw[pairsOf_size];omega))));simp only[bne_self_eq_false,B0f,if_false];refine Zr ⟨_,rfl,?_⟩;obtain⟨n,e⟩:=sortedHeap_at (h:=s.heap) (a:=D) (vs:=vs) (n:=0) (out:=(pairsOf vs).map λx:Keyed=>x.2) Vi;refine h (sortedHeap s.heap D vs ((pairsOf vs).map λx:Keyed=>x.2)) ((pairsOf vs).map λx:Keyed=>x.2) n (λb ob nb e0=>SetM.Yo nb e0) e ?_;rw[Array.toList_map];unfold pairsOf;rw[Array.toList_zip];exact List.map_snd_zip (Yk _)
end
section
variable{X:Cx}
theorem Nt{zs:ZQ}{vs:ZM}(r:Zf zs vs){i:Nat}(hi:i<vs.length):RelV (zs.getD i .non) (vs.getD i .none):=by
 have hl:=r.length;obtain⟨v,h1,h2⟩:=Zf.get r (D4 (show i<zs.length by omega));rw[List.getD_eq_getElem?_getD,List.getD_eq_getElem?_getD,h1,D4 (show i<zs.length by omega)];exact h2
theorem R5{zs:ZQ}{vs:ZM}(r:Zf zs vs):∀(p:List Nat),(∀i∈p,i<vs.length)->Zf (p.map λi=>zs.getD i .non) (p.map λi=>vs.getD i .none)
 | [],_=>.nil
 | i::p,h=>.cons (Nt r (h i Yu)) (R5 r p λj m=>h j (Y3 _ m))
theorem Fg:Yb X (.builtin "sorted") (λxs H Q=>∃(a:Addr) (zs:ZQ) (hs:ZL),xs=[.ref a]/\V0 X.K H a zs/\zs.length=hs.length/\(∀i,i<zs.length->∃b ws,zs.getD i .non=.ref b/\Y1 X.K H b (.int (hs.getD i 0)::ws))/\hs.Nodup/\2<=zs.length/\zs.length<64 /\
  ∀(l:Addr) (p:ZS),H l=none->Ord hs p->Q (.ref l) (upd H l (.lst (p.toList.map λi=>zs.getD i .non)))):=by
 intro XM s Z H xs us Q I r h;obtain⟨a,zs,hs,rfl,hq,hl,hd,nd,h2,h64,q⟩:=h;obtain⟨u,rfl,rx⟩:=vals1 r;cases rx;obtain⟨XT,rv,pl,z⟩:=I.list hq;obtain⟨m,hn,fr,nw⟩:=I.frame;have il:=rv.length;refine W7 (zs:=hs) fr nw pl.isList (λh' F' N'=>⟨by omega,λi hi=>?_⟩) nd XH XH λD h' p c op F' N' lt=>?_
 .obtain⟨b,ws,e1,sq⟩:=hd i XH;have rr:=Nt rv hi;rw[e1]at rr;have rr:XT.getD i .none=.ref b:=rr;obtain⟨jts,jr,⟨o,g1,g2,n,g3⟩,_⟩:=I.tuple sq;cases jr with | cons j1 j2 =>
  obtain⟨t,rfl⟩:=(show ∃t,_=Value.int _ t from j1);refine⟨b,o,_,n,t,rr,Ma F' N' (λp hp=>hp) b o (λe=>?_) g1,g2,g3,by simp⟩;obtain⟨o',es,ep,k1,k2,_⟩:=hn;rw[<-e,g1]at k1;cases k1;rw[g3]at k2;cases k2
 .have ka:=Ma F' N' λp hp=>Y3 _ hp;have nD:=Inv.newAt (X:=X) (m:=m) N' lt;obtain⟨eD,nDL,_⟩:=N' _ Yu
  have pl':∀i∈p.toList,i<XT.length:=λi mi=>by
   have:=List.mem_range.mp (op.1.mem_iff.mp mi);omega
  have ln:(p.toList.map λi=>zs.getD i .non).length<=sizeLine:=by
   rw[Yc,op.1.length_eq,XY];have:=sizeLine_eq;omega
  obtain⟨J,fD⟩:=I.lay2 (h':=h') (D:=D) (u:=.lst (p.toList.map λi=>zs.getD i .non)) (t':=s.toks) hn F'.ns (λb o nb eb=>ka b o nb eb) nD ⟨ln,_,c,R5 rv _ pl',by simpa using eD⟩;exact⟨.ref D,_,J,rfl,q D p fD op⟩
theorem Ek{H:Hp}{zs:ZQ}(h:zs.length<2):qx X H zs zs:=by
 refine⟨rfl,λXM Z s I vs r=>⟨λ_=>True,λ_ _=>trivial,?_⟩⟩;have:=Xr (prog:=X.prog) (w:=X.w) (Ok:=λ_=>True) (vs:=vs) (by rw[<-r.length];exact h);intro A E s D Q o e q;exact this A E s D Q o e λh1 out n k e1 r1=>q h1 out n k e1 (by rw[r1];exact r)
end
end SRT
namespace SRT
open PySem PySem.Spec PyProof.Rows L2
section
variable{Z:Type}
noncomputable def Cw(x:Int×Z):List (Int×Z)->List (Int×Z)
 | []=>[x]
 | y::r=>if x.1<=y.1 then x::y::r else y::Cw x r
def Jp:List (Int×Z)->List (Int×Z)
 | []=>[]
 | x::r=>Cw x (Jp r)
theorem N0(x:Int×Z):∀r:List (Int×Z),(Cw x r).Perm (x::r)
 | []=>.refl _
 | y::r=>by
  unfold Cw
  split
  .exact .refl _
  .exact((N0 x r).cons y).trans (.swap x y r)
theorem Ua:∀r:List (Int×Z),(Jp r).Perm r
 | []=>.refl _
 | x::r=>(N0 x _).trans ((Ua r).cons x)
theorem Pp(x:Int×Z):∀r:List (Int×Z),r.Pairwise (λa b=>a.1<=b.1)->(Cw x r).Pairwise (λa b=>a.1<=b.1)
 | [],_=>List.pairwise_singleton _ _
 | y::r,h=>by
  rw[XZ]at h;unfold Cw
  split
  .rename_i hx
   rw[XZ,XZ];exact⟨λz m=>by rcases Yf.mp m with rfl | m;exact hx;exact Int.le_trans hx (h.1 z m),h.1,h.2⟩
  .rename_i hx
   rw[XZ];refine⟨λz m=>?_,Pp x r h.2⟩;rcases Yf.mp ((N0 x r).mem_iff.mp m) with rfl | m
   .omega
   .exact h.1 z m
theorem Qa:∀r:List (Int×Z),(Jp r).Pairwise (λa b=>a.1<=b.1)
 | []=>List.Pairwise.nil
 | x::r=>Pp x _ (Qa r)
theorem Tv{a b:Int×Z}:∀{l:List (Int×Z)},l.Pairwise (λa b=>a.1<b.1)->a∈l->b∈l->a.1=b.1->a=b
 | [],_,h,_,_=>absurd h Ve
 | x::l,p,h,h',e=>by
  rw[XZ]at p;rcases Yf.mp h with e1 | m1
  .rcases Yf.mp h' with e2 | m2
   .rw[e1,e2]
   .have:=p.1 b m2;rw[<-e1]at this;omega
  .rcases Yf.mp h' with e2 | m2
   .have:=p.1 a m1;rw[<-e2]at this;omega
   .exact Tv p.2 m1 m2 e
theorem Hr{a b:List (Int×Z)}(h:a.Perm b)(s:a.Pairwise (λa b=>a.1<b.1)):a=Jp b :=
 List.Perm.eq_of_pairwise (λx y mx my h1 h2=>Tv s mx (h.symm.mem_iff.mp ((Ua b).mem_iff.mp my)) (Int.le_antisymm h1 h2)) (s.imp λh=>Int.le_of_lt h) (Qa b) (h.trans (Ua b).symm)
theorem Eh{Z:Type}(l:List Z)(d:Z):(List.range l.length).map (λi=>l.getD i d)=l:=by
 apply List.ext_getElem?
 intro i;rw[Qv];by_cases h:i<l.length
 .rw[List.getElem?_range h,D4 h];simp[h]
 .rw[List.getElem?_eq_none (by simpa using h),List.getElem?_eq_none XH]
  rfl
theorem gu{hs:ZL}{ts:List Z}{d:Z}{p:ZS}(hl:ts.length=hs.length)(o:Ord hs p):p.toList.map (λi=>ts.getD i d)=(Jp (hs.zip ts)).map (·.2):=by
 have zl:(hs.zip ts).length=hs.length:=by rw[List.length_zip];omega
 have key:p.toList.map (λi=>(hs.zip ts).getD i (0,d))=Jp (hs.zip ts):=by
  refine Hr ?_ ?_
  .have:=o.1.map λi=>(hs.zip ts).getD i (0,d);rw[<-zl,Eh]at this;exact this
  .rw[List.pairwise_map,List.pairwise_iff_getElem];intro i j hi hj Wd;have hsz:=o.1.size;rw[qt]at hi hj;have up:=o.2 i j Wd XH;unfold ky at up;rw[rm hi,rm hj]at up;have li:=o.1.lt (k:=i) XH;have lj:=o.1.lt (k:=j) XH;rw[rm hi]at li;rw[rm hj]at lj;simp only[Option.getD_some]at up li lj
   have e:∀k,k<hs.length->((hs.zip ts).getD k (0,d)).1=hs.getD k 0:=λk hk=>by
    rw[List.getD_eq_getElem?_getD,D4 XH,List.getD_eq_getElem?_getD,D4 hk];simp
   rw[Array.getElem_toList,Array.getElem_toList,e _ li,e _ lj];exact up
 rw[<-key,List.map_map];refine List.map_congr_left λi m=>?_;have hi:=List.mem_range.mp (o.1.mem_iff.mp m);show _=((hs.zip ts).getD i (0,d)).2;rw[List.getD_eq_getElem?_getD,D4 (show i<ts.length by omega),List.getD_eq_getElem?_getD,D4 (show i<(hs.zip ts).length by omega)];simp
theorem vy{hs:ZL}{ts:List Z}{d:Z}(hl:ts.length=hs.length)(h:ts.length<2):(Jp (hs.zip ts)).map (·.2)=ts:=by
 match ts,hs,hl with
 | [],[],_=>rfl
 | [t],[i],_=>rfl
 | a::b::r,_,_=>exact absurd h XI
end
end SRT
namespace L2
open PySem PySem.Spec PyProof.Rows
theorem mn{XD:List (Key×Value)}{acc:ZN}(h:ItemsOf (λi v=>∃k,XD[i]?=some (k,v)) acc XD.length):acc.toList=XD.map (·.2):=by
 refine List.ext_getElem? λi=>?_;by_cases hi:i<XD.length
 .have ha:i<acc.size:=by rw[h.1];exact hi
  obtain⟨k,e⟩:=h.2 i _ (rm ha);rw[Array.getElem?_toList,rm ha,Qv,e]
  rfl
 .rw[List.getElem?_eq_none (by rw[qt,h.1];omega),List.getElem?_eq_none (by rw[Yc];omega)]
def tVals(to:TE):TE:=λZ H Q=>to Z H λx H1=>∃(d:Addr) (XD:List (Key×V)),x=.ref d/\Rd H1 d (.dK XD)/\∀l:Addr,H1 l=none->Q (.ref l) (upd H1 l (.lst (XD.map (·.2))))
theorem i9:∀{XD:List (Key×V)} {ws:List (Key×Value)},KV XD ws->Zf (XD.map (·.2)) (ws.map (·.2)):=by
 intro XD ws h;unfold KV at h
 induction h with
 | nil=>exact .nil
 | cons r _ ih=>exact .cons r.2 ih
section
variable{X:Cx}{p p2 pos ap:Pos}{o:Expr}{to:TE}
theorem Q8(hc:X.calm=true)(hg:Gl X "list")(hm:X.mg "list"=none)(ho:PE X o to)(Gq:attributeBase o "values" X.env (eval o X.env)=eval o X.env)(Gx:(ap.endLine==p2.line)=true)
  (he:starEach [.Call (.Attribute o "values" ap) [] [] p2] X.env=[(false,eval (.Call (.Attribute o "values" ap) [] [] p2) X.env)]) :
  PE X (.Call (.Name "list" p) [.Call (.Attribute o "values" ap) [] [] p2] [] pos) (tVals to):=by
 intro XM s Z H Q I h;refine wpAny_Call_Name_kw (J4 I hg hm (by decide +kernel:bootBuiltins "list"=some (.type "list")) ?_ XA XA);refine callWith_type1 ?_ he rfl;rw[he]
 change wpAny _ _ (spliced ((false,eval (.Call (.Attribute o "values" ap) [] [] p2) X.env)::[])) _ _ s
 refine Calls.spliced_cons ?_;refine wpAny_Call_method0_late Gq Gx (Z5 (ho XM s Z H _ I h) λv s1 ⟨x,H1,I1,r1,q1⟩=>?_);obtain⟨d,XD,rfl,hd,q⟩:=q1;cases r1;obtain⟨z,lg,ws,rel,dd⟩:=Jr I1.hok hd;obtain⟨ep,da⟩:=dd.dictAt;obtain⟨t1,t2,_⟩:=Cq I1 (.inl ⟨XD,hd⟩);refine⟨"dict","dict.values",PySem.F.plainAttrs_dict,PySem.F.slot_dict_values,PySem.F.type_dict_values,t1,t2,Calls.callWith_builtin rfl (PySem.evalArgs_none ?_)⟩;refine call_meetsIn PySem.F.slot_dict_values dd.typeIs PySem.F.entry_dict_values (PySem.F.args_dict_values_1 _) (meets_dict_values (Zd X.prog X.w) d lg) ⟨⟨ws,dd⟩,?_⟩;refine Calls.spliced_nil ?_;have k0:∀b ob,s1.heap.get? b=some ob->(s1.heap.push { cls:=.type "dict_values",data:=.fields #[.ref d] }).get? b=some ob:=λb ob e=>Yn _ e;refine W.kdl_call (s:={ s1 with heap:=s1.heap.push { cls:=.type "dict_values",data:=.fields #[.ref d] } }) (@W.kdl_values X.prog X.w _ _ (Zd X.prog X.w) d s1.heap.objs.size ws ep) (I1.ok.hd hc) ⟨⟨_,Ur _ rfl,rfl,rfl⟩,da.push _⟩ (by rw[<-rel.length];exact z) λh' tk acc c k1 Vi hacc=>?_;have rv:Zf (XD.map (·.2)) acc.toList:=by rw[mn hacc];exact i9 rel
 dsimp only at Vi;rw[Heap.size_push]at Vi ⊢;exact⟨.ref (s1.heap.objs.size+1),_,I1.put (o:=.lst (XD.map (·.2))) (d':=s1.drawn) (λb ob e=>k1 b ob (k0 b ob e)) (Nat.le_succ _) ⟨by rw[Yc];exact z,acc.toList,c,rv,by simpa using Vi⟩,rfl,q _ (I1.hok.fresh (Nat.le_succ _))⟩
end
end L2
namespace TNM
open PySem PySem.Calls PyProof.Rows SeqAt
inductive Nv:Value->Int->Prop
 | i(x:Int)(t:Tok):Nv (.int x t) x
 | b (k:Bool):Nv (.bool k) (if k=true then 1 else 0)
section
variable{prog:Program}{w:World}{A:Around}{E:ZW}{s:Shared}{Q:ZW}
theorem g_bb(a b:Bool):Gives (Builtin.«int.__lt__» ⟨[.bool a,.bool b],[]⟩) (.val (.bool (decide ((if a=true then (1:Int) else 0)<if b=true then 1 else 0)))):=by cases a<;>cases b<;>exact .of_eq rfl
theorem g_bi(a:Bool)(b:Int)(u:Tok):Gives (Builtin.«int.__lt__» ⟨[.bool a,.int b u],[]⟩) (.val (.bool (decide ((if a=true then (1:Int) else 0)<b)))):=by cases a<;>exact .of_eq rfl
theorem Zqw(a:Bool)(b:Int)(u:Tok):Gives (Builtin.«int.__gt__» ⟨[.bool a,.int b u],[]⟩) (.val (.bool (decide ((if a=true then (1:Int) else 0)>b)))):=by cases a<;>exact .of_eq rfl
theorem g_gbb(a b:Bool):Gives (Builtin.«int.__gt__» ⟨[.bool a,.bool b],[]⟩) (.val (.bool (decide ((if a=true then (1:Int) else 0)>if b=true then 1 else 0)))):=by cases a<;>cases b<;>exact .of_eq rfl
theorem lt_num{v u:Value}{x y:Int}(hv:Nv v x)(hu:Nv u y)(h:Q (.bool (decide (x<y))) s):wpAny (model prog w) A (richCompare .Lt v u) Q E s:=by
 cases hv with
 | i x t=>cases hu with
  | i y t'=>exact richCompare_gives (op:=.Lt) (typeIs_int s _ t) (typeIs_int s _ t') F.slot_int_lt F.entry_int_lt (F.args_int_lt_2 _ _) (gives_int_lt _ _ t t') (λz=>nomatch z) h
  | b k=>exact rc_sub_first_or (typeIs_int s x t) rfl XA F.sub_bool_int F.slot_bool_gt_refl (call_gives F.slot_bool_gt rfl F.entry_int_gt (F.args_int_gt_2 _ _) (Zqw k x t) ⟨nofun,h⟩) (.inl rfl)
 | b k=>cases hu with
  | i y t'=>exact rc_left_or rfl (typeIs_int s y t') XA F.sub_int_bool F.slot_bool_lt (call_gives F.slot_bool_lt rfl F.entry_int_lt (F.args_int_lt_2 _ _) (g_bi k y t') ⟨nofun,h⟩) (.inl rfl)
  | b k'=>exact richCompare_gives (op:=.Lt) rfl rfl F.slot_bool_lt F.entry_int_lt (F.args_int_lt_2 _ _) (g_bb k k') (λz=>nomatch z) h
theorem gt_num{v u:Value}{x y:Int}(hv:Nv v x)(hu:Nv u y)(h:Q (.bool (decide (x>y))) s):wpAny (model prog w) A (richCompare .Gt v u) Q E s:=by
 cases hv with
 | i x t=>cases hu with
  | i y t'=>exact richCompare_gives (op:=.Gt) (typeIs_int s _ t) (typeIs_int s _ t') F.slot_int_gt F.entry_int_gt (F.args_int_gt_2 _ _) (gives_int_gt _ _ t t') (λz=>nomatch z) h
  | b k=>exact rc_sub_first_or (typeIs_int s x t) rfl XA F.sub_bool_int F.slot_bool_lt_refl (call_gives F.slot_bool_lt rfl F.entry_int_lt (F.args_int_lt_2 _ _) (g_bi k x t) ⟨nofun,h⟩) (.inl rfl)
 | b k=>cases hu with
  | i y t'=>exact rc_left_or rfl (typeIs_int s y t') XA F.sub_int_bool F.slot_bool_gt (call_gives F.slot_bool_gt rfl F.entry_int_gt (F.args_int_gt_2 _ _) (Zqw k y t') ⟨nofun,h⟩) (.inl rfl)
  | b k'=>exact richCompare_gives (op:=.Gt) rfl rfl F.slot_bool_gt F.entry_int_gt (F.args_int_gt_2 _ _) (g_gbb k k') (λz=>nomatch z) h
theorem B4{a b v:Value}{x y:Int}(ha:Nv a x)(hb:Nv b y){i:Nat}(e:#[a,b][i]?=some v):Nv v (if i=0 then x else y):=by
 match i,e with
 | 0,e=>cases e;exact ha
 | 1,e=>cases e;exact hb
 | i+2,e=>rw[Array.getElem?_eq_none (by show 2<=i+2;omega)]at e;cases e
theorem min_two{a b:Value}{x y:Int}(ha:Nv a x)(hb:Nv b y)(hh:A.handled=none)(h:∀h' tk,(∀c o,s.heap.get? c=some o->h'.get? c=some o)->Q (if y<x then b else a) { s with heap:=h',toks:=tk }):wpAny (model prog w) A (call (.builtin "min") [a,b]) Q E s:=by
 have tp:(s.heap.push { cls:=.type "tuple",data:=.seq #[a,b] }).IsTuple s.heap.objs.size #[a,b]:=⟨_,Ur _ rfl,rfl,0,rfl⟩;have sz:(s.heap.push { cls:=.type "tuple",data:=.seq #[a,b] }).objs.size=s.heap.objs.size+1:=Heap.size_push _ _;refine call_min_two (wpAny_pyIter_tuple tp ⟨_,[_,s.heap.objs.size],[_],_,_,_,λi j=>decide ((if i=0 then x else y)<if j=0 then x else y),rfl,Walks.tuple (A:=A.in1) hh _ s.heap.objs.size (by rw[sz];exact Dz (Nat.lt_succ_self _)) #[a,b],⟨⟨_,Ur _ rfl,rfl,rfl⟩,tp.push _⟩,λc hc=>?_,Nat.zero_lt_succ _,λi j vi vj s' Q' E' pi pj q=>lt_num (B4 ha hb pi) (B4 ha hb pj) q,λv h' tk hP hk=>?_⟩)
 .show c<((s.heap.push _).push _).objs.size;rw[Heap.size_push,sz];rcases Yf.mp hc with rfl | hc
  .rw[sz];exact Nat.lt_succ_self _
  .cases Nm.mp hc;exact Nat.lt_succ_of_lt (Nat.lt_succ_self _)
 .have old:∀c o,s.heap.get? c=some o->h'.get? c=some o:=λc o e=>hk c o (λz=>by
   have lt:=Ye e;rw[Nm.mp z,sz]at lt;exact Nat.lt_irrefl _ (Nat.lt_of_succ_lt lt)) (Yn _ (Yn _ e))
  have ev:v=if y<x then b else a:=by
   have hP:#[a,b][if decide ((if 1=0 then x else y)<if 0=0 then x else y)=true then 1 else 0]?=some v:=hP;rw[if_neg (by decide:¬ (1:Nat)=0),if_pos (rfl:(0:Nat)=0)]at hP;by_cases g:y<x
   .rw[if_pos (Gn g)]at hP;rw[if_pos g];exact(Je hP).symm
   .rw[if_neg (by rw[decide_eq_true_eq];exact g)]at hP;rw[if_neg g];exact(Je hP).symm
  rw[ev];exact h h' tk old
theorem max_two{a b:Value}{x y:Int}(ha:Nv a x)(hb:Nv b y)(hh:A.handled=none)(h:∀h' tk,(∀c o,s.heap.get? c=some o->h'.get? c=some o)->Q (if y>x then b else a) { s with heap:=h',toks:=tk }):wpAny (model prog w) A (call (.builtin "max") [a,b]) Q E s:=by
 have tp:(s.heap.push { cls:=.type "tuple",data:=.seq #[a,b] }).IsTuple s.heap.objs.size #[a,b]:=⟨_,Ur _ rfl,rfl,0,rfl⟩;have sz:(s.heap.push { cls:=.type "tuple",data:=.seq #[a,b] }).objs.size=s.heap.objs.size+1:=Heap.size_push _ _;refine call_max_two (wpAny_pyIter_tuple tp ⟨_,[_,s.heap.objs.size],[_],_,_,_,λi j=>decide ((if i=0 then x else y)>if j=0 then x else y),rfl,Walks.tuple (A:=A.in1) hh _ s.heap.objs.size (by rw[sz];exact Dz (Nat.lt_succ_self _)) #[a,b],⟨⟨_,Ur _ rfl,rfl,rfl⟩,tp.push _⟩,λc hc=>?_,Nat.zero_lt_succ _,λi j vi vj s' Q' E' pi pj q=>gt_num (B4 ha hb pi) (B4 ha hb pj) q,λv h' tk hP hk=>?_⟩)
 .show c<((s.heap.push _).push _).objs.size;rw[Heap.size_push,sz];rcases Yf.mp hc with rfl | hc
  .rw[sz];exact Nat.lt_succ_self _
  .cases Nm.mp hc;exact Nat.lt_succ_of_lt (Nat.lt_succ_self _)
 .have old:∀c o,s.heap.get? c=some o->h'.get? c=some o:=λc o e=>hk c o (λz=>by
   have lt:=Ye e;rw[Nm.mp z,sz]at lt;exact Nat.lt_irrefl _ (Nat.lt_of_succ_lt lt)) (Yn _ (Yn _ e))
  have ev:v=if y>x then b else a:=by
   have hP:#[a,b][if decide ((if 1=0 then x else y)>if 0=0 then x else y)=true then 1 else 0]?=some v:=hP;rw[if_neg (by decide:¬ (1:Nat)=0),if_pos (rfl:(0:Nat)=0)]at hP;by_cases g:y>x
   .rw[if_pos (Gn g)]at hP;rw[if_pos g];exact(Je hP).symm
   .rw[if_neg (by rw[decide_eq_true_eq];exact g)]at hP;rw[if_neg g];exact(Je hP).symm
  rw[ev];exact h h' tk old
theorem add_bi{b:Bool}{a:Int}{t:Tok}(h:Q (.int ((if b=true then (1:Int) else 0)+a) s.toks) { s with toks:=s.toks+1 }):wpAny (model prog w) A (binaryOp .Add (.bool b) (.int a t)) Q E s :=
 binaryOp_left_gives (op:=.Add) (T:="bool") (U:="int") XA rfl (λs'=>typeIs_int s' a t) F.fills_bool_add F.fills_int_add F.sub_int_bool F.slot_bool_add F.slot_int_radd F.entry_int_add (F.args_int_add_2 _ _) (m:=.int ((if b=true then (1:Int) else 0)+a)) (by cases b<;>exact .of_eq rfl) trivial h
end
end TNM
namespace TNM
open PySem PySem.Spec PyProof.Rows L2
section
variable{X:Cx}
def NV:V->Int->Prop
 | .int i,x=>x=i
 | .bl b,x=>x=if b=true then 1 else 0
 | _,_=>False
theorem NV.nv{x:V}{v:Value}{i:Int}(h:NV x i)(r:RelV x v):Nv v i:=by
 cases x with
 | int k=>obtain⟨t,rfl⟩:=r;cases h;exact .i _ t
 | bl b=>cases r;cases h;exact .b b
 | _=>exact h.elim
inductive wb(R:Int->Int->Bool)(xs:ZQ)(H:Hp)(Q:VK):Prop
 | mk(x y:V)(i j:Int)(h0:xs=[x,y])(h1:NV x i)(h2:NV y j)(h3:Q (if R j i=true then y else x) H):wb R xs H Q
theorem Kf(hc:X.calm=true):Yb X (.builtin "min") (wb λa b=>decide (a<b)):=by
 intro XM s Z H xs us Q I r h;obtain⟨x,y,i,j,rfl,hx,hy,q⟩:=h;obtain⟨v,u,rfl,rv,ru⟩:=vals2 r;refine min_two (hx.nv rv) (hy.nv ru) (I.ok.hd hc) λh' tk k=>⟨_,H,I.kept k,?_,q⟩;by_cases g:j<i
 .rw[if_pos g,if_pos (Gn g)];exact ru
 .rw[if_neg g,if_neg (by rw[decide_eq_true_eq];exact g)];exact rv
theorem Kb(hc:X.calm=true):Yb X (.builtin "max") (wb λa b=>decide (a>b)):=by
 intro XM s Z H xs us Q I r h;obtain⟨x,y,i,j,rfl,hx,hy,q⟩:=h;obtain⟨v,u,rfl,rv,ru⟩:=vals2 r;refine max_two (hx.nv rv) (hy.nv ru) (I.ok.hd hc) λh' tk k=>⟨_,H,I.kept k,?_,q⟩;by_cases g:j>i
 .rw[if_pos g,if_pos (Gn g)];exact ru
 .rw[if_neg g,if_neg (by rw[decide_eq_true_eq];exact g)];exact rv
inductive Sx(x:V)(y:V)(H:Hp)(Q:VK):Prop
 | mk(b i)(h0:x=.bl b)(h1:y=.int i)(h2:Q (.int ((if b=true then 1 else 0)+i)) H):Sx x y H Q
theorem zw:Ny X (binaryOp .Add) (λx y H Q=>Sx x y H Q):=by
 intro XM s Z H x y v u Q I rx ry h;obtain⟨b,i,rfl,rfl,q⟩:=h;cases rx;obtain⟨t,rfl⟩:=ry;exact add_bi ⟨.int _,H,I.tok _,⟨_,rfl⟩,q⟩
end
end TNM
namespace HT
open PySem PySem.Spec PyProof.Rows
section
variable{prog:Program}{w:World}{A:Around}{E:ZW}{s:Shared}
theorem Nn{sl:Addr}{u:Tok}{Q:Int×Int×Nat->Shared->Prop}(hs:s.heap.IsSliceOf sl .none .none (.int 2 u))
  (h:Q (0,2,2) s):wpAny (model prog w) A (Builtin.Slice.sliceApplied (.ref sl) (pure (3:Int))) Q E s:=by
 obtain⟨os,xj,hcs,lh⟩:=id hs;unfold Builtin.Slice.sliceApplied Builtin.Slice.sliceFields;refine Zj (Zj (wpAny_field xj lh (x:=.none) rfl (Zj (wpAny_field xj lh (x:=.none) rfl (Zj (wpAny_field xj lh (x:=.int 2 u) rfl (Zr ?_)))))));refine Zj (slicePart_int ?_);show wpAny _ _ (if ((2:Int)==0)=true then _ else _) _ _ s;rw[if_neg XA];refine Zj (slicePart_none (Zj (slicePart_none (Zj (Zr ?_)))));exact Zr h
theorem M3{t sl:Addr}{x y z:Value}{u:Tok}{Q:ZW}(ht:IsTup s.heap t #[x,y,z])(hs:s.heap.IsSliceOf sl .none .none (.int 2 u))
  (h:Q (.ref s.heap.objs.size) { s with heap:=s.heap.push { cls:=.type "tuple",data:=.seq #[x,z] } }):wpAny (model prog w) A (getItem (.ref t) (.ref sl)) Q E s:=by
 obtain⟨os,xj,hcs,lh⟩:=id hs;have hTs:s.TypeIs (.ref sl) "slice" := ⟨os,xj,hcs⟩
 have Me:sizeOk (.seq #[x,z]):=by
  show 2<=sizeLine;have:=sizeLine_eq;omega
 unfold getItem
 try with_reducible refine wpAny_holding ?_
 first | refine Zj (Zr ?_) | skip
 refine Zj (wpAny_sequenceKey ht.typeIs XA ?_)
 refine Zj (wpAny_callSpecial?_slot (name:=Str.ofString "__getitem__") ht.typeIs slot_tuple_getitem
  (wpAny_call_entry slot_tuple_getitem ht.typeIs entry_tuple_getitem ?_ (args_tuple_getitem _ _)))
 show wpAny _ _ (Builtin.Tuple.tupleItemsOf (.ref t) >>= _) _ _ s;refine Zj (tupleItemsOf_ ht ?_);refine Zj (wpAny_typeOf hTs ?_);rw[if_pos XA];refine Zj (Nn hs ?_);show wpAny _ _ (if ((0:Int)==0&&(2:Int)==1&&(2:Nat)==3)=true then _ else _) _ _ s;rw[if_neg XA]
 first
  | exact Zj (m:=Builtin.Tuple.tupleExact _) (wpAny_newObj_type (Zr ⟨_,rfl,Zr h⟩) Me)
  | exact Zj (m:=Builtin.Tuple.tupleExact _) (wpAny_newObj_type (Zj (Zr (Zr ⟨_,rfl,Zr h⟩))) Me)
  | exact Zj (Zj (m:=Builtin.Tuple.tupleExact _) (wpAny_newObj_type (Zr (Zr ⟨_,rfl,Zr h⟩)) Me))
  | exact Zj (Zj (m:=Builtin.Tuple.tupleExact _) (wpAny_newObj_type (Zr ⟨_,rfl,Zr h⟩) Me))
end
end HT
namespace L2
open PySem PySem.Spec PyProof.Rows
section
variable{X:Cx}{e:Expr}{te:TE}{pos p2 p3:Pos}{j1:Nat}
def tStp(K:W.Frag)(te:TE):TE:=λZ H Q=>te Z H λx H1=>∃a u v w,x=.ref a/\Y1 K H1 a [u,v,w]/\∀p,H1 p=none->Q (.ref p) (upd H1 p (.tup [u,w]))
theorem oz(he:PE X e te):PE X (.Subscript e (.Slice none none (some (.Constant (.int 2) j1 p3)) p2) pos) (tStp X.K te):=by
 intro XM s Z H Q I h;refine Subscript_ (Z5 (he XM s Z H _ I h) λv s1 ⟨x,H1,I1,r1,q1⟩=>?_);refine wpAny_Slice ?_;rw[evalPart_none];refine Zr (Zr ?_);rw[evalPart_some];refine Z5 ((gq (X:=X):PE X (.Constant (.int 2) j1 p3) (tC (.int 2))) XM s1 Z H1 (λv H2=>v=.int 2/\H2=H1) I1 ⟨rfl,rfl⟩) λu s3 ⟨y,H3,I3,r3,e3,e4⟩=>?_;subst e3 e4;obtain⟨t,rfl⟩:=r3;obtain⟨a,x1,x2,x3,rfl,hx,q⟩:=q1;cases r1;have I4:Inv X XM Z H3 { s3 with heap:=s3.heap.push { cls:=.type "slice",data:=.fields #[.none,.none,.int 2 t] } }:=I3.kept (t':=s3.toks) λb ob q=>Yn _ q;obtain⟨XT,r,ht,hz⟩:=I4.tuple hx;cases r with
 | cons r1 r =>
 cases r with
 | cons r2 r =>
 cases r with
 | cons r3 r =>
 cases r;show wpAny (model X.prog X.w) X.A (subscriptTail e (.Slice none none (some (.Constant (.int 2) j1 p3)) p2) (.ref a) (.ref s3.heap.objs.size)) (EP X XM Z Q) X.xe { s3 with heap:=s3.heap.push { cls:=.type "slice",data:=.fields #[.none,.none,.int 2 t] } };refine tail_any (ops:=[.ref a,.ref s3.heap.objs.size]) ht.typeIs slot_tuple_getitem.lookup (HT.M3 ht (Heap.IsSliceOf.new ..) ?_) (by with_unfolding_all rfl);refine⟨.ref _,_,I4.laid (t':=s3.toks) (o:=.tup [x1,x3]) (λb ob q=>Yn _ q) (Yk _) ?_,rfl,q _ (I4.hok.fresh (Yk _))⟩;exact⟨by have:=sizeLine_eq;show 2<=sizeLine;omega,_,.cons r1 (.cons r3 .nil),C7.new _ _⟩
end
end L2
namespace SetM
open PySem PySem.Spec PyProof.Rows
section
variable{prog:Program}{w:World}{A:Around}{E:ZW}{s:Shared}{a:Addr}
set_option maxHeartbeats 4000000 in
theorem set0{l:Addr}{Q:ZW}(hh:A.handled=none)(hl:s.heap.IsList l #[])
  (fin:∀(h1:Heap) (tk:Nat),h1.get? s.heap.objs.size=some (Yr (!(w.params.followText "set-order")))->(∀b o,s.heap.get? b=some o->h1.get? b=some o)->Q (.ref s.heap.objs.size) { s with heap:=h1,toks:=tk }) :
  wpAny (model prog w) A (call (.type "set") [.ref l]) Q E s:=by
 refine Km PySem.F.called_set (PySem.F.typeCall_set_1 (.ref l)) (iw (.ref l) ?_);generalize hb0:(!(w.params.followText "set-order"))=b0 at fin ⊢;have at0:(s.heap.push (Yr b0)).get? s.heap.objs.size=some (Yr b0):=Ur _ rfl;have ty0:Shared.TypeIs { s with heap:=s.heap.push (Yr b0) } (.ref s.heap.objs.size) "set" := ⟨_,at0,rfl⟩;refine⟨ty0,codeAny_call_builtin PySem.F.called_set.init.plain PySem.F.entry_set_init (check_set_init_1 ty0 ?_)⟩;obtain⟨⟨c0,d0,dt0,sl0⟩,e0,hc0,n0,hd0⟩:=hl;simp only at hc0 hd0;subst hc0 hd0;have e1:(s.heap.push (Yr b0)).get? l=some ⟨.type "list",d0,.seq #[] n0,sl0⟩:=Yn _ e0;have li:(s.heap.push (Yr b0)).IsList l #[]:=⟨_,e1,rfl,n0,rfl⟩;have u1:=PySem.F.sub_list_set;have u2:=PySem.F.sub_list_frozenset;have u3:(Value.type "list" == Value.type "dict")=false:=XA
 unfold Builtin.«set.__init__» noKeywords Builtin.Frozenset.updateFrom;generalize hit:pyIter=it
 wp_walk
 subst hit;have lt0:l<s.heap.objs.size:=Ye e0;have sz:(s.heap.push (Yr b0)).objs.size=s.heap.objs.size+1:=Heap.size_push _ _;refine wpAny_pyIter_list li (Zj (wpAny_runValue (codeAny_builtin PyProof.Rows.F.entry_set_update_loop ?_)));rw[Around.under_plainId PyProof.Rows.F.plain_set_update_loop];refine Zj (m:=pyNext _) (((Walks.list (by simp[hh]) _ l (by rw[sz];exact Dz (Nat.lt_succ_of_lt lt0)) #[]).toS).done _ _ _ ⟨⟨_,Ur _ rfl,rfl,rfl⟩,li.push _⟩ ?_);rintro⟨h2,g2,d2,tk2,o2⟩ mv;have x1:g2=s.gens:=mv.gens;have x2:d2=s.drawn:=mv.drawn;have x3:o2=s.os:=mv.os;subst x1 x2 x3
 have nb:∀b,b<=s.heap.objs.size->b∉[(s.heap.push (Yr b0)).objs.size]:=λb hb z=>by
  have z:=Nm.mp z;rw[sz]at z;omega
 exact Zr (Zr (Zr ⟨rfl,fin h2 tk2 (mv.heap _ _ (nb _ (Yk _)) (Yn _ at0)) λb o e=>mv.heap b o (nb _ (Nat.le_of_lt (Ye e))) (Yn _ (Yn _ e))⟩))
theorem iter0{b0:Bool}{Q:ZW}(ho:s.heap.get? a=some (Yr b0))(fin:Q (.ref s.heap.objs.size) { s with heap:=s.heap.push (T9 (rawInt 0) 0 a 0 0) }):wpAny (model prog w) A (pyIter (.ref a)) Q E s:=by
 have hT:s.TypeIs (.ref a) "set" := ⟨_,ho,rfl⟩;refine wpAny_pyIter_slot hT PySem.F.slot_set_iter (wpAny_call_entry PySem.F.slot_set_iter hT Tf ?_ (PySem.F.args_set_iter_1 _));unfold Builtin.«frozenset.__iter__» Builtin.Frozenset.slot0 slotArgs;simp only[List.isEmpty_nil,Bool.not_true,B0f, ↓reduceIte,bind_assoc,List.length_nil,bne_self_eq_false];unfold Builtin.Frozenset.addrOf Builtin.Frozenset.sizeOf;refine Zj (Zr ?_);dsimp only;refine Zj (Zr ?_);refine Zj (Zj (wpAny_setEntries_of ho rfl (Vh _ _ _).fits (Zr ?_)));unfold setDrawn setsByText;refine Zj (Zj (wpAny_setState_of ho rfl (Vh _ _ _).fits ?_));dsimp only;refine Zj (Zj (wpAny_askSetting (Zr (Zr ?_))));dsimp only;rw[if_neg (λz=>by have z':(!((model prog w).w.params.followText "set-order")&&(!(SetTable.fresh 0 0 b0).plain&&decide ((#[]:Array (Int×Value)).size>1)))=true:=z;simp at z')];refine Zj (Zr (Zj (wpAny_setEpoch_of ho rfl (Vh _ _ _).fits ?_)));exact Zj (wpAny_newObj_type (Zr ⟨_,rfl,"set_iterator",_,⟨_,Ur _ rfl,rfl⟩,B2.lookup,fin⟩))
theorem next0{I:Addr}{Q:ZT->Shared->Prop}(hh:A.handled=none)(ho:s.heap.get? a=some (Yr (!(w.params.followText "set-order"))))(hI:s.heap.get? I=some (T9 (rawInt 0) 0 a 0 0))
  (fin:∀h1,(∀b ob,b≠I->s.heap.get? b=some ob->h1.get? b=some ob)->Q none { s with heap:=h1 }) :
  wpAny (model prog w) A (pyNext (.ref I)) Q E s:=by
 have hTy:s.TypeIs (.ref I) "set_iterator" := ⟨_,hI,rfl⟩;unfold pyNext;refine Zj (wpAny_attempt (wpAny_callSpecial?_slot (name:=Str.ofString "__next__") hTy B2 (wpAny_call_entry B2 hTy v5 ?_ (ud _))));unfold Builtin.«set_iterator.__next__» slotArgs;simp only[List.isEmpty_nil,Bool.not_true,B0f, ↓reduceIte,bind_assoc,List.length_nil,bne_self_eq_false];refine Zj (Zr ?_);dsimp only;refine Zj (wpAny_fieldsOf hI rfl ?_);dsimp only[rawInt];refine Zj (wpAny_setEntries_of ho rfl (Vh _ _ _).fits ?_);rw[if_neg XI]
 have one:∀{Q1:Fin->Shared->Prop},wpAny (model prog w) A.in1 (do setField (.ref I) 2 .none;let e <-newExc (.type "StopIteration") [];raiseNew e) Q1
   (λe s'=>wpAny (model prog w) A (do let b <-isInstance e (.type "StopIteration");if b=true then pure none else throw e) Q E s') s:=by
  intro Q1;refine Zj (wpAny_setField hI rfl XI (Zj ?_));simp only[newExc,newTuple];refine Zj (wpAny_newObj_type ?_ (by size_fits));refine Zj (m:=firstArgMember _ _) (wpAny_of_eq (a:=Value.none) (by first | rfl | (simp only[firstArgMember];rfl)) ?_);refine wpAny_newObj_type ?_ (by size_fits);simp only[raiseNew];refine Zj (wpAny_handled ?_);rw[show A.in1.handled=none from hh];refine Zj (Zr (wpAny_throw ?_));refine Zj (wpAny_isInstance (T:="StopIteration") (b:=true) ⟨_,Ur _ rfl,rfl⟩ isSubtype_stop ?_);exact Zr (fin _ λb ob hb e=>Yn _ (Yn _ (Zzq hb e)))
 unfold setNext setsByText;refine Zj (Zj (wpAny_setState_of ho rfl (Vh _ _ _).fits ?_));dsimp only;refine Zj (Zj (wpAny_askSetting (Zr ?_)));dsimp only;cases hb:w.params.followText "set-order" with
 | true =>
  rw[show (model prog w).w.params.followText "set-order"=true from hb];simp only[↓reduceIte,XF,bne_self_eq_false,B0f];unfold setWalk setsByText;refine Zj (Zj (wpAny_setState_of ho rfl (Vh _ _ _).fits ?_));dsimp only;refine Zj (Zj (wpAny_askSetting (Zr ?_)));dsimp only;rw[show (model prog w).w.params.followText "set-order"=true from hb];simp only[↓reduceIte];refine Zj (wpAny_askSetting (Zr ?_));dsimp only;exact Zr one
 | false =>
  rw[show (model prog w).w.params.followText "set-order"=false from hb];simp only[↓reduceIte,XF,bne_self_eq_false,B0f];rw[if_neg (λz=>by have z':(!(SetTable.fresh 0 0 _).plain&&decide ((#[]:Array (Int×Value)).size>1))=true:=z;simp at z')];refine Zj (m:=ite _ _ _) ?_;rw[if_neg XI];exact Zr (Zr one)
theorem walks0{I:Addr}(hh:A.handled=none)(hne:a≠I) :
  Walks prog w A I [I,a] [I] 0 (λ_ _=>False) (λ_ h=>h.get? I=some (T9 (rawInt 0) 0 a 0 0)/\h.get? a=some (Yr (!(w.params.followText "set-order")))) where
 sub:=λb hb=>by rw[Nm.mp hb];exact Yu
 frame:=λi h h1 st k=>⟨k I Yu _ st.1,k a (Y3 _ Yu) _ st.2⟩
 item:=λi s Q E hi=>absurd hi (Nat.not_lt_zero _)
 done:=λs Q E st fin=>next0 hh st.2 st.1 λh1 k1=>fin h1 s.toks λb ob hb e=>k1 b ob (λz=>hb (by rw[z];exact List.mem_singleton_self _)) e
 self:=λi s Q E st q=>by
  have hTy:s.TypeIs (.ref I) "set_iterator" := ⟨_,st.1,rfl⟩;refine wpAny_pyIter_slot hTy Ha (wpAny_call_entry Ha hTy Rm ?_ (Lj _));exact Zr ⟨_,rfl,"set_iterator",_,hTy,B2.lookup,q⟩
theorem t9{Q:ZM->Shared->Prop}(hh:A.handled=none)(ho:s.heap.get? a=some (Yr (!(w.params.followText "set-order"))))
  (fin:∀(h1:Heap) (tk:Nat),(∀b ob,s.heap.get? b=some ob->h1.get? b=some ob)->s.heap.objs.size<h1.objs.size->Q [] { s with heap:=h1,toks:=tk }) :
  wpAny (model prog w) A (collect (.ref a)) Q E s:=by
 have alt:=Ye ho;unfold collect;refine Zj (wpAny_runValue (codeAny_builtin entry_proto_collect' ?_));rw[Around.under_plainId PySem.F.plain_proto_collect];refine Zj (m:=newList []) (wpAny_newObj_type (Zr ⟨plainId_quiet PySem.F.plain_list_iadd _,codeAny_builtin entry_list_iadd' ?_⟩));rw[Around.under_plainId PySem.F.plain_list_iadd];generalize hs1:({ s with heap:=s.heap.push { cls:=.type "list",dict:=none,data:=.seq ([]:ZM).toArray } }:Shared)=s1
 change wpAny (model prog w) A.in1 (Builtin.List.listExtendWith (.ref s.heap.objs.size) (.ref a) (.ref s.heap.objs.size)) _ _ _
 have Vi:s1.heap.get? s.heap.objs.size=some { cls:=.type "list",dict:=none,data:=.seq #[] 0,slots:=#[] }:=by rw[<-hs1];exact Ur _ rfl
 have k1:∀b ob,s.heap.get? b=some ob->s1.heap.get? b=some ob:=λb ob e=>by rw[<-hs1];exact Yn _ e
 have Ss:=k1 a _ ho;have hT1:s1.TypeIs (.ref a) "set" := ⟨_,Ss,rfl⟩;unfold Builtin.List.listExtendWith;refine Zj (wpAny_typeOf hT1 ?_)
 have n1:Builtin.List.listSameRef (.ref s.heap.objs.size) (.ref a)=false:=by
  simp only[Builtin.List.listSameRef,qd];exact Nat.ne_of_gt alt
 have n2:(Value.type "set" == Value.type "list")=false:=XA
 have n3:(Value.type "set" == Value.type "tuple")=false:=XA
 simp only[n1,n2,n3,Bool.or_false,B0f,if_false];refine Zj (iter0 Ss ?_);have at2:(s1.heap.push (T9 (rawInt 0) 0 a 0 0)).get? s1.heap.objs.size=_:=Ur _ rfl;have k2:∀b ob,s1.heap.get? b=some ob->(s1.heap.push (T9 (rawInt 0) 0 a 0 0)).get? b=some ob:=λb ob e=>Yn _ e;generalize s1.heap.push (T9 (rawInt 0) 0 a 0 0)=h2 at at2 k2 ⊢;generalize hI:s1.heap.objs.size=I at at2 ⊢;generalize hS:s.heap.objs.size=S at *;have S1:S<I:=hI ▸ Ye Vi;have aI:a≠I:=Dz (Nat.lt_trans alt S1)
 have Sfp:S∉[I,a]:=λz=>by
  rcases Yf.mp z with z | z
  .exact Dz S1 z
  .exact Nat.ne_of_gt alt (Nm.mp z)
 have W:=walks0 (prog:=prog) (w:=w) (A:=A.in1) hh aI
 have key:∀(h3:Heap) (c:Nat),(h3.get? I=some (T9 (rawInt 0) 0 a 0 0)/\h3.get? a=some (Yr (!(w.params.followText "set-order"))))->h3.get? S=some { cls:=.type "list",dict:=none,data:=.seq #[] c,slots:=#[] }->(∀b ob,s.heap.get? b=some ob->h3.get? b=some ob) ->
   codeAny (model prog w) A (.builtin "list.extend.loop" ⟨[.ref S,.ref I,.ref S],[]⟩) (λr s'=>match r with
    | .ok (.ret v)=>wpAny (model prog w) A (match v with
      | .ref a=>do
       let x <-load a
       match x.data with
        | .seq xs _=>pure xs.toList
        | _=>unsupported "internal:collect"
      | _=>unsupported "internal:collect") Q E s'
    | .ok _=>False
    | .error e=>E e s') { s1 with heap:=h3 }:=by
  intro h3 c st3 g3 k3;refine codeAny_extend_loopS W.toS (B0 _) S Sfp (.ref S) 0 0 _ #[] c rfl (B0 _) st3 g3 (ItemsOf.nil _) λs4 acc c4 mv g4 items=>?_;dsimp only;refine Zj (wpAny_load g4 ?_);dsimp only;obtain⟨h4,gg,d4,tk4,o4⟩:=s4;have x1:gg=s1.gens:=mv.gens;have x2:d4=s1.drawn:=mv.drawn;have x3:o4=s1.os:=mv.os;subst x1 x2 x3;rw[Array.eq_empty_of_size_eq_zero items.1, <-hs1];refine Zr (fin h4 tk4 (λb ob e=>mv.heap b ob (λz=>?_) (k3 b ob e)) (Ye g4));have lb:=Ye e;rw[hS]at lb;rcases Yf.mp z with z | z
  .exact absurd (z ▸ lb) (Nat.lt_irrefl _)
  .exact absurd (Nat.lt_trans (Nm.mp z ▸ lb) S1) (Nat.lt_irrefl _)
 have nbS:∀{b:Addr} {ob:Obj},s.heap.get? b=some ob->b≠S:=λe=>Dz (hS ▸ Ye e);refine Zj (wpAny_holding (dq ⟨_,k2 a _ Ss,rfl⟩ ?_));refine wpAny_ite_split (λ_=>?_) (λ_=>Zr ⟨plainId_quiet PySem.F.plain_extend_loop _,key h2 0 ⟨at2,k2 a _ Ss⟩ (k2 S _ Vi) λb ob e=>k2 b ob (k1 b ob e)⟩);refine Zj (wpAny_rule (Zj (m:=Builtin.List.listTouch (.ref S)) ?_))
 change wpAny (model prog w) _ (updateSeq S (·.push .none) >>= λ_=>updateSeq S (·.pop)) _ _ _
 refine Zj (wpAny_updateSeq (k2 S _ Vi) rfl ?_);have u1:=Heap.get?_update_self (Obj.mapSeq (·.push Value.none)) (k2 S _ Vi) rfl;refine wpAny_updateSeq (hz:=by seq_fits) u1 rfl ?_;have u2:=Heap.get?_update_self (Obj.mapSeq (·.pop)) u1 rfl;have other:∀b ob,b≠S->h2.get? b=some ob->((h2.update S (Obj.mapSeq (·.push Value.none))).update S (Obj.mapSeq (·.pop))).get? b=some ob:=λb ob z e=>(Heap.get?_update_other _ _ (Ne.symm z)).trans ((Heap.get?_update_other _ _ (Ne.symm z)).trans e);exact Zr ⟨plainId_quiet PySem.F.plain_extend_loop _,key _ _ ⟨other I _ (Nat.ne_of_gt S1) at2,other a _ (Dz alt) (k2 a _ Ss)⟩ u2 λb ob e=>other b ob (nbS e) (k2 b ob (k1 b ob e))⟩
theorem pd{Q:ZW}(hh:A.handled=none)(ho:s.heap.get? a=some (Yr (!(w.params.followText "set-order"))))
  (fin:∀(h1:Heap) (tk:Nat) (l:Addr) (n:Nat),(∀b ob,s.heap.get? b=some ob->h1.get? b=some ob)->s.heap.objs.size<=l->h1.get? l=some (seqObj "list" #[] n)->Q (.ref l) { s with heap:=h1,toks:=tk }) :
  wpAny (model prog w) A (call (.builtin "sorted") [.ref a]) Q E s:=by
 refine Calls.call_function_entry kind_sorted plain_sorted entry_sorted (args_sorted1 _) ?_;unfold Builtin.«sorted»;refine Zj (m:=checkCount "sorted" 1 1 _) (Zr ?_);refine Zj (t9 hh ho λh1 tk k1 sz=>?_);refine Zj (wpAny_newList ?_ (B0 _));refine Zj (wpAny_holding ?_);have Vi:(h1.push (seqObj "list" #[] 0)).get? h1.objs.size=some (seqObj "list" #[] 0):=Ur _ rfl;refine wpAny_call_entry slot_list_sort ⟨_,Vi,rfl⟩ entry_list_sort ?_ (args_list_sort _);refine list_sort_tree (s:={ s with heap:=h1.push (seqObj "list" #[] 0),toks:=tk }) (vs:=[]) Vi .nil XA λout ns q1 q2 q3=>⟨_,rfl,Zr ⟨_,rfl,?_⟩⟩;obtain⟨n,e⟩:=sortedHeap_at (h:=h1.push (seqObj "list" #[] 0)) (a:=h1.objs.size) (vs:=[]) (n:=0) (out:=out) Vi;have en:ns=[]:=List.perm_nil.mp q2;subst en;have eo:out=#[]:=by cases q1':out.toList with | nil=>exact Array.toList_eq_nil_iff.mp q1' | cons _ _=>rw[q1']at q1;cases q1
 subst eo;exact fin _ tk h1.objs.size n (λb ob e0=>Yo (Dz (Ye (k1 b ob e0))) (Yn _ (k1 b ob e0))) (Nat.le_of_lt sz) e
end
end SetM
namespace PV
open PySem PySem.Spec PyProof.Rows L2
structure TP where
 P:Addr
 lp:Pos
 q:Str
noncomputable def Zx2:Stmt:=PySem.Challenge.pw_makes_k38_least_values.main.body.getD 28 (.Pass ⟨0,0,0,0⟩)
noncomputable def Qc:TP:=⟨164,⟨216,48,216,78⟩,(envOfC "_law_written" (L2.Zw Zx2) 0 0 .none).qual++Str.ofString "<lambda>"⟩
def Rf:Option TP:=some Qc
abbrev Vj:Str:="_law_pair"
def Mh:ZK:=(L2.Zw Zx2).names
def Tb(T:TP)(H:Hp):Prop:=∃ps,H T.P=some (.tbl ps)/\C8 H T.lp T.q ps
def Pln(o:HO):Prop:=(∀ps,o≠.tbl ps)/\∀φ,o≠.ext φ
theorem kj{vs:ZQ}:Pln (.lst vs):=⟨λ_ z=>(nomatch z),λ_ z=>(nomatch z)⟩
theorem Zxp{vs:List (Key×V)}:Pln (.dK vs):=⟨λ_ z=>(nomatch z),λ_ z=>(nomatch z)⟩
theorem Zxh{o:Obj}{u:HO}:Pln (.frz o u):=⟨λ_ z=>(nomatch z),λ_ z=>(nomatch z)⟩
section
variable{T:TP}{F G H H':Hp}{a:Addr}{o o':HO}
theorem Tb.ne(t:Tb T H)(e:H a=some o)(n:Pln o):a≠T.P:=λz=>by
 obtain⟨ps,h,_⟩:=t;rw[z,h]at e;cases e;exact n.1 _ rfl
theorem Tb.no(t:Tb T H)(e:H a=none):a≠T.P:=λz=>by
 obtain⟨ps,h,_⟩:=t;rw[z,h]at e;cases e
theorem tab_keep{lp:Pos}{q:Str}{ps:ZN}(t:C8 H lp q ps)(h:∀a φ,H a=some (.ext φ)->H' a=some (.ext φ)):C8 H' lp q ps:=⟨t.1,t.2.imp id λ⟨c,e,hc⟩=>⟨c,e,h c _ hc⟩⟩
theorem Tb.same(t:Tb T H)(s:Zn H H'):Tb T H':=let ⟨ps,e,k⟩:=t;⟨ps,s _ _ e,tab_keep k λa o h=>s _ _ h⟩
theorem Tb.upd(t:Tb T H)(e:H a=some o)(n:Pln o):Tb T (upd H a o'):=by
 have ne:=t.ne e n;obtain⟨ps,h,k⟩:=t;refine⟨ps,by rw[Zz ne.symm];exact h,tab_keep k λb φ q=>?_⟩;rw[Zz λz=>by rw[z,e]at q;cases q;exact n.2 _ rfl];exact q
structure TBT(T:TP)(F G H:Hp):Prop where
 f:F T.P=none
 g:G T.P=none
 h:Tb T H
end
def TB(F G H:Hp):Prop:=∀T,Rf=some T->TBT T F G H
theorem TB.same{F G H H':Hp}(t:TB F G H)(s:Zn H H'):TB F G H':=λT e=>let ⟨f,g,h⟩:=t T e;⟨f,g,h.same s⟩
end PV
namespace L2
open PySem PySem.Spec PyProof.Rows
theorem zr{P:Program}{w:World}{A:Around}{E:ZW}{s:Shared}{f c' t:Addr}{name qual:Str}{pm ctv:Value}{p0 p1 p2 p3:Pos}{XT:ZM}{k:Int}{tk:Tok}{Q:ZW}
  (hd:A.depth<recursionLimit) (hf:s.heap.get? f=some (W.kla_obj name qual (E6 PV.Vj p0) (zh PV.Vj p1 p2 p3) (Mp PV.Vj) [] pm c' ctv)) (hc:s.heap.CodeRec (.ref c') qual) (lim:s.heap.NoLimit)
  (ht:IsTup s.heap t (.int k tk::XT).toArray) (hz:XT.length+1<=sizeLine)
  (h:∀(h':Heap) (tk':Nat) (t':Tok),(∀b o,s.heap.get? b=some o->h'.get? b=some o)->Q (.int k t') { s with heap:=h',toks:=tk' }) :
  wpAny (model P w) A (call (.ref f) [.ref t]) Q E s:=by
 refine wpAny_call ?_;have hb:bindArgs (W.kla_fn name qual (E6 PV.Vj p0) (zh PV.Vj p1 p2 p3) (Mp PV.Vj) [] pm (.ref c') ctv) ⟨[.ref t],[]⟩=pure [(PV.Vj,Value.ref t)]:=by rfl
 refine W.kla_callFunE hd hf rfl rfl rfl rfl hc ?_;rw[hb];refine Zr ?_;refine wpAny_newFunctionEnv_cells rfl (λx hx=>.inl ?_) λenv he s1 x=>?_
 .have e:x=(PV.Vj,Value.ref t):=by simpa using hx
  subst e
  rfl
 subst he;refine⟨lim.keeps x.toInCall.keep,W.kla_codeExpr ?_⟩;obtain⟨h1,tk1,rfl⟩:=x.toInCall.same;have kp:=x.toInCall.keep;refine Subscript_ (wpAny_Name (wpAny_loadName_local rfl rfl x.toInCall.ns rfl ?_) XA);refine wpAny_Constant_int ?_;have ht1:IsTup h1 t (.int k tk::XT).toArray:=let ⟨o,e1,e2,e3⟩:=ht;⟨o,kp _ _ e1,e2,e3⟩
 refine subscriptTail_builtinR (x:=.int k tk) (show Shared.TypeIs _ (.ref t) "tuple" from let ⟨o,e1,e2,_⟩:=ht1;⟨o,e1,e2⟩) slot_tuple_getitem.lookup
  (getItem_tuple (j:=0) (Q:=λr s'=>r=.int k tk/\_) ht1 XA XA ?_ XI ⟨rfl,?_⟩) rfl
 .rw[Jh];exact seqIndex_of XA (by rw[B9];omega)
 .exact h h1 _ tk kp
section
variable{X:Cx}{e:Expr}{te:TA}{p pos lp kp p0 p1 p2 p3:Pos}
theorem Q6{k:Nat}{P:Addr}(hr:Uc k X.A)(L:nr X P)(hg:Gl X "sorted")(hm:X.mg "sorted"=none)(ha:PA X [e] te)(hcl:closureFor (Mp PV.Vj) X.env=pure [])
  (hdf:defaultsOf (E6 PV.Vj p0) X.env=([],[]):=by rfl)
  (he:backTo pos (starEach [e] X.env)=(false,eval e X.env)::backTo pos (starEach [] X.env):=by rfl) (he2:((backTo pos (starEach [e] X.env)).any λx=>x.fst)=false:=by rfl) :
  PE X (.Call (.Name "sorted" p) [e] [{ arg:=some "key",value:=.Lambda (E6 PV.Vj p0) (zh PV.Vj p1 p2 p3) (Mp PV.Vj) lp,pos:=kp:Keyword }] pos) (w4 X.K P lp (X.env.qual++Str.ofString "<lambda>") te):=by
 intro XM s Z H Q I h;refine wpAny_Call_Name_kw (J4 I hg hm (by rfl) ?_ XA XA);refine callWith_kw (Z5 (ha pos XM s Z H _ I h) λus s1 ⟨vs,H1,I1,r1,q1⟩=>?_) he he2;obtain⟨l,xs,kz,ps,rfl,hl,h64,hP,ok,⟨hkl,hky⟩,fin⟩:=q1;cases r1 with
 | cons r1 r2 =>
 cases r2;cases(show _=Value.ref l from r1);refine wpAny_evalAll_cons (Zj (ba (x:=PV.Vj) L hcl hdf I1 hP ok λf c' pm ctv s2 H2 Sg I2 sm hP2 ok2 hf hc2 nf=>Zj (wpAny_standAt (Zr (wpAny_evalAll_nil ?_)))));show wpAny (model X.prog X.w) X.A (call (.builtin "sorted") [.ref l] [(Str.ofString "key",.ref f)]) _ _ s2
 have hl2:V0 X.K H2 l xs:=by
  rcases hl with (hl | ⟨o,hl⟩) | hl
  .exact .inl (.inl (sm _ _ (λz=>by rw[z,hP]at hl;cases hl) hl))
  .exact .inl (.inr ⟨o,sm _ _ (λz=>by rw[z,hP]at hl;cases hl) hl⟩)
  .exact .inr hl
 have ht2:∀{t:Addr} {ys:ZQ},Y1 X.K H1 t ys->Y1 X.K H2 t ys:=λ{t ys} q=>by
  rcases q with (q | ⟨o,q⟩) | q
  .exact .inl (.inl (sm _ _ (λz=>by rw[z,hP]at q;cases q) q))
  .exact .inl (.inr ⟨o,sm _ _ (λz=>by rw[z,hP]at q;cases q) q⟩)
  .exact .inr q
 obtain⟨XT,rv,pl,hz⟩:=I2.list hl2;obtain⟨m,hn,_⟩:=id I2.loc;have hLs:X.env.locals<s2.heap.objs.size:=hn.lt
 have lsz:(Ms s2.heap X.env.locals).objs.size<=X.env.locals:=by
  show (s2.heap.objs.extract 0 X.env.locals).size<=_;rw[Array.size_extract];omega
 have fr:Fr (Ms s2.heap X.env.locals) X.env.locals s2.heap m:=⟨hn,λb o e=>(B7 e).1,lsz⟩
 have nw:News (Ms s2.heap X.env.locals) X.env.locals s2.heap (T2 s2.heap X.env.locals):=λp hp=>by
  obtain⟨b,o⟩:=p;obtain⟨h1,h2⟩:=U0.mp hp;refine⟨h2,Nat.ne_of_gt h1,?_⟩;cases z:(Ms s2.heap X.env.locals).get? b with
  | none=>rfl
  | some o'=>exact absurd (B7 z).2 (Nat.lt_asymm h1)
 have xl:XT.length=xs.length:=rv.length.symm;refine ksk_sorted (b:=false) (vs:=XT) (kz:=kz) (f:=.ref f) fr nw pl.isList (by rw[hkl,xl]) (by rw[xl];exact h64) (ksk_s1 _ _) (λ_=>ksk_l1 _ _) (λa=>ksk_t1 f a) (λi v kk hv hk h' tk own f' n'=>?_) λD h' tk out c f' n' hD ko=>?_
 .have ka:=Ma f' n' λq hq=>List.mem_append_left _ hq
  obtain⟨x,hx,rx⟩:∃x,xs[i]?=some x/\RelV x v:=by
   have hi:i<xs.length:=by rw[<-xl];exact(Rk.mp hv).1
   obtain⟨u,hu,ru⟩:=rv.get (D4 hi);rw[hv]at hu;cases hu;exact⟨_,D4 hi,ru⟩
  obtain⟨t,ys,rfl,sq⟩:=hky i x kk hx hk;cases(show v=Value.ref t from rx);obtain⟨jts,jr,tp,jz⟩:=I2.tuple (ht2 sq);cases jr with
  | cons j1 j2 =>
   obtain⟨tt,rfl⟩:=(show ∃tt,_=Value.int kk tt from j1)
   have nt:t≠X.env.locals:=λz=>by
    obtain⟨o,e1,e2,n,e3⟩:=tp;obtain⟨o2,es,ep,e4,e5,e6,_⟩:=hn;rw[z,e4]at e1;cases e1;rw[e5]at e3;cases e3
   have nfL:f≠X.env.locals:=λz=>by
    obtain⟨o2,es,ep,e4,e5,e6,_⟩:=hn;rw[z,e4]at hf;cases hf;cases e5
   have ncL:c'≠X.env.locals:=λz=>by rw[z,I2.free]at hc2;cases hc2
   have Ex:IsTup h' t _:=let ⟨o,e1,e2,e3⟩:=tp;⟨o,ka _ _ nt e1,e2,e3⟩;refine zr (s:={ heap:=h',gens:=s2.gens,drawn:=s2.drawn,toks:=tk,os:=s2.os }) hr.depth (ka _ _ nfL hf) ?_ ?_ Ex (by have:=j2.length;rw[B9]at jz;omega) λh2 tk2 t2 kp=>?_
   .obtain⟨c1,o,vs,t,ec,ho,rr⟩:=Ul.code I2.hok hc2;cases ec;exact⟨c',o,vs,t,rfl,ka _ _ ncL ho,rr⟩
   .refine I2.ok.mod.nolimit.keeps λb o e=>f'.keep b o (Mr (I2.bk b o e) ?_);exact Rv (Ye e) (D0 I2.ok.bsz I2.ok.above)
   .exact KskEnd.intro ⟨B6 f'.ns λo e=>kp _ _ e,λb o e=>kp _ _ (f'.keep b o e),f'.above⟩ (λq hq=>let ⟨a1,a2,a3⟩:=n' q hq;⟨kp _ _ a1,a2,a3⟩) (λq hq=>hq)
 .have ka:=Ma f' n' λq hq=>Y3 _ hq;obtain⟨eD,nDL,lD⟩:=n' (D,seqObj "list" out c) Yu
  have nD:s2.heap.get? D=none:=by
   cases eo:s2.heap.get? D with
   | none=>rfl
   | some o =>
    exfalso
    rcases Nat.lt_trichotomy D X.env.locals with y | y | y
    .rw[Mr eo y]at lD;cases lD
    .exact nDL y
    .exact absurd (hD (D,o) (U0.mpr ⟨y,eo⟩)) (Nat.lt_irrefl _)
  have fD:H2 D=none:=by
   cases eo:H2 D with
   | none=>rfl
   | some u =>
    obtain⟨o,e⟩:=(I2.hok D u eo).has;rw[e]at nD;cases nD
  obtain⟨ps2,pm2,eo,pw⟩:=ko;obtain⟨qs,pq,qp⟩:=SetM.Pz pm2 (Tx (kz:=kz) rv);have ne:∀{b:Addr} {o:Obj},s2.heap.get? b=some o->b≠D:=λ{b o} e z=>by rw[z,nD]at e;cases e
  have neH:∀{b:Addr} {u:HO},H2 b=some u->b≠D:=λ{b u} e z=>by rw[z,fD]at e;cases e
  have I3:=I2.step (h':=h') (g':=s2.gens) (d':=s2.drawn) (t':=tk) (ch:=[]) (H':=upd H2 D (.lst (qs.map (·.2)))) (λ_ z=>nomatch z)
   (λb o nl _ _ e _=>ka b o nl e) (λb o nl _ _ e _=>⟨o.slots,ka b o nl e⟩) (λb o _ e n=>by rw[Zz (ne e)];exact n) (λb o _ e=>?_) (λb xs e=>by rw[Zz (neH e)];exact e) (λb o u e=>by rw[Zz (neH e)];exact e) (λb qs e=>⟨#[],by rw[Zz (neH e),e];simp⟩) (λm' hm=>?_) (λb u e=>?_) I2.bare
  .refine⟨.ref D,_,I3,rfl,fin D Sg qs _ (λa o na e=>?_) (by rw[Zz (neH hP2)];exact hP2) ⟨ok2.1,ok2.2.imp id λ⟨c1,e1,e2⟩=>⟨c1,e1,by rw[Zz (neH e2)];exact e2⟩⟩ ?_ Zx qp ?_⟩
   .have:=sm a o na e;rw[Zz (neH this)];exact this
   .cases z:H1 D with
    | none=>rfl
    | some u =>
     exact absurd (sm D u (λy=>by rw[y,hP2]at fD;cases fD) z) (by rw[fD];exactλz=>nomatch z)
   .have e1:=fst_eq pq;have:(ps2.map (·.1)).Pairwise (·<=·):=List.pairwise_map.mpr (pw.imp λq=>by simpa using q);rw[<-e1]at this;exact List.pairwise_map.mp this
  .by_cases z:b=X.env.locals
   .obtain⟨o2,_,_,e2,_⟩:=f'.ns;exact⟨o2,by rw[z];exact e2⟩
   .exact⟨o,ka b o z e⟩
  .have em:m'=m:=by
    obtain⟨o2,es,ep,e2,d2,_,r2⟩:=hm;obtain⟨o3,es3,ep3,e3,d3,_,r3⟩:=hn;rw[e2]at e3;cases e3;rw[d2]at d3;cases d3;exact funext λx=>(r2 x).symm.trans (r3 x)
   rw[em];exact f'.ns
  .by_cases z:b=D
   .subst z;rw[Zx]at e;cases e;refine⟨?_,out.toList,c,?_,?_⟩
    .rw[Yc,qp.length_eq,List.length_zip];have:=hz;omega
    .rw[eo];exact Qf pq
    .simpa using eD
   .rw[Zz z]at e;refine(I2.hok b u e).stay (λd v hd q=>ka d v ?_ q) (λd q=>by rw[Zz (neH q)];exact q) λd xs q=>by rw[Zz (neH q)];exact q
    rcases hd with rfl | hd
    .exact λzz=>by rw[zz,I2.free]at e;cases e
    .exact λzz=>by rw[zz,I2.free]at hd;cases hd
end
end L2
namespace PV
open PySem PySem.Spec PyProof.Rows L2
inductive T where
 | non | bl(b:Bool) | int(i:Int) | str(x:Str) | tup(ts:List T) | lst(ts:List T) | dct(XD:List (Key×T)) | fn(x:Str)
abbrev ZZ:=List T
abbrev ZX:=List (Key×T)
inductive Sl where | no | f(t:T) | o(t:T)
abbrev P:=List Sl
set_option genInjectivity true in
inductive A where | t(t:T) | s(i:Nat)
inductive Op where | add | sub | mul | fdiv | mod | pow
inductive Cm where | eq | ne | lt | le | gt | ge | isin | notin | is | isnt
inductive Kd where | int | bool | str | tuple | list | dict
inductive Pr where
 | op(o:Op) | cm(c:Cm) | c2(c d:Cm) | neg | ix | sl(lo hi:Bool) | rev
 | len | all | any | list | tuple | sorted | sset | lset | min | max | int | repr | dict | sum | abs | str | isi (n:Kd) | get1 | get2 | join (x:Str) | lvals | tup1 | dnew | sl2 | srtK
inductive Mt where | append | extend | pop | popAt | insert
inductive Ik where | rng | zip
inductive E where
 | v(i:Nat) | mv(i:Nat) | io(i:Nat) | k(t:T) | g(x:Str)
 | nil | cons (a r:E)
 | tup (es:E) | lst (es:E) | pr (p:Pr) (es:E)
 | and (a b:E) | or (a b:E) | not (a:E) | ite (c a b:E)
 | call (f:Str) (es:E) | cal (i:Nat) (es:E) | mt (m:Mt) (i:Nat) (es:E)
 | comp (tg it c el:E) (fr:ZG) (ns:ZD) | itr (k:Ik) (es:E) | tmp (a:E)
inductive S where
 | nil | seq(a r:S) | ret(a:E) | ex(a:E) | set(i:Nat)(a:E) | unp(tg a:E) | put(i:Nat)(k a:E)
 | ite (c:E) (a b:S) | loop (tg it:E) (b:S) | wh (c:E) (b:S) | pass | brk | cont
inductive Fl where | nx | rt(r:Sl) | bk | ct
noncomputable def G6(ts:ZZ)(lo hi:ZR):ZZ:=(ts.drop (HT.Yh ts.length 0 lo)).take (HT.Yh ts.length ts.length hi-HT.Yh ts.length 0 lo)
noncomputable def Zg(XD:ZX)(k:Key):Option T:=(XD.find? λp=>decide (p.1=k)).map (·.2)
noncomputable def Yw(XD:ZX)(k:Key)(v:T):ZX :=
 if (XD.any λp=>decide (p.1=k))=true then XD.map λp=>if p.1=k then (p.1,v) else p else XD++[(k,v)]
noncomputable def keyT:T->Option Key
 | .int i=>some (.inl i)
 | .str x=>some (.inr x)
 | _=>none
noncomputable def G1:Key->T
 | .inl i=>.int i
 | .inr x=>.str x
def dh:T->Bool
 | .non=>true
 | .bl _=>true
 | .int _=>true
 | .str _=>true
 | _=>false
noncomputable def shV:T->Option V
 | .non=>some .non
 | .bl b=>some (.bl b)
 | .int i=>some (.int i)
 | .str x=>some (.str x)
 | .tup _=>some (.ref 0)
 | _=>none
noncomputable def eqT:T->T->Option Bool
 | .str a,.str b=>some (decide (a=b))
 | .int a,.int b=>some (decide (a=b))
 | a,b=>if dh b=true then (shV a).bind λx=>(shV b).map (l7 x) else none
noncomputable def ia:T->T->Option Bool
 | .int a,.int b=>some (decide (a<b))
 | _,_=>none
def geT:T->T->Option Bool
 | .int a,.int b=>some (decide (b<=a))
 | _,_=>none
noncomputable def Gm(a:T):ZZ->Option Bool
 | []=>some false
 | t::r=>(eqT t a).bind λb=>(Gm a r).map (b || ·)
noncomputable def V4:ZZ->Option (ZL)
 | []=>some []
 | .int i::r=>(V4 r).map (i::·)
 | _::_=>none
noncomputable def Mj:ZZ->Option (ZD)
 | []=>some []
 | .str i::r=>(Mj r).map (i::·)
 | _::_=>none
mutual
noncomputable def toPy:T->Option PyData
 | .non=>some .none
 | .bl b=>some (.bool b)
 | .int i=>some (.int i)
 | .str x=>some (.str x)
 | .tup ts=>(Dj ts).map .tuple
 | _=>none
noncomputable def Dj:ZZ->Option (List PyData)
 | []=>some []
 | t::r=>(toPy t).bind λd=>(Dj r).map (d::·)
end
noncomputable def rpT(t:T):Option Str:=(toPy t).bind λd=>if d.showable=true/\d.shown.length<=sizeLine/\d.depth<=100 then some d.shown else none
def inF(a:T)(ts:ZZ):Option Bool:=if dh a=true then Gm a ts else none
noncomputable def inT(a:T):T->Option Bool
 | .lst ts=>inF a ts
 | .tup ts=>inF a ts
 | .dct XD=>(keyT a).map λk=>(Zg XD k).isSome
 | _=>none
noncomputable def isT:T->T->Option Bool
 | .non,.non=>some true
 | _,.non=>some false
 | _,_=>none
noncomputable def eqC:T->T->Option Bool
 | .tup ts,.tup []=>some ts.isEmpty
 | a,b=>eqT a b
noncomputable def eqL:T->T->Option Bool
 | .lst ts,.lst []=>some ts.isEmpty
 | a,b=>eqC a b
noncomputable def Cd:Cm->T->T->Option Bool
 | .eq,a,b=>eqL a b
 | .ne,a,b=>(eqC a b).map not
 | .lt,a,b=>ia a b
 | .gt,a,b=>ia b a
 | .le,a,b=>(ia b a).map not
 | .ge,a,b=>geT a b
 | .isin,a,b=>inT a b
 | .notin,a,b=>(inT a b).map not
 | .is,a,b=>isT a b
 | .isnt,a,b=>(isT a b).map not
noncomputable def Zzk(f:Int->Int->Option Sl)(t t':T):Option Sl:=match t with
 | .int a=>(match t' with
  | .int b=>f a b
  | _=>none)
 | _=>none
noncomputable def addT(t t':T):Option Sl:=match t with
 | .int a=>(match t' with
  | .int b=>some (.f (.int (a+b)))
  | _=>none)
 | .str a=>(match t' with
  | .str b=>if a.length+b.length<=sizeLine then some (.f (.str (a++b))) else none
  | _=>none)
 | .lst a=>(match t' with
  | .lst b=>if a.length+b.length<=sizeLine then some (.o (.lst (a++b))) else none
  | _=>none)
 | .tup a=>(match t' with
  | .tup b=>if a.length+b.length<=sizeLine then some (.f (.tup (a++b))) else none
  | _=>none)
 | .bl a=>(match t' with
  | .int b=>some (.f (.int ((if a=true then 1 else 0)+b)))
  | _=>none)
 | _=>none
noncomputable def mulT(t t':T):Option Sl:=match t with
 | .int a=>(match t' with
  | .int b=>if (-(2 ^ 64)<a/\a<2 ^ 64)\/(-(2 ^ 64)<b/\b<2 ^ 64) then some (.f (.int (a*b))) else none
  | _=>none)
 | .str a=>(match t' with
  | .int n=>if 0<=n/\n<=1000/\a.length<=1000 then some (.f (.str (repS a n.toNat))) else none
  | _=>none)
 | _=>none
noncomputable def opT(o:Op)(t t':T):Option Sl:=match o with
 | .add=>addT t t'
 | .sub=>none
 | .mul=>mulT t t'
 | .fdiv=>Zzk (λa b=>if 0<b/\b<1073741824 then some (.f (.int (a / b))) else none) t t'
 | .mod=>Zzk (λa b=>if 0<b then some (.f (.int (a % b))) else none) t t'
 | .pow=>Zzk (λa b=>if 0<=b/\b<=1000000/\a.natAbs<2 ^ 64 then some (.f (.int (a ^ b.toNat))) else none) t t'
noncomputable def A7:T->T->Option T
 | .tup ts,.int i=>C3 ts i
 | .lst ts,.int i=>C3 ts i
 | .str z,.int i=>if z.length<=sizeLine then (C3 z.cps.toList i).map λc=>.str ⟨#[c]⟩ else none
 | .dct XD,k=>(keyT k).bind (Zg XD)
 | _,_=>none
noncomputable def slT:T->ZR->ZR->Option Sl
 | .tup ts,lo,hi=>some (.f (.tup (G6 ts lo hi)))
 | .lst ts,lo,hi=>some (.o (.lst (G6 ts lo hi)))
 | .str z,lo,hi=>if z.length<=sizeLine then some (.f (.str (Txt.slice z lo hi))) else none
 | _,_,_=>none
noncomputable def ie:T->ZH
 | .tup ts=>some ts.length
 | .lst ts=>some ts.length
 | .dct ts=>some ts.length
 | .str z=>if z.length<=sizeLine then some z.length else none
 | _=>none
noncomputable def isiT:Kd->T->Option Bool
 | .int,.int _=>some true
 | .int,.bl _=>some true
 | .bool,.bl _=>some true
 | .str,.str _=>some true
 | .tuple,.tup _=>some true
 | .list,.lst _=>some true
 | .dict,.dct _=>some true
 | _,.fn _=>none
 | _,_=>some false
def intT:T->ZR
 | .int i=>some i
 | _=>none
def ctn:T->Bool
 | .lst _=>true
 | .dct _=>true
 | _=>false
noncomputable def Ug:ZZ->Option (ZX)
 | []=>some []
 | .tup [a,b]::r=>(keyT a).bind λk=>(Ug r).map ((k,b)::·)
 | _::_=>none
noncomputable def W6(ts:ZZ):Option (ZZ) :=
 if ts.length<64 then match V4 ts with
  | some zs=>some ((SRT.Eg zs).map .int)
  | none=>(Mj ts).map λss=>(SRT.G2 ss).map .str
 else none
noncomputable def Ud:ZZ->Option (ZL)
 | []=>some []
 | .tup (.int i::_)::r=>(Ud r).map (i::·)
 | _::_=>none
noncomputable def Xp(ts:ZZ):Option (ZZ):=match Ud ts with
 | some hs=>if hs.Nodup/\ts.length<64 then some ((SRT.Jp (hs.zip ts)).map (·.2)) else none
 | none=>W6 ts
noncomputable def scal:T->Bool
 | .tup _=>false
 | .lst _=>false
 | .dct _=>false
 | _=>true
noncomputable def Ww:ZZ->Option (List (Int×Int))
 | []=>some []
 | .tup (.int i::.int j::_)::r=>(Ww r).map ((i,j)::·)
 | _::_=>none
noncomputable def Yv(a b:Int×Int):Bool:=if a.1=b.1 then decide (a.2<b.2) else decide (a.1<b.1)
noncomputable def ic(ts:ZZ):Option T:=(Ww ts).bind λhs=>if hs.Nodup then ((hs.zip ts).find? λp=>hs.all λq=>!Yv q p.1).map (·.2) else none
noncomputable def maxL:ZL->ZR
 | []=>none
 | z::r=>some (r.foldl (λa b=>if a<b then b else a) z)
noncomputable def minL:ZL->ZR
 | []=>none
 | z::r=>some (r.foldl (λa b=>if b<a then b else a) z)
theorem ir{zs:ZL}{m:Int}(h:maxL zs=some m):m∈zs/\∀a∈zs,a<=m:=by
 cases zs with
 | nil=>cases h
 | cons z r =>
  cases h
  induction r generalizing z with
  | nil=>exact⟨Yu,λa m=>by rw[Nm.mp m];exact Int.le_refl _⟩
  | cons y r ih =>
   obtain⟨h1,h2⟩:=ih (if z<y then y else z);have e:(if z<y then y else z)=z\/(if z<y then y else z)=y:=by split<;>simp
   have g:=h2 _ Yu;refine⟨?_,λa m=>?_⟩
   .rw[List.foldl_cons];rcases Yf.mp h1 with h | h
    .rw[h];rcases e with e | e<;>rw[e]<;>simp
    .exact Y3 _ (Y3 _ h)
   .rw[List.foldl_cons];rcases Yf.mp m with rfl | m
    .split at g<;>(split<;>omega)
    .rcases Yf.mp m with rfl | m
     .split at g<;>(split<;>omega)
     .exact h2 a (Y3 _ m)
theorem Ll{zs:ZL}{m:Int}(h:minL zs=some m):m∈zs/\∀a∈zs,m<=a:=by
 cases zs with
 | nil=>cases h
 | cons z r =>
  cases h
  induction r generalizing z with
  | nil=>exact⟨Yu,λa m=>by rw[Nm.mp m];exact Int.le_refl _⟩
  | cons y r ih =>
   obtain⟨h1,h2⟩:=ih (if y<z then y else z);have e:(if y<z then y else z)=z\/(if y<z then y else z)=y:=by split<;>simp
   have g:=h2 _ Yu;refine⟨?_,λa m=>?_⟩
   .rw[List.foldl_cons];rcases Yf.mp h1 with h | h
    .rw[h];rcases e with e | e<;>rw[e]<;>simp
    .exact Y3 _ (Y3 _ h)
   .rw[List.foldl_cons];rcases Yf.mp m with rfl | m
    .split at g<;>(split<;>omega)
    .rcases Yf.mp m with rfl | m
     .split at g<;>(split<;>omega)
     .exact h2 a (Y3 _ m)
noncomputable def zg(ts:ZZ):Option Sl:=match V4 ts with
 | some zs=>(minL zs).map λm=>.f (.int m)
 | none=>(ic ts).map .f
noncomputable def thr:T->Option (T×T×T)
 | .tup [a,b,c]=>some (a,b,c)
 | _=>none
theorem thr_is{t:T}{q:T×T×T}(h:thr t=some q):t=.tup [q.1,q.2.1,q.2.2]:=by
 unfold thr at h
 split at h
 .cases h;rfl
 .cases h
def pOp(o:Op):ZZ->Option Sl
 | [a,b]=>opT o a b
 | _=>none
noncomputable def pCm(c:Cm):ZZ->Option Sl
 | [a,b]=>(Cd c a b).map λr=>.f (.bl r)
 | _=>none
noncomputable def pC2(c:Cm)(d:Cm):ZZ->Option Sl
 | [a,b,e]=>(Cd c a b).bind λr=>if r=true then (Cd d b e).map λr=>.f (.bl r) else some (.f (.bl false))
 | _=>none
noncomputable def pNeg:ZZ->Option Sl
 | [.int i]=>some (.f (.int (-i)))
 | _=>none
noncomputable def pIx:ZZ->Option Sl
 | [a,b]=>(A7 a b).map .f
 | _=>none
noncomputable def pSl10:ZZ->Option Sl
 | [a,l]=>(intT l).bind λi=>slT a (some i) none
 | _=>none
def pSl01:ZZ->Option Sl
 | [a,h]=>(intT h).bind λj=>slT a none (some j)
 | _=>none
noncomputable def pLen:ZZ->Option Sl
 | [a]=>(ie a).map λn=>.f (.int n)
 | _=>none
noncomputable def Zxi:ZZ->Option Sl
 | [.tup ts]=>some (.o (.lst ts))
 | _=>none
noncomputable def As:ZZ->Option Sl
 | [.lst ts]=>(Xp ts).map λus=>.o (.lst us)
 | [.dct XD]=>(W6 (XD.map λp=>G1 p.1)).map λus=>.o (.lst us)
 | _=>none
noncomputable def pSset:ZZ->Option Sl
 | [.lst []]=>some (.o (.lst []))
 | _=>none
noncomputable def gh:ZZ->Option Sl
 | [.lst ts]=>some (.f (.tup ts))
 | _=>none
noncomputable def pMin:ZZ->Option Sl
 | [.int a,.int b]=>some (.f (.int (if b<a then b else a)))
 | [.int a,.bl b]=>some (.f (if decide ((if b=true then 1 else 0)<a)=true then .bl b else .int a))
 | [.lst ts]=>zg ts
 | _=>none
noncomputable def pMax:ZZ->Option Sl
 | [.int a,.int b]=>some (.f (.int (if b>a then b else a)))
 | [.int a,.bl b]=>some (.f (if decide ((if b=true then 1 else 0)>a)=true then .bl b else .int a))
 | [.lst ts]=>(V4 ts).bind λzs=>(maxL zs).map λm=>.f (.int m)
 | _=>none
noncomputable def pInt:ZZ->Option Sl
 | [.int i]=>some (.f (.int i))
 | [.bl b]=>some (.f (.int (if b then 1 else 0)))
 | [.str z]=>if z.length<=640 then (PySem.intText? z).map λn=>.f (.int n) else none
 | _=>none
noncomputable def pAbs:ZZ->Option Sl
 | [.int i]=>some (.f (.int (if i<0 then -i else i)))
 | _=>none
noncomputable def pIsi(n:Kd):ZZ->Option Sl
 | [a]=>(isiT n a).map λr=>.f (.bl r)
 | _=>none
noncomputable def Zxe:ZZ->Option Sl
 | [.dct XD]=>some (.o (.dct XD))
 | [.lst ts]=>(Ug ts).map λXD=>.o (.dct (XD.foldl (λacc kv=>Yw acc kv.1 kv.2) []))
 | _=>none
noncomputable def Zxo:ZZ->Option Sl
 | [a]=>(rpT a).map λz=>.f (.str z)
 | _=>none
noncomputable def pStr:ZZ->Option Sl
 | [.int i]=>if i.natAbs.log2<1920 then some (.f (.str (toString i))) else none
 | _=>none
noncomputable def pSum:ZZ->Option Sl
 | [.lst ts]=>(V4 ts).map λzs=>.f (.int zs.sum)
 | _=>none
noncomputable def pDnew:ZZ->Option Sl
 | []=>some (.o (.dct []))
 | _=>none
noncomputable def pGet1:ZZ->Option Sl
 | [.dct XD,k]=>(keyT k).map λk=>.f ((Zg XD k).getD .non)
 | _=>none
noncomputable def pGet2:ZZ->Option Sl
 | [.dct XD,k,x]=>if ctn x=true then none else (keyT k).map λk=>.f ((Zg XD k).getD x)
 | _=>none
noncomputable def pJoin(x:Str):ZZ->Option Sl
 | [.lst ts]=>(Mj ts).bind λss=>if (ss.map (·.length)).sum+ss.length*x.length<=16777216 then some (.f (.str (Txt.join x ss))) else none
 | _=>none
noncomputable def pLvals:ZZ->Option Sl
 | [.dct XD]=>some (.o (.lst (XD.map (·.2))))
 | _=>none
def pTup1:ZZ->Option Sl
 | [t]=>if scal t=true then some (.f (.tup [t])) else none
 | _=>none
noncomputable def pSl2:ZZ->Option Sl
 | [t]=>(thr t).map λq=>.f (.tup [q.1,q.2.2])
 | _=>none
noncomputable def pSrtK:ZZ->Option Sl
 | [.lst ts]=>(Ud ts).bind λhs=>if hs.Nodup/\ts.length<64 then some (.o (.lst ((SRT.Jp (hs.zip ts)).map (·.2)))) else none
 | _=>none
noncomputable def Ld:Pr->ZZ->Option Sl
 | .op o=>pOp o
 | .cm c=>pCm c
 | .c2 c d=>pC2 c d
 | .neg=>pNeg
 | .ix=>pIx
 | .sl true false=>pSl10
 | .sl false true=>pSl01
 | .len=>pLen
 | .list=>Zxi
 | .sorted=>As
 | .sset=>pSset
 | .tuple=>gh
 | .min=>pMin
 | .max=>pMax
 | .int=>pInt
 | .abs=>pAbs
 | .isi n=>pIsi n
 | .dict=>Zxe
 | .repr=>Zxo
 | .str=>pStr
 | .sum=>pSum
 | .dnew=>pDnew
 | .get1=>pGet1
 | .get2=>pGet2
 | .join x=>pJoin x
 | .lvals=>pLvals
 | .tup1=>pTup1
 | .sl2=>pSl2
 | .srtK=>pSrtK
 | _=>λ_=>none
noncomputable def look(p:P)(a:A):Option T :=
 match a with
 | .t t=>some t
 | .s i=>match p[i]? with
  | some (.f t)=>some t
  | some (.o t)=>some t
  | _=>none
noncomputable def looks(p:P):List A->Option (ZZ)
 | []=>some []
 | a::r=>(look p a).bind λt=>(looks p r).map (t::·)
noncomputable def frs:Sl->Sl
 | .o t=>.f t
 | s=>s
noncomputable def frz(p:P):P:=p.map frs
noncomputable def args(p:P):List A->Option (List Sl)
 | []=>some []
 | .t t::r=>(args p r).map (.f t::·)
 | .s i::r=>match p[i]? with
  | some (.o t)=>(args (p.set i .no) r).map (.o t::·)
  | _=>none
def mkO:T->Sl
 | .fn _=>.no
 | t=>.o t
theorem mkO_f{t u:T}:mkO t≠.f u:=by cases t<;>exactλz=>nomatch z
noncomputable def outs(p:P):List A->ZZ->Option P
 | [],[]=>some p
 | .t _::r,ts=>outs p r ts
 | .s i::r,t::ts=>outs (p.set i (mkO t)) r ts
 | _,_=>none
noncomputable def Rx:List Sl->ZZ->List Sl
 | .o _::r,t::ts=>mkO t::Rx r ts
 | s::r,ts=>s::Rx r ts
 | [],_=>[]
noncomputable def qb(fr:ZG)(p:P):P:=fr.map λo=>match o with
 | some j=>(p[j]?).getD .no
 | none=>.no
noncomputable def back:ZG->P->P->P
 | some j::fr,s::q,p=>back fr q (p.set j s)
 | none::fr,_::q,p=>back fr q p
 | _,_,p=>p
mutual
noncomputable def asg:E->T->P->Option P
 | .v i,t,p=>some (p.set i (.f t))
 | .tup es,.tup ts,p=>Ku es ts p
 | _,_,_=>none
noncomputable def Ku:E->ZZ->P->Option P
 | .nil,[],p=>some p
 | .cons a r,t::ts,p=>(asg a t p).bind λq=>Ku r ts q
 | _,_,_=>none
end
def thaw:Sl->Option T
 | .f t=>some t
 | .o t=>some t
 | .no=>none
noncomputable def N9:T->Option (ZZ)
 | .tup ts=>some ts
 | .lst ts=>some ts
 | .dct XD=>some (XD.map λp=>G1 p.1)
 | .str z=>if z.length<=sizeLine then some (z.cps.toList.map λc=>.str ⟨#[c]⟩) else none
 | _=>none
noncomputable def Dm(body:T->P->Option (Option T×P)):ZZ->ZZ->P->Option (ZZ×P)
 | [],acc,p=>some (acc,p)
 | x::r,acc,p=>(body x p).bind λq=>match q.1 with
  | some y=>Dm body r (acc++[y]) q.2
  | none=>Dm body r acc q.2
noncomputable def ib:Mt->T->ZZ->Option (T×T)
 | .append,.lst ts,[x]=>if ts.length<sizeLine then some (.lst (ts++[x]),.non) else none
 | .popAt,.lst ts,[.int i]=>(Sr ts.length i).bind λj=>(ts[j]?).map λx=>(.lst (ts.eraseIdx j),x)
 | _,_,_=>none
abbrev Cs:=Str->List Sl->Option (Sl×ZZ)
structure W where
 C:Cs
 gl:Str->Option T
noncomputable def read(p:P)(i:Nat):Option (T×P):=match p[i]? with
 | some (.f t)=>some (t,p)
 | some (.o t)=>some (t,p.set i (.f t))
 | _=>none
noncomputable def done(p:P)(i:Nat):Bool:=match p[i]? with
 | some (.f _)=>true
 | some (.o _)=>true
 | _=>false
noncomputable def zj(p:P)(i:Nat):Bool:=match p[i]? with
 | some (.o (.lst _))=>true
 | _=>false
noncomputable def rngT:T->Option (ZZ)
 | .int n=>if -1000000<=n/\n<=1000000 then some ((List.range n.toNat).map λk=>.int (k:Nat)) else none
 | _=>none
noncomputable def D7(a b:ZZ):ZZ:=(a.zip b).map λp=>.tup [p.1,p.2]
noncomputable def itT:Ik->ZZ->Option (ZZ)
 | .rng,[t]=>rngT t
 | .zip,[.lst a,.lst b]=>some (D7 a b)
 | .zip,[.tup a,.tup b]=>some (D7 a b)
 | _,_=>none
section
variable(w:W)
def isNil:E->Bool
 | .nil=>true
 | _=>false
noncomputable def Ji(o:Option (Sl×P)):Option (Bool×P):=o.bind λq=>match q.1 with
 | .f (.bl b)=>some (b,q.2)
 | _=>none
noncomputable def toT(o:Option (Sl×P)):Option (T×P):=o.bind λq=>(thaw q.1).map λt=>(t,q.2)
noncomputable def toF(o:Option (Sl×P)):Option (T×P):=o.bind λq=>match q.1 with
 | .f t=>some (t,q.2)
 | _=>none
noncomputable def n9(o:Option (Sl×P)):Option (ZZ×P):=(toT o).bind λq=>(N9 q.1).map λts=>(ts,q.2)
noncomputable def P1(m:Bool)(a:E)(p:P)(x:Option (T×P)):Option (A×P):=match a with
 | .io i=>if done p i=true then some (.s i,p) else none
 | .v i=>if m=true then (if done p i=true then some (.s i,p) else none) else (read p i).map λq=>(.t q.1,q.2)
 | _=>x.map λq=>(.t q.1,q.2)
mutual
noncomputable def ev:E->P->Option (Sl×P)
 | .v i,p=>(read p i).map λq=>(.f q.1,q.2)
 | .mv i,p=>match p[i]? with
  | some (.o t)=>some (.o t,p.set i .no)
  | some (.f t)=>some (.f t,p)
  | _=>none
 | .k t,p=>some (.f t,p)
 | .g x,p=>(w.gl x).map λt=>(.f t,p)
 | .tup es,p=>(Jl false es p).bind λq=>(looks q.2 q.1).bind λts=>if ts.length<=sizeLine then some (.f (.tup ts),q.2) else none
 | .lst es,p=>(Jl false es p).bind λq=>(looks q.2 q.1).bind λts=>if ts.length<=sizeLine then some (.o (.lst ts),q.2) else none
 | .pr r es,p=>(Jl true es p).bind λq=>(looks q.2 q.1).bind λts=>(Ld r ts).map λs=>(s,q.2)
 | .and a b,p=>(Ji (ev a p)).bind λq=>if q.1=true then ev b q.2 else some (.f (.bl false),q.2)
 | .or a b,p=>(Ji (ev a p)).bind λq=>if q.1=true then some (.f (.bl true),q.2) else ev b q.2
 | .not a,p=>(Ji (ev a p)).map λq=>(.f (.bl (!q.1)),q.2)
 | .ite c a b,p=>(Ji (ev c p)).bind λq=>if q.1=true then ev a q.2 else ev b q.2
 | .call f es,p=>(Jl false es p).bind λq=>(args q.2 q.1).bind λas=>(w.C f as).bind λr=>(outs q.2 q.1 r.2).map λp'=>(r.1,p')
 | .cal i es,p=>match p[i]? with
  | some (.f (.fn f))=>(Jl false es p).bind λq=>(args q.2 q.1).bind λas=>(w.C f as).bind λr=>(outs q.2 q.1 r.2).map λp'=>(r.1,p')
  | _=>none
 | .mt m i es,p=>if zj p i=true then (Jl false es p).bind λq=>(looks q.2 q.1).bind λts=>match q.2[i]? with
   | some (.o t)=>(ib m t ts).map λr=>(.f r.2,q.2.set i (.o r.1))
   | _=>none
  else none
 | .comp tg it c el fr _,p=>(n9 (ev it p)).bind λq=>(Dm (λx s=>(asg tg x s).bind λs1=>(if isNil c=true then some (true,s1) else Ji (ev c s1)).bind λb=>if b.1=true then (toT (ev el b.2)).map λr=>(some r.1,r.2) else some (none,b.2)) q.1 [] (qb fr q.2)).map λr=>(.o (.lst r.1),back fr r.2 q.2)
 | .itr k es,p=>(Jl false es p).bind λq=>(looks q.2 q.1).bind λts=>(itT k ts).map λxs=>(.f (.lst xs),q.2)
 | .tmp a,p=>(toF (ev a (frz p))).bind λq=>if scal q.1=true then some (.f q.1,p) else none
 | _,_=>none
noncomputable def Jl:Bool->E->P->Option (List A×P)
 | _,.nil,p=>some ([],p)
 | m,.cons a r,p=>(P1 m a p (toT (ev a p))).bind λq=>(Jl m r q.2).map λs=>(q.1::s.1,s.2)
 | _,_,_=>none
end
end
theorem ev_vQ{w:W}{p:P}:∀i,ev w (.v i) p=((read p i).map λq=>(.f q.1,q.2)):=λ_=>rfl
theorem ev_mvQ{w:W}{p:P}:∀i,ev w (.mv i) p=(match p[i]? with
  | some (.o t)=>some (.o t,p.set i .no)
  | some (.f t)=>some (.f t,p)
  | _=>none):=λ_=>rfl
theorem Zzp{w:W}{p:P}:∀es,ev w (.tup es) p=((Jl w false es p).bind λq=>(looks q.2 q.1).bind λts=>if ts.length<=sizeLine then some (.f (.tup ts),q.2) else none):=λ_=>rfl
theorem Zza{w:W}{p:P}:∀es,ev w (.lst es) p=((Jl w false es p).bind λq=>(looks q.2 q.1).bind λts=>if ts.length<=sizeLine then some (.o (.lst ts),q.2) else none):=λ_=>rfl
theorem ev_prQ{w:W}{p:P}:∀r es,ev w (.pr r es) p=((Jl w true es p).bind λq=>(looks q.2 q.1).bind λts=>(Ld r ts).map λs=>(s,q.2)):=λ_ _=>rfl
theorem Ir{w:W}{p:P}:∀a b,ev w (.and a b) p=((Ji (ev w a p)).bind λq=>if q.1=true then ev w b q.2 else some (.f (.bl false),q.2)):=λ_ _=>rfl
theorem tz{w:W}{p:P}:∀a b,ev w (.or a b) p=((Ji (ev w a p)).bind λq=>if q.1=true then some (.f (.bl true),q.2) else ev w b q.2):=λ_ _=>rfl
theorem Il{w:W}{p:P}:∀a,ev w (.not a) p=((Ji (ev w a p)).map λq=>(.f (.bl (!q.1)),q.2)):=λ_=>rfl
theorem Zzi{w:W}{p:P}:∀c a b,ev w (.ite c a b) p=((Ji (ev w c p)).bind λq=>if q.1=true then ev w a q.2 else ev w b q.2):=λ_ _ _=>rfl
theorem tw{w:W}{p:P}:∀f es,ev w (.call f es) p=((Jl w false es p).bind λq=>(args q.2 q.1).bind λas=>(w.C f as).bind λr=>(outs q.2 q.1 r.2).map λp'=>(r.1,p')):=λ_ _=>rfl
theorem ev_mtQ{w:W}{p:P}:∀m i es,ev w (.mt m i es) p=(if zj p i=true then (Jl w false es p).bind λq=>(looks q.2 q.1).bind λts=>match q.2[i]? with
   | some (.o t)=>(ib m t ts).map λr=>(.f r.2,q.2.set i (.o r.1))
   | _=>none
  else none):=λ_ _ _=>rfl
theorem tq{w:W}{p:P}:∀tg it c el fr zz,ev w (.comp tg it c el fr zz) p=((n9 (ev w it p)).bind λq=>(Dm (λx s=>(asg tg x s).bind λs1=>(if isNil c=true then some (true,s1) else Ji (ev w c s1)).bind λb=>if b.1=true then (toT (ev w el b.2)).map λr=>(some r.1,r.2) else some (none,b.2)) q.1 [] (qb fr q.2)).map λr=>(.o (.lst r.1),back fr r.2 q.2)):=λ_ _ _ _ _ _=>rfl
theorem Zzo{w:W}{p:P}:∀k es,ev w (.itr k es) p=((Jl w false es p).bind λq=>(looks q.2 q.1).bind λts=>(itT k ts).map λxs=>(.f (.lst xs),q.2)):=λ_ _=>rfl
theorem Zzu{w:W}{p:P}:∀a,ev w (.tmp a) p=((toF (ev w a (frz p))).bind λq=>if scal q.1=true then some (.f q.1,p) else none):=λ_=>rfl
noncomputable def Bw(body:T->P->Option (Fl×P)):ZZ->P->Option (Fl×P)
 | [],p=>some (.nx,p)
 | x::r,p=>(body x p).bind λq=>match q.1 with
  | .nx=>Bw body r q.2
  | .ct=>Bw body r q.2
  | .bk=>some (.nx,q.2)
  | .rt t=>some (.rt t,q.2)
noncomputable def Bj(test:P->Option (Bool×P))(body:P->Option (Fl×P)):Nat->P->Option (Fl×P)
 | 0,_=>none
 | n+1,p=>(test p).bind λb=>if b.1=true then (body b.2).bind λq=>match q.1 with
   | .nx=>Bj test body n q.2
   | .ct=>Bj test body n q.2
   | .bk=>some (.nx,q.2)
   | .rt t=>some (.rt t,q.2)
  else some (.nx,b.2)
noncomputable def U7(pt:Nat->Bool):E->Bool
 | .v i=>!pt i
 | .tup es=>U7 pt es
 | .nil=>true
 | .cons a r=>U7 pt a&&U7 pt r
 | _=>false
noncomputable def putAt:T->T->T->Option T
 | .lst ts,.int i,t=>(Sr ts.length i).map λj=>.lst (ts.set j t)
 | .dct XD,k,t=>(keyT k).bind λk=>if XD.length<sizeLine then some (.dct (Yw XD k t)) else none
 | _,_,_=>none
section
variable(w:W)(pt:Nat->Bool)
noncomputable def ex:S->P->Option (Fl×P)
 | .nil,p=>some (.nx,p)
 | .seq a r,p=>(ex a p).bind λq=>match q.1 with
  | .nx=>ex r q.2
  | .rt t=>some (.rt t,q.2)
  | .bk=>some (.bk,q.2)
  | .ct=>some (.ct,q.2)
 | .ret a,p=>(ev w a p).map λq=>(.rt q.1,q.2)
 | .ex a,p=>(ev w a p).map λq=>(.nx,q.2)
 | .set i a,p=>if pt i=true then none else (ev w a p).map λq=>(.nx,q.2.set i q.1)
 | .unp tg a,p=>if U7 pt tg=true then (toT (ev w a p)).bind λq=>(asg tg q.1 q.2).map λp'=>(.nx,p') else none
 | .put i k a,p=>(toT (ev w a p)).bind λq=>if done q.2 i=true then (toT (ev w k q.2)).bind λr=>match r.2[i]? with
   | some (.o t)=>(putAt t r.1 q.1).map λt'=>(.nx,r.2.set i (.o t'))
   | _=>none
  else none
 | .ite c a b,p=>(Ji (ev w c p)).bind λq=>if q.1=true then ex a q.2 else ex b q.2
 | .loop tg it b,p=>if U7 pt tg=true then (n9 (ev w it p)).bind λq=>Bw (λx s=>(asg tg x s).bind λs1=>ex b s1) q.1 q.2 else none
 | .wh c b,p=>Bj (λs=>Ji (ev w c s)) (λs=>ex b s) 1000000 p
 | .pass,p=>some (.nx,p)
 | .brk,p=>some (.bk,p)
 | .cont,p=>some (.ct,p)
end
theorem Zzl{w:W}{pt:Nat->Bool}{p:P}:∀a r,ex w pt (.seq a r) p=((ex w pt a p).bind λq=>match q.1 with
  | .nx=>ex w pt r q.2
  | .rt t=>some (.rt t,q.2)
  | .bk=>some (.bk,q.2)
  | .ct=>some (.ct,q.2)):=λ_ _=>rfl
theorem Zzr{w:W}{pt:Nat->Bool}{p:P}:∀a,ex w pt (.ret a) p=((ev w a p).map λq=>(.rt q.1,q.2)):=λ_=>rfl
theorem ex_exQ{w:W}{pt:Nat->Bool}{p:P}:∀a,ex w pt (.ex a) p=((ev w a p).map λq=>(.nx,q.2)):=λ_=>rfl
theorem Zzn{w:W}{pt:Nat->Bool}{p:P}:∀i a,ex w pt (.set i a) p=(if pt i=true then none else (ev w a p).map λq=>(.nx,q.2.set i q.1)):=λ_ _=>rfl
theorem Zzs{w:W}{pt:Nat->Bool}{p:P}:∀i k a,ex w pt (.put i k a) p=((toT (ev w a p)).bind λq=>if done q.2 i=true then (toT (ev w k q.2)).bind λr=>match r.2[i]? with
   | some (.o t)=>(putAt t r.1 q.1).map λt'=>(.nx,r.2.set i (.o t'))
   | _=>none
  else none):=λ_ _ _=>rfl
theorem Zzh{w:W}{pt:Nat->Bool}{p:P}:∀c a b,ex w pt (.ite c a b) p=((Ji (ev w c p)).bind λq=>if q.1=true then ex w pt a q.2 else ex w pt b q.2):=λ_ _ _=>rfl
theorem de{w:W}{pt:Nat->Bool}{p:P}:∀tg it b,ex w pt (.loop tg it b) p=(if U7 pt tg=true then (n9 (ev w it p)).bind λq=>Bw (λx s=>(asg tg x s).bind λs1=>ex w pt b s1) q.1 q.2 else none):=λ_ _ _=>rfl
theorem ex_whQ{w:W}{pt:Nat->Bool}{p:P}:∀c b,ex w pt (.wh c b) p=(Bj (λs=>Ji (ev w c s)) (λs=>ex w pt b s) 1000000 p):=λ_ _=>rfl
def on{Z:Type}(o:Option Z)(Q:Z->Prop):Prop:=match o with
 | some a=>Q a
 | none=>False
theorem Z4{Z:Type}{o:Option Z}{a:Z}{Q:Z->Prop}(e:o=some a)(h:Q a):on o Q:=by rw[e];exact h
theorem Yg{Z:Type}{o:Option Z}{Q:Z->Prop}(h:on o Q):∃a,o=some a/\Q a:=by
 cases o with
 | none=>exact h.elim
 | some a=>exact⟨a,rfl,h⟩
noncomputable def zv(r:Sl)(Q:Bool->Prop):Prop:=match r with
 | .f (.bl b)=>Q b
 | _=>False
def Qz(r:Sl)(Q:T->Prop):Prop:=match r with
 | .f t=>Q t
 | .o t=>Q t
 | .no=>False
def onF(r:Sl)(Q:T->Prop):Prop:=match r with
 | .f t=>Q t
 | _=>False
theorem onF_ex{r:Sl}{p:P}{Q:T->Prop}{o:Option (Sl×P)}(e:o=some (r,p))(h:onF r Q):∃t,toF o=some (t,p)/\Q t:=by
 subst e;cases r with
 | f t=>exact⟨t,rfl,h⟩
 | _=>exact h.elim
theorem Dp{r:Sl}{p:P}{Q:Bool->Prop}{o:Option (Sl×P)}(e:o=some (r,p))(h:zv r Q):∃b,Ji o=some (b,p)/\Q b:=by
 subst e;unfold zv at h
 split at h
 .exact⟨_,rfl,h⟩
 .exact h.elim
theorem Dh{r:Sl}{p:P}{Q:T->Prop}{o:Option (Sl×P)}(e:o=some (r,p))(h:Qz r Q):∃t,toT o=some (t,p)/\Q t:=by
 subst e;cases r with
 | no=>exact h.elim
 | f t=>exact⟨t,rfl,h⟩
 | o t=>exact⟨t,rfl,h⟩
theorem fk{r:Sl}{p:P}{Q:ZZ->Prop}{o:Option (Sl×P)}(e:o=some (r,p))(h:Qz r λt=>on (N9 t) Q):∃ts,n9 o=some (ts,p)/\Q ts:=by
 obtain⟨t,e1,h1⟩:=Dh e h;obtain⟨ts,e2,h2⟩:=Yg h1;exact⟨ts,by unfold n9;rw[e1];show (N9 t).map _=_;rw[e2];rfl,h2⟩
def Uu(body:T->P->(Option T->P->Prop)->Prop):ZZ->ZZ->P->(ZZ->P->Prop)->Prop
 | [],acc,p,Q=>Q acc p
 | x::r,acc,p,Q=>body x p λo p'=>match o with
  | some y=>Uu body r (acc++[y]) p' Q
  | none=>Uu body r acc p' Q
section
variable(w:W)
mutual
noncomputable def wE:E->P->(Sl->P->Prop)->Prop
 | .v i,p,Q=>on (read p i) λq=>Q (.f q.1) q.2
 | .mv i,p,Q=>match p[i]? with
  | some (.o t)=>Q (.o t) (p.set i .no)
  | some (.f t)=>Q (.f t) p
  | _=>False
 | .k t,p,Q=>Q (.f t) p
 | .g x,p,Q=>on (w.gl x) λt=>Q (.f t) p
 | .tup es,p,Q=>wR false es p λas p1=>on (looks p1 as) λts=>if ts.length<=sizeLine then Q (.f (.tup ts)) p1 else False
 | .lst es,p,Q=>wR false es p λas p1=>on (looks p1 as) λts=>if ts.length<=sizeLine then Q (.o (.lst ts)) p1 else False
 | .pr r es,p,Q=>wR true es p λas p1=>on (looks p1 as) λts=>on (Ld r ts) λs=>Q s p1
 | .and a b,p,Q=>wE a p λr p1=>zv r λc=>if c=true then wE b p1 Q else Q (.f (.bl false)) p1
 | .or a b,p,Q=>wE a p λr p1=>zv r λc=>if c=true then Q (.f (.bl true)) p1 else wE b p1 Q
 | .not a,p,Q=>wE a p λr p1=>zv r λc=>Q (.f (.bl (!c))) p1
 | .ite c a b,p,Q=>wE c p λr p1=>zv r λc=>if c=true then wE a p1 Q else wE b p1 Q
 | .call f es,p,Q=>wR false es p λas p1=>on (args p1 as) λsl=>on (w.C f sl) λr=>on (outs p1 as r.2) λp2=>Q r.1 p2
 | .cal i es,p,Q=>match p[i]? with
  | some (.f (.fn f))=>wR false es p λas p1=>on (args p1 as) λsl=>on (w.C f sl) λr=>on (outs p1 as r.2) λp2=>Q r.1 p2
  | _=>False
 | .mt m i es,p,Q=>if zj p i=true then wR false es p λas p1=>on (looks p1 as) λts=>match p1[i]? with
   | some (.o t)=>on (ib m t ts) λr=>Q (.f r.2) (p1.set i (.o r.1))
   | _=>False
  else False
 | .comp tg it c el fr _,p,Q=>wE it p λr p1=>Qz r λt=>on (N9 t) λxs=>Uu (λx s K=>on (asg tg x s) λs1=>if isNil c=true then wE el s1 λr s2=>Qz r λy=>K (some y) s2
   else wE c s1 λr s2=>zv r λb=>if b=true then wE el s2 λr s3=>Qz r λy=>K (some y) s3 else K none s2) xs [] (qb fr p1) λys s=>Q (.o (.lst ys)) (back fr s p1)
 | .itr k es,p,Q=>wR false es p λas p1=>on (looks p1 as) λts=>on (itT k ts) λxs=>Q (.f (.lst xs)) p1
 | .tmp a,p,Q=>wE a (frz p) λr _=>onF r λt=>if scal t=true then Q (.f t) p else False
 | _,_,_=>False
noncomputable def wR:Bool->E->P->(List A->P->Prop)->Prop
 | _,.nil,p,Q=>Q [] p
 | m,.cons a r,p,Q=>match a with
  | .io i=>if done p i=true then wR m r p λas p1=>Q (.s i::as) p1 else False
  | .v i=>if m=true then (if done p i=true then wR m r p λas p1=>Q (.s i::as) p1 else False) else on (read p i) λq=>wR m r q.2 λas p1=>Q (.t q.1::as) p1
  | _=>wE a p λs p1=>Qz s λt=>wR m r p1 λas p2=>Q (.t t::as) p2
 | _,_,_,_=>False
end
theorem wE_mvQ{w:W}{p:P}{Q:Sl->P->Prop}:∀i,wE w (.mv i) p Q=(match p[i]? with
  | some (.o t)=>Q (.o t) (p.set i .no)
  | some (.f t)=>Q (.f t) p
  | _=>False):=λ_=>rfl
theorem rl{w:W}{p:P}{Q:Sl->P->Prop}:∀i es,wE w (.cal i es) p Q=(match p[i]? with
  | some (.f (.fn f))=>wR w false es p λas p1=>on (args p1 as) λsl=>on (w.C f sl) λr=>on (outs p1 as r.2) λp2=>Q r.1 p2
  | _=>False):=λ_ _=>rfl
theorem wE_mtQ{w:W}{p:P}{Q:Sl->P->Prop}:∀m i es,wE w (.mt m i es) p Q=(if zj p i=true then wR w false es p λas p1=>on (looks p1 as) λts=>match p1[i]? with
   | some (.o t)=>on (ib m t ts) λr=>Q (.f r.2) (p1.set i (.o r.1))
   | _=>False
  else False):=λ_ _ _=>rfl
theorem jd{w:W}{p:P}{Q:Sl->P->Prop}:∀tg it c el fr zz,wE w (.comp tg it c el fr zz) p Q=(wE w it p λr p1=>Qz r λt=>on (N9 t) λxs=>Uu (λx s K=>on (asg tg x s) λs1=>if isNil c=true then wE w el s1 λr s2=>Qz r λy=>K (some y) s2
   else wE w c s1 λr s2=>zv r λb=>if b=true then wE w el s2 λr s3=>Qz r λy=>K (some y) s3 else K none s2) xs [] (qb fr p1) λys s=>Q (.o (.lst ys)) (back fr s p1)):=λ_ _ _ _ _ _=>rfl
theorem jf{w:W}{p:P}{Q:List A->P->Prop}:∀m a r,wR w m (.cons a r) p Q=(match a with
  | .io i=>if done p i=true then wR w m r p λas p1=>Q (.s i::as) p1 else False
  | .v i=>if m=true then (if done p i=true then wR w m r p λas p1=>Q (.s i::as) p1 else False) else on (read p i) λq=>wR w m r q.2 λas p1=>Q (.t q.1::as) p1
  | _=>wE w a p λs p1=>Qz s λt=>wR w m r p1 λas p2=>Q (.t t::as) p2):=λ_ _ _=>rfl
structure En where
 nx:P->Prop
 rt:Sl->P->Prop
 bk:P->Prop:=λ_=>False
 ct:P->Prop:=λ_=>False
def Rg(body:T->P->En->Prop):ZZ->P->En->Prop
 | [],p,D=>D.nx p
 | x::r,p,D=>body x p ⟨λq=>Rg body r q D,D.rt,D.nx,λq=>Rg body r q D⟩
def wWh(test:P->(Bool->P->Prop)->Prop)(body:P->En->Prop):Nat->P->En->Prop
 | 0,_,_=>False
 | n+1,p,D=>test p λb p1=>if b=true then body p1 ⟨λq=>wWh test body n q D,D.rt,D.nx,λq=>wWh test body n q D⟩ else D.nx p1
variable(pt:Nat->Bool)
def wS:S->P->En->Prop
 | .nil,p,D=>D.nx p
 | .seq a r,p,D=>wS a p ⟨λq=>wS r q D,D.rt,D.bk,D.ct⟩
 | .ret a,p,D=>wE w a p D.rt
 | .ex a,p,D=>wE w a p λ_ q=>D.nx q
 | .set i a,p,D=>if pt i=true then False else wE w a p λr q=>D.nx (q.set i r)
 | .unp tg a,p,D=>if U7 pt tg=true then wE w a p λr q=>Qz r λt=>on (asg tg t q) D.nx else False
 | .put i k a,p,D=>wE w a p λr p1=>Qz r λt=>if done p1 i=true then wE w k p1 λr p2=>Qz r λk=>match p2[i]? with
   | some (.o x)=>on (putAt x k t) λx'=>D.nx (p2.set i (.o x'))
   | _=>False
  else False
 | .ite c a b,p,D=>wE w c p λr q=>zv r λb'=>if b'=true then wS a q D else wS b q D
 | .loop tg it b,p,D=>if U7 pt tg=true then wE w it p λr q=>Qz r λt=>on (N9 t) λxs=>Rg (λx s D=>on (asg tg x s) λs1=>wS b s1 D) xs q D else False
 | .wh c b,p,D=>wWh (λs K=>wE w c s λr q=>zv r λb=>K b q) (λs D=>wS b s D) 1000000 p D
 | .pass,p,D=>D.nx p
 | .brk,p,D=>D.bk p
 | .cont,p,D=>D.ct p
end
theorem Tj{body:T->P->(Option T->P->Prop)->Prop}{b':T->P->Option (Option T×P)}(hb:∀x p K,body x p K->∃o p',b' x p=some (o,p')/\K o p'):∀(xs acc:ZZ) (p:P) (Q:ZZ->P->Prop),Uu body xs acc p Q->∃ys p',Dm b' xs acc p=some (ys,p')/\Q ys p'
 | [],acc,p,Q,h=>⟨acc,p,rfl,h⟩
 | x::r,acc,p,Q,h=>by
  obtain⟨o,p',e,h'⟩:=hb x p _ h;unfold Dm;rw[e];cases o with
  | some y=>exact Tj hb r _ p' Q h'
  | none=>exact Tj hb r _ p' Q h'
section
variable(w:W)
theorem wER_ev(e:E):(∀(p:P) (Q:Sl->P->Prop),wE w e p Q->∃r p',ev w e p=some (r,p')/\Q r p')/\∀(m:Bool) (p:P) (Q:List A->P->Prop),wR w m e p Q->∃as p',Jl w m e p=some (as,p')/\Q as p':=by
 induction e with
 | v i  =>
  refine⟨λp Q h=>?_,λ_ _ _ h=>False.elim h⟩;obtain⟨q,e,h⟩:=Yg h;exact⟨_,_,by show (read p i).map _=_;rw[e];rfl,h⟩
 | mv i  =>
  refine⟨λp Q h=>?_,λ_ _ _ h=>False.elim h⟩
  replace h:=Eq.mp (wE_mvQ _) h
  split at h
  .rename_i t e
   exact⟨_,_,by show (match p[i]? with | some (.o t)=>some (Sl.o t,p.set i .no) | some (.f t)=>some (Sl.f t,p) | _=>none)=_;rw[e],h⟩
  .rename_i t e
   exact⟨_,_,by show (match p[i]? with | some (.o t)=>some (Sl.o t,p.set i .no) | some (.f t)=>some (Sl.f t,p) | _=>none)=_;rw[e],h⟩
  .exact h.elim
 | io i  =>
  refine⟨λ_ _ h=>False.elim h,λ_ _ _ h=>False.elim h⟩
 | k t  =>
  refine⟨λp Q h=>⟨_,_,rfl,h⟩,λ_ _ _ h=>False.elim h⟩
 | g x  =>
  refine⟨λp Q h=>?_,λ_ _ _ h=>False.elim h⟩;obtain⟨q,e,h⟩:=Yg h;exact⟨_,_,by show (w.gl x).map _=_;rw[e];rfl,h⟩
 | tup es xv =>
  refine⟨λp Q h=>?_,λ_ _ _ h=>False.elim h⟩;obtain⟨as,p1,e1,h⟩:=xv.2 false p _ h;obtain⟨ts,e2,h⟩:=Yg h
  split at h
  .rename_i hl
   exact⟨_,_,by show (Jl w false es p).bind _=_;rw[e1];show (looks p1 as).bind _=_;rw[e2];exact if_pos hl,h⟩
  .exact h.elim
 | lst es xv =>
  refine⟨λp Q h=>?_,λ_ _ _ h=>False.elim h⟩;obtain⟨as,p1,e1,h⟩:=xv.2 false p _ h;obtain⟨ts,e2,h⟩:=Yg h
  split at h
  .rename_i hl
   exact⟨_,_,by show (Jl w false es p).bind _=_;rw[e1];show (looks p1 as).bind _=_;rw[e2];exact if_pos hl,h⟩
  .exact h.elim
 | pr r es xv =>
  refine⟨λp Q h=>?_,λ_ _ _ h=>False.elim h⟩;obtain⟨as,p1,e1,h⟩:=xv.2 true p _ h;obtain⟨ts,e2,h⟩:=Yg h;obtain⟨s,e3,h⟩:=Yg h;exact⟨_,_,by show (Jl w true es p).bind _=_;rw[e1];show (looks p1 as).bind _=_;rw[e2];show (Ld r ts).map _=_;rw[e3];rfl,h⟩
 | and a b ha hb =>
  refine⟨λp Q h=>?_,λ_ _ _ h=>False.elim h⟩;obtain⟨r,p1,e1,h⟩:=ha.1 p _ h;obtain⟨c,e2,h⟩:=Dp e1 h;cases c with
  | true =>
   obtain⟨r,p2,e3,h⟩:=hb.1 p1 Q h;exact⟨_,_,by show (Ji (ev w a p)).bind _=_;rw[e2];exact e3,h⟩
  | false=>exact⟨_,_,by show (Ji (ev w a p)).bind _=_;rw[e2];rfl,h⟩
 | or a b ha hb =>
  refine⟨λp Q h=>?_,λ_ _ _ h=>False.elim h⟩;obtain⟨r,p1,e1,h⟩:=ha.1 p _ h;obtain⟨c,e2,h⟩:=Dp e1 h;cases c with
  | false =>
   obtain⟨r,p2,e3,h⟩:=hb.1 p1 Q h;exact⟨_,_,by show (Ji (ev w a p)).bind _=_;rw[e2];exact e3,h⟩
  | true=>exact⟨_,_,by show (Ji (ev w a p)).bind _=_;rw[e2];rfl,h⟩
 | not a ha =>
  refine⟨λp Q h=>?_,λ_ _ _ h=>False.elim h⟩;obtain⟨r,p1,e1,h⟩:=ha.1 p _ h;obtain⟨c,e2,h⟩:=Dp e1 h;exact⟨_,_,by show (Ji (ev w a p)).map _=_;rw[e2];rfl,h⟩
 | ite c a b hc ha hb =>
  refine⟨λp Q h=>?_,λ_ _ _ h=>False.elim h⟩;obtain⟨r,p1,e1,h⟩:=hc.1 p _ h;obtain⟨c',e2,h⟩:=Dp e1 h;cases c' with
  | true =>
   obtain⟨r,p2,e3,h⟩:=ha.1 p1 Q h;exact⟨_,_,by show (Ji (ev w c p)).bind _=_;rw[e2];exact e3,h⟩
  | false =>
   obtain⟨r,p2,e3,h⟩:=hb.1 p1 Q h;exact⟨_,_,by show (Ji (ev w c p)).bind _=_;rw[e2];exact e3,h⟩
 | call f es xv =>
  refine⟨λp Q h=>?_,λ_ _ _ h=>False.elim h⟩;obtain⟨as,p1,e1,h⟩:=xv.2 false p _ h;obtain⟨sl,e2,h⟩:=Yg h;obtain⟨r,e3,h⟩:=Yg h;obtain⟨p2,e4,h⟩:=Yg h;exact⟨_,_,by show (Jl w false es p).bind _=_;rw[e1];show (args p1 as).bind _=_;rw[e2];show (w.C f sl).bind _=_;rw[e3];show (outs p1 as r.2).map _=_;rw[e4];rfl,h⟩
 | cal i es xv =>
  refine⟨λp Q h=>?_,λ_ _ _ h=>False.elim h⟩
  replace h:=Eq.mp (rl _ _) h
  split at h
  .rename_i f ef
   obtain⟨as,p1,e1,h⟩:=xv.2 false p _ h;obtain⟨sl,e2,h⟩:=Yg h;obtain⟨r,e3,h⟩:=Yg h;obtain⟨p2,e4,h⟩:=Yg h;exact⟨_,_,by show (match p[i]? with | some (.f (.fn f))=>(Jl w false es p).bind λq=>(args q.2 q.1).bind λas=>(w.C f as).bind λr=>(outs q.2 q.1 r.2).map λp'=>(r.1,p') | _=>none)=_;rw[ef];show (Jl w false es p).bind _=_;rw[e1];show (args p1 as).bind _=_;rw[e2];show (w.C f sl).bind _=_;rw[e3];show (outs p1 as r.2).map _=_;rw[e4];rfl,h⟩
  .exact h.elim
 | mt m i es xv =>
  refine⟨λp Q h=>?_,λ_ _ _ h=>False.elim h⟩
  replace h:=Eq.mp (wE_mtQ _ _ _) h
  split at h
  .rename_i hd
   obtain⟨as,p1,e1,h⟩:=xv.2 false p _ h;obtain⟨ts,e2,h⟩:=Yg h
   split at h
   .rename_i t et
    obtain⟨r,e3,h⟩:=Yg h;exact⟨_,_,by show (if zj p i=true then _ else _)=_;rw[if_pos hd,e1];show (looks p1 as).bind _=_;rw[e2];show (match p1[i]? with | some (.o t)=>_ | _=>_)=_;rw[et];show (ib m t ts).map _=_;rw[e3];rfl,h⟩
   .exact h.elim
  .exact h.elim
 | comp tg it c el fr z5 htg hit hc hel =>
  refine⟨λp Q h=>?_,λ_ _ _ h=>False.elim h⟩
  replace h:=Eq.mp (jd _ _ _ _ _ _) h
  obtain⟨r,p1,e1,h⟩:=hit.1 p _ h;obtain⟨xs,e2,h⟩:=fk e1 h
  obtain⟨ys,s,e3,h⟩:=Tj (b':=λx s=>(asg tg x s).bind λs1=>(if isNil c=true then some (true,s1) else Ji (ev w c s1)).bind λb=>if b.1=true then (toT (ev w el b.2)).map λr=>(some r.1,r.2) else some (none,b.2)) (λx s K hk=>by
    obtain⟨s1,e3,hk⟩:=Yg hk;rw[e3];show ∃o p',(if isNil c=true then some (true,s1) else Ji (ev w c s1)).bind _=_/\_;cases hz:isNil c with
    | true =>
     rw[hz]at hk;obtain⟨r,s2,e4,hk⟩:=hel.1 s1 _ hk;obtain⟨t,e5,hk⟩:=Dh e4 hk;exact⟨_,_,by show (toT (ev w el s1)).map _=_;rw[e5];rfl,hk⟩
    | false =>
     rw[hz]at hk;obtain⟨r,s2,e4,hk⟩:=hc.1 s1 _ hk;obtain⟨b,e5,hk⟩:=Dp e4 hk;show ∃o p',(Ji (ev w c s1)).bind _=_/\_;rw[e5];cases b with
     | true =>
      obtain⟨r,s3,e7,hk⟩:=hel.1 s2 _ hk;obtain⟨t,e8,hk⟩:=Dh e7 hk;exact⟨_,_,by show (toT (ev w el s2)).map _=_;rw[e8];rfl,hk⟩
     | false=>exact⟨_,_,rfl,hk⟩) xs [] _ _ h
  exact⟨_,_,by show (n9 (ev w it p)).bind _=_;rw[e2];show Option.map _ (Dm _ xs [] (qb fr p1))=_;rw[e3];rfl,h⟩
 | itr k es xv =>
  refine⟨λp Q h=>?_,λ_ _ _ h=>False.elim h⟩;obtain⟨as,p1,e1,h⟩:=xv.2 false p _ h;obtain⟨ts,e2,h⟩:=Yg h;obtain⟨s,e3,h⟩:=Yg h;exact⟨_,_,by show (Jl w false es p).bind _=_;rw[e1];show (looks p1 as).bind _=_;rw[e2];show (itT k ts).map _=_;rw[e3];rfl,h⟩
 | tmp a ha =>
  refine⟨λp Q h=>?_,λ_ _ _ h=>False.elim h⟩;obtain⟨r,p1,e1,h⟩:=ha.1 (frz p) _ h;obtain⟨t,e2,h⟩:=onF_ex e1 h
  split at h
  .rename_i hs
   exact⟨_,_,by show (toF (ev w a (frz p))).bind _=_;rw[e2];exact if_pos hs,h⟩
  .exact h.elim
 | nil   =>
  refine⟨λ_ _ h=>False.elim h,λm p Q h=>⟨[],p,by cases m<;>rfl,by cases m<;>exact h⟩⟩
 | cons a r ha hr =>
  refine⟨λ_ _ h=>False.elim h,λm p Q h=>?_⟩
  have fin:∀(q:A×P) {p1:P} {as:List A},P1 m a p (toT (ev w a p))=some q->Jl w m r q.2=some (as,p1)->Jl w m (.cons a r) p=some (q.1::as,p1):=λq p1 as e1 e2=>by
   show (P1 m a p (toT (ev w a p))).bind _=_;rw[e1];show (Jl w m r q.2).map _=_;rw[e2]
   rfl
  replace h:=Eq.mp (jf _ _ _) h
  split at h
  .rename_i i
   split at h
   .rename_i hd
    obtain⟨as,p1,e,h⟩:=hr.2 m p _ h;exact⟨_,_,fin (.s i,p) (by simp[P1,hd]) e,h⟩
   .exact h.elim
  .rename_i i
   split at h
   .rename_i hm
    split at h
    .rename_i hd
     obtain⟨as,p1,e,h⟩:=hr.2 m p _ h;exact⟨_,_,fin (.s i,p) (by simp[P1,hm,hd]) e,h⟩
    .exact h.elim
   .rename_i hm
    obtain⟨q,e1,h⟩:=Yg h;obtain⟨as,p1,e,h⟩:=hr.2 m q.2 _ h;exact⟨_,_,fin (.t q.1,q.2) (by simp[P1,hm,e1]) e,h⟩
  .rename_i n1 n2
   obtain⟨s,p1,e1,h⟩:=ha.1 p _ h;obtain⟨t,e2,h⟩:=Dh e1 h;obtain⟨as,p2,e,h⟩:=hr.2 m p1 _ h;refine⟨_,_,fin (.t t,p1) ?_ e,h⟩;unfold P1
   split
   .exact absurd rfl (n1 _)
   .exact absurd rfl (n2 _)
   .rw[e2];rfl
theorem D9(e:E)(p:P)(Q:Sl->P->Prop):wE w e p Q->∃r p',ev w e p=some (r,p')/\Q r p':=(wER_ev w e).1 p Q
end
def En.fl(D:En)(f:Fl)(p:P):Prop:=match f with
 | .nx=>D.nx p
 | .rt r=>D.rt r p
 | .bk=>D.bk p
 | .ct=>D.ct p
theorem W1{body:T->P->En->Prop}{b':T->P->Option (Fl×P)}(hb:∀x p D,body x p D->∃f p',b' x p=some (f,p')/\D.fl f p'):∀(xs:ZZ) (p:P) (D:En),Rg body xs p D->∃f p',Bw b' xs p=some (f,p')/\D.fl f p'
 | [],p,D,h=>⟨.nx,p,rfl,h⟩
 | x::r,p,D,h=>by
  obtain⟨f,p',e,h'⟩:=hb x p _ h;unfold Bw;rw[e];cases f with
  | nx=>exact W1 hb r p' D h'
  | ct=>exact W1 hb r p' D h'
  | bk=>exact⟨.nx,p',rfl,h'⟩
  | rt t=>exact⟨.rt t,p',rfl,h'⟩
theorem S0{test:P->(Bool->P->Prop)->Prop}{t':P->Option (Bool×P)}{body:P->En->Prop}{b':P->Option (Fl×P)}(ht:∀p K,test p K->∃b p',t' p=some (b,p')/\K b p')(hb:∀p D,body p D->∃f p',b' p=some (f,p')/\D.fl f p') :
  ∀(n:Nat) (p:P) (D:En),wWh test body n p D->∃f p',Bj t' b' n p=some (f,p')/\D.fl f p'
 | 0,p,D,h=>h.elim
 | n+1,p,D,h=>by
  obtain⟨b,p1,e,h⟩:=ht p _ h;unfold Bj;rw[e];cases b with
  | false=>exact⟨.nx,p1,rfl,h⟩
  | true =>
   obtain⟨f,p2,e2,h⟩:=hb p1 _ h;show ∃f p',(b' p1).bind _=_/\_;rw[e2];cases f with
   | nx=>exact S0 ht hb n p2 D h
   | ct=>exact S0 ht hb n p2 D h
   | bk=>exact⟨.nx,p2,rfl,h⟩
   | rt t=>exact⟨.rt t,p2,rfl,h⟩
theorem wS_ex(w:W)(pt:Nat->Bool)(s:S):∀(p:P) (D:En),wS w pt s p D->∃f p',ex w pt s p=some (f,p')/\D.fl f p':=by
 induction s with
 | nil=>exactλp D h=>⟨.nx,p,rfl,h⟩
 | seq a r ha hr =>
  intro p D h;obtain⟨f,p1,e,h⟩:=ha p _ h;show ∃f p',(ex w pt a p).bind _=_/\_;rw[e];cases f with
  | nx=>exact hr p1 D h
  | rt t=>exact⟨_,_,rfl,h⟩
  | bk=>exact⟨_,_,rfl,h⟩
  | ct=>exact⟨_,_,rfl,h⟩
 | ret a =>
  intro p D h;obtain⟨r,p1,e,h⟩:=D9 w a p _ h;exact⟨.rt r,p1,by show (ev w a p).map _=_;rw[e];rfl,h⟩
 | ex a =>
  intro p D h;obtain⟨r,p1,e,h⟩:=D9 w a p _ h;exact⟨.nx,p1,by show (ev w a p).map _=_;rw[e];rfl,h⟩
 | set i a =>
  intro p D h;by_cases hp:pt i=true
  .have h:(if pt i=true then False else _):=h;rw[if_pos hp]at h;exact h.elim
  .obtain⟨r,p1,e,h⟩:=D9 w a p _ (if_neg hp ▸ (show (if pt i=true then False else _) from h));exact⟨.nx,_,by show (if pt i=true then none else _)=_;rw[if_neg hp,e];rfl,h⟩
 | unp tg a =>
  intro p D h;by_cases hp:U7 pt tg=true
  .obtain⟨r,p1,e,h⟩:=D9 w a p _ (if_pos hp ▸ (show (if U7 pt tg=true then _ else False) from h));obtain⟨t,e2,h⟩:=Dh e h;obtain⟨p2,e3,h⟩:=Yg h;exact⟨.nx,_,by show (if U7 pt tg=true then _ else none)=_;rw[if_pos hp,e2];show (asg tg t p1).map _=_;rw[e3];rfl,h⟩
  .have h:(if U7 pt tg=true then _ else False):=h;rw[if_neg hp]at h;exact h.elim
 | put i k a =>
  intro p D h;obtain⟨r,p1,e,h⟩:=D9 w a p _ h;obtain⟨t,e2,h⟩:=Dh e h
  split at h
  .rename_i hd
   obtain⟨r,p2,e3,h⟩:=D9 w k p1 _ h;obtain⟨kt,e4,h⟩:=Dh e3 h
   split at h
   .rename_i x exq
    obtain⟨x',e5,h⟩:=Yg h;exact⟨.nx,_,by show (toT (ev w a p)).bind _=_;rw[e2];show (if done p1 i=true then (toT (ev w k p1)).bind _ else _)=_;rw[if_pos hd,e4];show (match p2[i]? with | some (.o t)=>_ | _=>_)=_;rw[exq];show (putAt x kt t).map _=_;rw[e5];rfl,h⟩
   .exact h.elim
  .exact h.elim
 | ite c a b ha hb =>
  intro p D h;obtain⟨r,p1,e,h⟩:=D9 w c p _ h;obtain⟨b',e2,h⟩:=Dp e h;show ∃f p',(Ji (ev w c p)).bind _=_/\_;rw[e2];cases b' with
  | true=>exact ha p1 D h
  | false=>exact hb p1 D h
 | loop tg it b hb =>
  intro p D h;by_cases hp:U7 pt tg=true
  .obtain⟨r,p1,e,h⟩:=D9 w it p _ (if_pos hp ▸ (show (if U7 pt tg=true then _ else False) from h));obtain⟨xs,e2,h⟩:=fk e h;show ∃f p',(if U7 pt tg=true then _ else none)=_/\_;rw[if_pos hp,e2]
   exact W1 (λx p D h=>by
    obtain⟨s1,e3,h⟩:=Yg h;rw[e3];exact hb s1 D h) xs p1 D h
  .have h:(if U7 pt tg=true then _ else False):=h;rw[if_neg hp]at h;exact h.elim
 | wh c b hb =>
  intro p D h
  exact S0 (λp K h=>by
   obtain⟨r,p1,e,h⟩:=D9 w c p _ h;obtain⟨b',e2,h⟩:=Dp e h;exact⟨b',p1,e2,h⟩) (λp D h=>hb p D h) _ p D h
 | pass=>exactλp D h=>⟨.nx,p,rfl,h⟩
 | brk=>exactλp D h=>⟨.bk,p,rfl,h⟩
 | cont=>exactλp D h=>⟨.ct,p,rfl,h⟩
mutual
def IsT(K:W.Frag)(mg:ZV)(H F:Hp):T->V->Prop
 | .non,v=>v=.non
 | .bl b,v=>v=.bl b
 | .int i,v=>v=.int i
 | .str x,v=>v=.str x
 | .tup ts,v=>∃a vs,v=.ref a/\Y1 K H a vs/\vs.length<=sizeLine/\Zq K mg H F ts vs
 | .lst ts,v=>∃a vs,v=.ref a/\Rd F a (.lst vs)/\vs.length<=sizeLine/\Zq K mg H F ts vs
 | .dct XD,v=>∃a ks,v=.ref a/\Rd F a (.dK ks)/\ks.length<=sizeLine/\Zc K mg H F XD ks
 | .fn x,v=>∃a,v=.ref a/\mg x=some (.ref a)
def Zq(K:W.Frag)(mg:ZV)(H F:Hp):ZZ->ZQ->Prop
 | [],vs=>vs=[]
 | t::ts,vs=>∃v r,vs=v::r/\IsT K mg H F t v/\Zq K mg H F ts r
def IsK(K:W.Frag)(mg:ZV)(H F:Hp):Key×T->Key×V->Prop
 | (k,t),q=>q.1=k/\IsT K mg H F t q.2
def Zc(K:W.Frag)(mg:ZV)(H F:Hp):ZX->List (Key×V)->Prop
 | [],ks=>ks=[]
 | p::ps,ks=>∃q r,ks=q::r/\IsK K mg H F p q/\Zc K mg H F ps r
end
def Le(F F':Hp):Prop:=∀a o,F a=some o->F' a=some o
theorem Le.refl(F:Hp):Le F F:=λ_ _ h=>h
theorem Le.trans{F F1 F2:Hp}(a:Le F F1)(b:Le F1 F2):Le F F2:=λc u h=>b c u (a c u h)
structure rj(F F':Hp):Prop where
 l:∀a vs,Rd F a (.lst vs)->Rd F' a (.lst vs)
 d:∀a ks,Rd F a (.dK ks)->Rd F' a (.dK ks)
theorem Le.r{F F':Hp}(l:Le F F'):rj F F':=⟨λa u h=>h.elim (λh=>.inl (l a _ h)) λ⟨o,h⟩=>.inr ⟨o,l a _ h⟩,λa u h=>h.elim (λh=>.inl (l a _ h)) λ⟨o,h⟩=>.inr ⟨o,l a _ h⟩⟩
section
variable{K:W.Frag}{mg:ZV}{H H' F F':Hp}
mutual
theorem IsT.upR(u:Up K H H')(l:rj F F'):∀(t:T) (v:V),IsT K mg H F t v->IsT K mg H' F' t v
 | .non,_,h=>h
 | .bl _,_,h=>h
 | .int _,_,h=>h
 | .str _,_,h=>h
 | .tup ts,v,h=>by
  obtain⟨a,vs,e,q,z,r⟩:=h;exact⟨a,vs,e,u a vs q,z,Zq.upR u l ts vs r⟩
 | .lst ts,v,h=>by
  obtain⟨a,vs,e,q,z,r⟩:=h;exact⟨a,vs,e,l.l a _ q,z,Zq.upR u l ts vs r⟩
 | .dct XD,v,h=>by
  obtain⟨a,ks,e,q,z,r⟩:=h;exact⟨a,ks,e,l.d a _ q,z,Zc.upR u l XD ks r⟩
 | .fn x,_,h=>h
theorem Zq.upR(u:Up K H H')(l:rj F F'):∀(ts:ZZ) (vs:ZQ),Zq K mg H F ts vs->Zq K mg H' F' ts vs
 | [],_,h=>h
 | t::ts,vs,h=>by
  obtain⟨v,r,e,q,w⟩:=h;exact⟨v,r,e,IsT.upR u l t v q,Zq.upR u l ts r w⟩
theorem IsK.upR(u:Up K H H')(l:rj F F'):∀(p:Key×T) (q:Key×V),IsK K mg H F p q->IsK K mg H' F' p q
 | (k,t),q,h=>⟨h.1,IsT.upR u l t q.2 h.2⟩
theorem Zc.upR(u:Up K H H')(l:rj F F'):∀(ps:ZX) (ks:List (Key×V)),Zc K mg H F ps ks->Zc K mg H' F' ps ks
 | [],_,h=>h
 | p::ps,ks,h=>by
  obtain⟨q,r,e,i,w⟩:=h;exact⟨q,r,e,IsK.upR u l p q i,Zc.upR u l ps r w⟩
end
theorem IsT.up(u:Up K H H')(l:Le F F')(t:T)(v:V)(h:IsT K mg H F t v):IsT K mg H' F' t v:=IsT.upR u l.r t v h
theorem Zq.up(u:Up K H H')(l:Le F F')(t:ZZ)(v:ZQ)(h:Zq K mg H F t v):Zq K mg H' F' t v:=Zq.upR u l.r t v h
theorem Zc.up(u:Up K H H')(l:Le F F')(t:ZX)(v:List (Key×V))(h:Zc K mg H F t v):Zc K mg H' F' t v:=Zc.upR u l.r t v h
theorem Zq.length:∀{ts:ZZ} {vs:ZQ},Zq K mg H F ts vs->ts.length=vs.length
 | [],vs,h=>by
  cases(show vs=[] from h);rfl
 | t::ts,vs,h=>by
  obtain⟨v,r,rfl,_,w⟩:=h;simp only[B9,Zq.length w]
theorem Zc.length:∀{ts:ZX} {vs:List (Key×V)},Zc K mg H F ts vs->ts.length=vs.length
 | [],vs,h=>by
  cases(show vs=[] from h);rfl
 | t::ts,vs,h=>by
  obtain⟨v,r,rfl,_,w⟩:=h;simp only[B9,Zc.length w]
theorem Zq.get:∀{ts:ZZ} {vs:ZQ} {i:Nat} {t:T},Zq K mg H F ts vs->ts[i]?=some t->∃v,vs[i]?=some v/\IsT K mg H F t v
 | [],vs,i,t,_,e=>by simp at e
 | t::ts,vs,0,t',h,e=>by
  obtain⟨v,r,rfl,q,_⟩:=h;simp at e;subst e;exact⟨v,rfl,q⟩
 | t::ts,vs,i+1,t',h,e=>by
  obtain⟨v,r,rfl,_,w⟩:=h;obtain⟨v',e1,q⟩:=Zq.get (i:=i) w (by simpa using e);exact⟨v',by simpa using e1,q⟩
theorem Zq.got{ts:ZZ}{vs:ZQ}{i:Nat}{v:V}(h:Zq K mg H F ts vs)(e:vs[i]?=some v):∃t,ts[i]?=some t/\IsT K mg H F t v:=by
 have hi:=(Rk.mp e).1;have hi':i<ts.length:=by rw[h.length];exact hi
 obtain⟨v',e1,q⟩:=h.get (D4 hi');rw[e]at e1;cases e1;exact⟨_,D4 hi',q⟩
theorem Zq.append:∀{ts us:ZZ} {vs ws:ZQ},Zq K mg H F ts vs->Zq K mg H F us ws->Zq K mg H F (ts++us) (vs++ws)
 | [],us,vs,ws,h,h'=>by
  cases(show vs=[] from h);exact h'
 | t::ts,us,vs,ws,h,h'=>by
  obtain⟨v,r,rfl,q,w⟩:=h;exact⟨v,r++ws,rfl,q,Zq.append w h'⟩
theorem Zq.one{t:T}{v:V}(h:IsT K mg H F t v):Zq K mg H F [t] [v]:=⟨v,[],rfl,h,rfl⟩
theorem Zq.drop:∀{ts:ZZ} {vs:ZQ} (n:Nat),Zq K mg H F ts vs->Zq K mg H F (ts.drop n) (vs.drop n)
 | ts,vs,0,h=>h
 | [],vs,n+1,h=>by
  cases(show vs=[] from h);rfl
 | t::ts,vs,n+1,h=>by
  obtain⟨v,r,rfl,_,w⟩:=h;exact Zq.drop n w
theorem Zq.take:∀{ts:ZZ} {vs:ZQ} (n:Nat),Zq K mg H F ts vs->Zq K mg H F (ts.take n) (vs.take n)
 | ts,vs,0,_=>rfl
 | [],vs,n+1,h=>by
  cases(show vs=[] from h);rfl
 | t::ts,vs,n+1,h=>by
  obtain⟨v,r,rfl,q,w⟩:=h;exact⟨v,r.take n,rfl,q,Zq.take n w⟩
theorem Zq.set:∀{ts:ZZ} {vs:ZQ} (n:Nat) {t:T} {v:V},Zq K mg H F ts vs->IsT K mg H F t v->Zq K mg H F (ts.set n t) (vs.set n v)
 | [],vs,n,t,v,h,_=>by
  cases(show vs=[] from h);rfl
 | t::ts,vs,0,t',v',h,i=>by
  obtain⟨v,r,rfl,q,w⟩:=h;exact⟨v',r,rfl,i,w⟩
 | t::ts,vs,n+1,t',v',h,i=>by
  obtain⟨v,r,rfl,q,w⟩:=h;exact⟨v,r.set n v',rfl,q,Zq.set n w i⟩
end
def Rz(K:W.Frag)(mg:ZV)(H F:Hp)(a:Addr):T->Prop
 | .lst ts=>∃vs,H a=some (.lst vs)/\vs.length<=sizeLine/\Zq K mg H F ts vs
 | .dct XD=>∃ks,H a=some (.dK ks)/\ks.length<=sizeLine/\Zc K mg H F XD ks
 | _=>False
theorem Rz.up{K:W.Frag}{mg:ZV}{H H' F F':Hp}{a:Addr}{t:T}(u:Up K H H')(l:Le F F')(e:H' a=H a)(h:Rz K mg H F a t):Rz K mg H' F' a t:=by
 cases t with
 | lst ts =>
  obtain⟨vs,q,z,r⟩:=h;exact⟨vs,e.trans q,z,Zq.up u l ts vs r⟩
 | dct ts =>
  obtain⟨vs,q,z,r⟩:=h;exact⟨vs,e.trans q,z,Zc.up u l ts vs r⟩
 | _=>exact h.elim
structure Base(F G H:Hp):Prop where
 f:∀a o,F a=some o->H a=some o
 g:∀a o,G a=some o->H a=some o
 d:∀a,F a≠none->G a=none
 t:TB F G H
structure Rel(K:W.Frag)(mg:ZV)(F G:Hp)(p:P)(Z:L2.St)(H:Hp):Prop where
 b:Base F G H
 fz:∀(i:Nat) (t:T),p[i]?=some (Sl.f t)->∃v,Z[i]?=some (some v)/\IsT K mg H F t v
 ow:∀(i:Nat) (t:T),p[i]?=some (Sl.o t)->∃a,Z[i]?=some (some (V.ref a))/\F a=none/\G a=none/\Rz K mg H F a t
 ap:∀(i j:Nat) (t u:T) (a:Addr),p[i]?=some (Sl.o t)->p[j]?=some (Sl.o u)->Z[i]?=some (some (V.ref a))->Z[j]?=some (some (V.ref a))->i=j
 ln:p.length=Z.length
def Res(K:W.Frag)(mg:ZV)(F G:Hp)(p:P)(Z:L2.St)(H:Hp)(r:Sl)(v:V):Prop:=match r with
 | .f t=>IsT K mg H F t v
 | .o t=>∃a,v=.ref a/\F a=none/\G a=none/\Rz K mg H F a t/\∀(i:Nat) (u:T),p[i]?=some (Sl.o u)->Z[i]?≠some (some (V.ref a))
 | .no=>False
section
variable{K:W.Frag}{mg:ZV}{H H' F F' G:Hp}{p:P}{Z:L2.St}
theorem Le.lay{a:Addr}{o:HO}(h:F a=none):Le F (upd F a o):=Zn.lay h
theorem Base.rd(b:Base F G H){a:Addr}{u:HO}(r:Rd F a u):Rd H a u:=by
 rcases r with r | ⟨o,r⟩
 .exact .inl (b.f a _ r)
 .exact .inr ⟨o,b.f a _ r⟩
theorem Base.same(b:Base F G H)(s:Zn H H'):Base F G H':=⟨λa o e=>s a o (b.f a o e),λa o e=>s a o (b.g a o e),b.d,b.t.same s⟩
theorem Rz.some{a:Addr}{t:T}(h:Rz K mg H F a t):∃o,H a=some o:=by
 cases t with
 | lst ts=>obtain⟨vs,q,_⟩:=h;exact⟨_,q⟩
 | dct ts=>obtain⟨vs,q,_⟩:=h;exact⟨_,q⟩
 | _=>exact h.elim
theorem Rz.pln{a:Addr}{t:T}{o:HO}(h:Rz K mg H F a t)(e:H a=Option.some o):Pln o:=by
 cases t with
 | lst ts=>obtain⟨vs,q,_⟩:=h;rw[q]at e;cases e;exact kj
 | dct ts=>obtain⟨vs,q,_⟩:=h;rw[q]at e;cases e;exact Zxp
 | _=>exact h.elim
theorem Rz.ne{a:Addr}{t:T}{T:TP}(h:Rz K mg H F a t)(tb:Tb T H):a≠T.P:=let ⟨_,e⟩:=h.some;tb.ne e (h.pln e)
theorem Rz.same{a:Addr}{t:T}(h:Rz K mg H F a t)(s:Zn H H')(l:Le F F'):Rz K mg H' F' a t:=by
 obtain⟨o,e⟩:=h.some;exact h.up s.up l ((s a o e).trans e.symm)
theorem Rel.same(r:Rel K mg F G p Z H)(s:Zn H H'):Rel K mg F G p Z H' :=
 ⟨r.b.same s,λi t e=>let ⟨v,h1,h2⟩:=r.fz i t e;⟨v,h1,IsT.up s.up (Le.refl F) t v h2⟩,λi t e=>let ⟨a,h1,h2,h3,h4⟩:=r.ow i t e;⟨a,h1,h2,h3,h4.same s (Le.refl F)⟩,r.ap,r.ln⟩
theorem To{a:Addr}{t:T}{o:HO}(h:Rz K mg H F a t)(e:H a=some o)(l:Le F F')(q:F' a=some o):IsT K mg H F' t (.ref a):=by
 cases t with
 | lst ts =>
  obtain⟨vs,q1,z,r⟩:=h;rw[q1]at e;cases e;exact⟨a,vs,rfl,.inl q,z,Zq.up (Up.refl H) l ts vs r⟩
 | dct ts =>
  obtain⟨vs,q1,z,r⟩:=h;rw[q1]at e;cases e;exact⟨a,vs,rfl,.inl q,z,Zc.up (Up.refl H) l ts vs r⟩
 | _=>exact h.elim
theorem Rel.freeze(r:Rel K mg F G p Z H){a:Addr}{t:T}(fa:F a=none)(ga:G a=none)(h:Rz K mg H F a t)(ha:∀(i:Nat) (u:T),p[i]?=some (Sl.o u)->Z[i]?≠some (some (V.ref a))):∃F',Le F F'/\Rel K mg F' G p Z H/\IsT K mg H F' t (.ref a):=by
 obtain⟨o,e⟩:=h.some;have l:Le F (upd F a o):=Le.lay fa;refine⟨upd F a o,l,⟨⟨λb u q=>?_,r.b.g,λb q=>?_,λT e=>let ⟨f1,g1,t1⟩:=r.b.t T e;⟨by rw[Zz (h.ne t1).symm];exact f1,g1,t1⟩⟩,λi t e=>let ⟨v,h1,h2⟩:=r.fz i t e;⟨v,h1,IsT.up (Up.refl H) l t v h2⟩,λi u q=>?_,r.ap,r.ln⟩,To h e l Zx⟩
 .by_cases z:b=a
  .subst z;rw[Zx]at q;cases q;exact e
  .rw[Zz z]at q;exact r.b.f b u q
 .by_cases z:b=a
  .subst z;exact ga
  .rw[Zz z]at q;exact r.b.d b q
 .obtain⟨b,h1,h2,h3,h4⟩:=r.ow i u q;have n:b≠a:=λz=>by subst z;exact ha i u q h1
  exact⟨b,h1,by rw[Zz n];exact h2,h3,h4.same (Zn.refl H) l⟩
theorem Z0{p:P}{i j:Nat}{s u:Sl}(h:(p.set i s)[j]?=some u):(j=i/\u=s)\/(j≠i/\p[j]?=some u):=by
 by_cases e:i=j
 .subst e;rw[List.getElem?_set_self']at h;cases q:p[i]? with
  | none=>rw[q]at h;cases h
  | some x=>rw[q]at h;exact .inl ⟨rfl,(Je h).symm⟩
 .rw[List.getElem?_set_ne e]at h;exact .inr ⟨λz=>e z.symm,h⟩
theorem Rel.drop(r:Rel K mg F G p Z H)(i:Nat):Rel K mg F G (p.set i .no) Z H :=
 ⟨r.b,λj t e=>by
  rcases Z0 e with ⟨_,z⟩ | ⟨_,e⟩
  .cases z
  .exact r.fz j t e,λj t e=>by
  rcases Z0 e with ⟨_,z⟩ | ⟨_,e⟩
  .cases z
  .exact r.ow j t e,λj k t u a e1 e2=>by
  rcases Z0 e1 with ⟨_,z⟩ | ⟨_,e1⟩
  .cases z
  rcases Z0 e2 with ⟨_,z⟩ | ⟨_,e2⟩
  .cases z
  exact r.ap j k t u a e1 e2,by rw[XG];exact r.ln⟩
theorem Rel.know(r:Rel K mg F G p Z H){i:Nat}{t:T}{v:V}(hv:Z[i]?=some (some v))(h:IsT K mg H F t v):Rel K mg F G (p.set i (.f t)) Z H :=
 ⟨r.b,λj u e=>by
  rcases Z0 e with ⟨z,y⟩ | ⟨_,e⟩
  .cases y;subst z;exact⟨v,hv,h⟩
  .exact r.fz j u e,λj t e=>by
  rcases Z0 e with ⟨_,z⟩ | ⟨_,e⟩
  .cases z
  .exact r.ow j t e,λj k t u a e1 e2=>by
  rcases Z0 e1 with ⟨_,z⟩ | ⟨_,e1⟩
  .cases z
  rcases Z0 e2 with ⟨_,z⟩ | ⟨_,e2⟩
  .cases z
  exact r.ap j k t u a e1 e2,by rw[XG];exact r.ln⟩
theorem Rel.freezeAt(r:Rel K mg F G p Z H){i:Nat}{t:T}(e:p[i]?=some (Sl.o t)):∃F' v,Le F F'/\Rel K mg F' G (p.set i (.f t)) Z H/\Z[i]?=some (some v)/\IsT K mg H F' t v:=by
 obtain⟨a,h1,h2,h3,h4⟩:=r.ow i t e
 obtain⟨F',l,r',h⟩:=(r.drop i).freeze h2 h3 h4 λj u q z=>by
  rcases Z0 q with ⟨_,y⟩ | ⟨n,q⟩
  .cases y
  .exact n (r.ap j i u t a q e z h1)
 have r2:=r'.know (i:=i) h1 h;rw[List.set_set]at r2;exact⟨F',_,l,r2,h1,h⟩
theorem Rel.thaw(r:Rel K mg F G p Z H){s:Sl}{t:T}{v:V}(e:PV.thaw s=some t)(h:Res K mg F G p Z H s v):∃F',Le F F'/\Rel K mg F' G p Z H/\IsT K mg H F' t v:=by
 cases s with
 | no=>cases e
 | f u=>cases e;exact⟨F,Le.refl F,r,h⟩
 | o u =>
  cases e;obtain⟨a,rfl,h1,h2,h3,h4⟩:=h;exact r.freeze h1 h2 h3 h4
theorem Rel.newL(r:Rel K mg F G p Z H){l:Addr}{ts:ZZ}{vs:ZQ}(hl:H l=none)(z:vs.length<=sizeLine)(h:Zq K mg H F ts vs):Rel K mg F G p Z (upd H l (.lst vs))/\Res K mg F G p Z (upd H l (.lst vs)) (.o (.lst ts)) (.ref l):=by
 have s:Zn H (upd H l (.lst vs)):=Zn.lay hl;refine⟨r.same s,l,rfl,?_,?_,⟨vs,Zx,z,Zq.up s.up (Le.refl F) ts vs h⟩,λi u e q=>?_⟩
 .cases q:F l with
  | none=>rfl
  | some o=>rw[r.b.f l o q]at hl;cases hl
 .cases q:G l with
  | none=>rfl
  | some o=>rw[r.b.g l o q]at hl;cases hl
 .obtain⟨b,h1,_,_,h4⟩:=r.ow i u e;rw[h1]at q;cases q;obtain⟨o,h5⟩:=h4.some;rw[h5]at hl;cases hl
theorem Rel.newD(r:Rel K mg F G p Z H){l:Addr}{ts:ZX}{vs:List (Key×V)}(hl:H l=none)(z:vs.length<=sizeLine)(h:Zc K mg H F ts vs):Rel K mg F G p Z (upd H l (.dK vs))/\Res K mg F G p Z (upd H l (.dK vs)) (.o (.dct ts)) (.ref l):=by
 have s:Zn H (upd H l (.dK vs)):=Zn.lay hl;refine⟨r.same s,l,rfl,?_,?_,⟨vs,Zx,z,Zc.up s.up (Le.refl F) ts vs h⟩,λi u e q=>?_⟩
 .cases q:F l with
  | none=>rfl
  | some o=>rw[r.b.f l o q]at hl;cases hl
 .cases q:G l with
  | none=>rfl
  | some o=>rw[r.b.g l o q]at hl;cases hl
 .obtain⟨b,h1,_,_,h4⟩:=r.ow i u e;rw[h1]at q;cases q;obtain⟨o,h5⟩:=h4.some;rw[h5]at hl;cases hl
end
def Ar(K:W.Frag)(mg:ZV)(F:Hp)(Z:L2.St)(H:Hp):A->V->Prop
 | .t t,v=>IsT K mg H F t v
 | .s i,v=>Z[i]?=some (some v)
abbrev Ars(K:W.Frag)(mg:ZV)(F:Hp)(Z:L2.St)(H:Hp):List A->ZQ->Prop:=Paired (Ar K mg F Z H)
def Nb(K:W.Frag)(mg:ZV)(H F:Hp):T->V->Prop
 | .lst ts,v=>∃a vs,v=.ref a/\Rd H a (.lst vs)/\vs.length<=sizeLine/\Zq K mg H F ts vs
 | .dct XD,v=>∃a ks,v=.ref a/\Rd H a (.dK ks)/\ks.length<=sizeLine/\Zc K mg H F XD ks
 | t,v=>IsT K mg H F t v
section
variable{K:W.Frag}{mg:ZV}{H H' F F' G:Hp}{p:P}{Z:L2.St}
theorem Ar.up(u:Up K H H')(l:Le F F'){a:A}{v:V}(h:Ar K mg F Z H a v):Ar K mg F' Z H' a v:=by
 cases a with
 | t t=>exact IsT.up u l t v h
 | s i=>exact h
theorem Ars.up(u:Up K H H')(l:Le F F'):∀{as:List A} {vs:ZQ},Ars K mg F Z H as vs->Ars K mg F' Z H' as vs
 | _,_,.nil=>.nil
 | _,_,.cons r t=>.cons (Ar.up u l r) (Ars.up u l t)
theorem Em(b:Base F G H){t:T}{v:V}(h:IsT K mg H F t v):Nb K mg H F t v:=by
 cases t with
 | lst ts=>obtain⟨a,vs,e,q,z,r⟩:=h;exact⟨a,vs,e,b.rd q,z,r⟩
 | dct ts=>obtain⟨a,vs,e,q,z,r⟩:=h;exact⟨a,vs,e,b.rd q,z,r⟩
 | _=>exact h
theorem ua{a:Addr}{t:T}(h:Rz K mg H F a t):Nb K mg H F t (.ref a):=by
 cases t with
 | lst ts=>obtain⟨vs,q,z,r⟩:=h;exact⟨a,vs,rfl,.inl q,z,r⟩
 | dct ts=>obtain⟨vs,q,z,r⟩:=h;exact⟨a,vs,rfl,.inl q,z,r⟩
 | _=>exact h.elim
theorem Rel.look(r:Rel K mg F G p Z H){a:A}{v:V}{t:T}(e:PV.look p a=some t)(h:Ar K mg F Z H a v):Nb K mg H F t v:=by
 cases a with
 | t u=>cases e;exact Em r.b h
 | s i =>
  unfold PV.look at e;dsimp only at e
  split at e
  .rename_i u q
   cases e;obtain⟨v',h1,h2⟩:=r.fz i _ q;have:v'=v:=Je (Je (h1.symm.trans h));subst this;exact Em r.b h2
  .rename_i u q
   cases e;obtain⟨a,h1,_,_,h2⟩:=r.ow i _ q;have:V.ref a=v:=Je (Je (h1.symm.trans h));subst this;exact ua h2
  .cases e
theorem Rel.looks(r:Rel K mg F G p Z H):∀{as:List A} {vs:ZQ} {ts:ZZ},PV.looks p as=some ts->Ars K mg F Z H as vs->Paired (Nb K mg H F) ts vs
 | [],_,ts,e,.nil=>by cases e;exact .nil
 | a::as,_,ts,e,.cons h t=>by
  unfold PV.looks at e;cases e1:PV.look p a with
  | none=>rw[e1]at e;cases e
  | some u =>
   rw[e1]at e;have e:(PV.looks p as).map (u::·)=some ts:=e;cases e2:PV.looks p as with
   | none=>rw[e2]at e;cases e
   | some us =>
    rw[e2]at e;cases e;exact .cons (r.look e1 h) (r.looks e2 t)
end
section
theorem Nj:∀{as:List A} {p:P} {sl:List Sl},args p as=some sl->sl.length=as.length
 | [],p,sl,e=>by cases e;rfl
 | .t t::r,p,sl,e=>by
  unfold args at e;cases q:args p r with
  | none=>rw[q]at e;cases e
  | some x=>rw[q]at e;cases e;simp[Nj q]
 | .s i::r,p,sl,e=>by
  unfold args at e
  split at e
  .cases q:args (p.set i .no) r with
   | none=>rw[q]at e;cases e
   | some x=>rw[q]at e;cases e;simp[Nj q]
  .cases e
theorem Ko:∀{as:List A} {p:P} {sl:List Sl} {j:Nat} {t:T},args p as=some sl->as[j]?=some (.t t)->sl[j]?=some (.f t)
 | [],p,sl,j,t,e,h=>by simp at h
 | .t u::r,p,sl,j,t,e,h=>by
  unfold args at e;cases q:args p r with
  | none=>rw[q]at e;cases e
  | some x =>
   rw[q]at e;cases e;cases j with
   | zero=>simp at h;subst h;rfl
   | succ j=>simpa using Ko (j:=j) q (by simpa using h)
 | .s i::r,p,sl,j,t,e,h=>by
  unfold args at e
  split at e
  .cases q:args (p.set i .no) r with
   | none=>rw[q]at e;cases e
   | some x =>
    rw[q]at e;cases e;cases j with
    | zero=>simp at h
    | succ j=>simpa using Ko (j:=j) q (by simpa using h)
  .cases e
theorem Gg:∀{as:List A} {p:P} {sl:List Sl} {j i:Nat},args p as=some sl->as[j]?=some (.s i)->∃t,p[i]?=some (Sl.o t)/\sl[j]?=some (.o t)
 | [],p,sl,j,t,e,h=>by simp at h
 | .t u::r,p,sl,j,i,e,h=>by
  unfold args at e;cases q:args p r with
  | none=>rw[q]at e;cases e
  | some x =>
   rw[q]at e;cases e;cases j with
   | zero=>simp at h
   | succ j=>simpa using Gg (j:=j) q (by simpa using h)
 | .s k::r,p,sl,j,i,e,h=>by
  unfold args at e
  split at e
  .rename_i u hu
   cases q:args (p.set k .no) r with
   | none=>rw[q]at e;cases e
   | some x =>
    rw[q]at e;cases e;cases j with
    | zero=>simp at h;subst h;exact⟨u,hu,rfl⟩
    | succ j =>
     obtain⟨t,h1,h2⟩:=Gg (j:=j) q (by simpa using h);rcases Z0 h1 with ⟨_,z⟩ | ⟨_,h1⟩
     .cases z
     .exact⟨t,h1,by simpa using h2⟩
  .cases e
theorem U4:∀{as:List A} {p:P} {sl:List Sl} {j k i:Nat},args p as=some sl->as[j]?=some (.s i)->as[k]?=some (.s i)->j=k
 | [],p,sl,j,k,i,e,h,_=>by simp at h
 | .t u::r,p,sl,j,k,i,e,h,h'=>by
  unfold args at e;cases q:args p r with
  | none=>rw[q]at e;cases e
  | some x =>
   cases j with
   | zero=>simp at h
   | succ j =>
    cases k with
    | zero=>simp at h'
    | succ k=>rw[U4 (j:=j) (k:=k) q (by simpa using h) (by simpa using h')]
 | .s l::r,p,sl,j,k,i,e,h,h'=>by
  unfold args at e
  split at e
  .cases q:args (p.set l .no) r with
   | none=>rw[q]at e;cases e
   | some x =>
    have no:∀{m:Nat},r[m]?=some (A.s i)->l≠i:=λ{m} hm z=>by
     subst z;obtain⟨t,h1,_⟩:=Gg (j:=m) q hm;rcases Z0 h1 with ⟨_,z⟩ | ⟨z,_⟩
     .cases z
     .exact z rfl
    cases j with
    | zero =>
     cases k with
     | zero=>rfl
     | succ k =>
      simp at h;exact absurd h (no (m:=k) (by simpa using h'))
    | succ j =>
     cases k with
     | zero =>
      simp at h';exact absurd h' (no (m:=j) (by simpa using h))
     | succ k=>rw[U4 (j:=j) (k:=k) q (by simpa using h) (by simpa using h')]
  .cases e
theorem B5:∀{as:List A} {p p0 p2:P} {sl:List Sl} {ts:ZZ},args p0 as=some sl->outs p as ts=some p2 ->
  p2.length=p.length/\(∀i:Nat,A.s i∉as->p2[i]?=p[i]?)/\(∀j i:Nat,as[j]?=some (A.s i)->i<p.length->(∀k:Nat,as[k]?=some (A.s i)->k=j)->∃t,p2[i]?=some (mkO t)/\(Rx sl ts)[j]?=some (mkO t))/\∀(j:Nat) (t:T),as[j]?=some (A.t t)->(Rx sl ts)[j]?=some (Sl.f t)
 | [],p,p0,p2,sl,ts,e,h=>by
  cases e;cases ts with
  | nil=>cases h;exact⟨rfl,λ_ _=>rfl,λj i h=>by simp at h,λj t h=>by simp at h⟩
  | cons t ts=>cases h
 | .t u::r,p,p0,p2,sl,ts,e,h=>by
  unfold args at e;cases q:args p0 r with
  | none=>rw[q]at e;cases e
  | some x =>
   rw[q]at e;cases e;have h:outs p r ts=some p2:=by cases ts<;>exact h
   obtain⟨h1,h2,h3,h4⟩:=B5 q h;have eu:Rx (.f u::x) ts=.f u::Rx x ts:=by cases ts<;>rfl
   refine⟨h1,λi m=>h2 i λz=>m (Y3 _ z),λj i hj hi hu=>?_,λj t hj=>?_⟩
   .cases j with
    | zero=>simp at hj
    | succ j =>
     obtain⟨t,a1,a2⟩:=h3 j i (by simpa using hj) hi λk hk=>by have:=hu (k+1) (by simpa using hk);omega
     exact⟨t,a1,by rw[eu];simpa using a2⟩
   .rw[eu];cases j with
    | zero=>simp at hj;subst hj;rfl
    | succ j=>simpa using h4 j t (by simpa using hj)
 | .s l::r,p,p0,p2,sl,ts,e,h=>by
  unfold args at e
  split at e
  .rename_i u hu0
   cases q:args (p0.set l .no) r with
   | none=>rw[q]at e;cases e
   | some x =>
    rw[q]at e;cases e;cases ts with
    | nil=>cases h
    | cons t ts =>
     have h:outs (p.set l (mkO t)) r ts=some p2:=h;obtain⟨h1,h2,h3,h4⟩:=B5 q h;rw[XG]at h1;refine⟨h1,λi m=>?_,λj i hj hi hu=>?_,λj v hj=>?_⟩
     .rw[h2 i λz=>m (Y3 _ z),List.getElem?_set_ne λz=>m (by rw[z];exact Yu)]
     .cases j with
      | zero =>
       simp at hj;subst hj
       have no:A.s l∉r:=λz=>by
        obtain⟨k,hk⟩:=List.getElem?_of_mem z;have:=hu (k+1) (by simpa using hk);omega
       exact⟨t,by rw[h2 l no,List.getElem?_set_self hi],rfl⟩
      | succ j =>
       obtain⟨v,a1,a2⟩:=h3 j i (by simpa using hj) (by rw[XG];exact hi) λk hk=>by have:=hu (k+1) (by simpa using hk);omega
       exact⟨v,a1,a2⟩
     .cases j with
      | zero=>simp at hj
      | succ j=>exact h4 j v (by simpa using hj)
  .cases e
end
def spC(K:W.Frag)(mg:ZV)(n:Nat)(c:List Sl->Option (Sl×ZZ)):Sp:=λvs H Q _=>vs.length=n/\∃F G as r,c as=some r/\Rel K mg F G as (vs.map some) H /\
 ∀F' H' v,Le F F'->Up K H H'->Rel K mg F' G (Rx as r.2) (vs.map some) H'->Res K mg F' G (Rx as r.2) (vs.map some) H' r.1 v->Q v H'
section
variable{K:W.Frag}{mg:ZV}{H F G:Hp}{p:P}{Z:L2.St}
theorem U9{Z U:Type}{R:Z->U->Prop}:∀{xs:List Z} {ys:List U} {i:Nat} {x:Z},Paired R xs ys->xs[i]?=some x->∃y,ys[i]?=some y/\R x y
 | _,_,_,_,.nil,e=>by simp at e
 | _,_,0,_,.cons r _,e=>by simp at e;subst e;exact⟨_,rfl,r⟩
 | _,_,i+1,x,.cons _ t,e=>by
  obtain⟨u,h1,h2⟩:=U9 (i:=i) (x:=x) t (by simpa using e);exact⟨u,by simpa using h1,h2⟩
open Classical in
theorem Rel.call(r:Rel K mg F G p Z H){as:List A}{vs:ZQ}{sl:List Sl}(ha:Ars K mg F Z H as vs)(es:args p as=some sl){c:List Sl->Option (Sl×ZZ)}{rr:Sl×ZZ}(ec:c sl=some rr){p2:P}(eo:outs p as rr.2=some p2){n:Nat}(hn:vs.length=n){Q:VK}{E:XK}
  (q:∀F' H' v,Le F F'->Up K H H'->Rel K mg F' G p2 Z H'->Res K mg F' G p2 Z H' rr.1 v->Q v H'):spC K mg n c vs H Q E:=by
 have al:=Nj es;have vl:as.length=vs.length:=Paired.length ha
 let G':Hp:=λa=>if ∃(i:Nat) (t:T),p[i]?=some (Sl.o t)/\Z[i]?=some (some (V.ref a))/\A.s i∉as then H a else G a
 have gIn:∀{a:Addr} {i:Nat} {t:T},p[i]?=some (Sl.o t)->Z[i]?=some (some (V.ref a))->A.s i∉as->G' a=H a:=λ{a i t} h1 h2 h3=>if_pos ⟨i,t,h1,h2,h3⟩;have M6:∀{a:Addr},(¬ ∃(i:Nat) (t:T),p[i]?=some (Sl.o t)/\Z[i]?=some (some (V.ref a))/\A.s i∉as)->G' a=G a:=λ{a} h=>if_neg h
 have gOf:∀{a:Addr} {o:HO},G a=some o->G' a=some o:=λ{a o} h=>by
  refine(M6 λ⟨i,t,h1,h2,_⟩=>?_).trans h;obtain⟨b,h3,_,h4,_⟩:=r.ow i t h1;rw[h2]at h3;cases h3;rw[h]at h4;cases h4
 have gNo:∀{a:Addr},G' a=none->G a=none:=λ{a} h=>by
  cases e:G a with
  | none=>rfl
  | some o=>rw[gOf e]at h;cases h
 have arg:∀{j:Nat} {s:Sl},sl[j]?=some s->∃v,vs[j]?=some v/\((∃t,s=.f t/\as[j]?=some (.t t)/\IsT K mg H F t v)\/∃(i:Nat) (t:T),s=.o t/\as[j]?=some (.s i)/\p[i]?=some (Sl.o t)/\Z[i]?=some (some v)):=λ{j s} hs=>by
  have hj:j<as.length:=by rw[<-al];exact(Rk.mp hs).1
  obtain⟨a,hae⟩:∃a,as[j]?=some a:=⟨_,D4 hj⟩;obtain⟨v,hv,hr⟩:=U9 ha hae;refine⟨v,hv,?_⟩;cases a with
  | t t =>
   have:=Ko es hae;rw[hs]at this;cases this;exact .inl ⟨t,rfl,hae,hr⟩
  | s i =>
   obtain⟨t,h1,h2⟩:=Gg es hae;rw[hs]at h2;cases h2;exact .inr ⟨i,t,rfl,hae,h1,hr⟩
 have vsome:∀{j:Nat} {v:V},vs[j]?=some v->(vs.map some)[j]?=some (some v):=λ{j v} h=>by rw[Qv,h];rfl
 have r0:Rel K mg F G' sl (vs.map some) H:=by
  refine⟨⟨r.b.f,λa o e=>?_,λa e=>?_,λT e=>let ⟨f1,g1,t1⟩:=r.b.t T e;⟨f1,(M6 λ⟨i,t,h1,h2,_⟩=>by
   obtain⟨b,h3,_,_,h4⟩:=r.ow i t h1;rw[h2]at h3;cases h3;exact h4.ne t1 rfl).trans g1,t1⟩⟩,λj t e=>?_,λj t e=>?_,λj k t u a e1 e2 h1 h2=>?_,by rw[Yc,al,vl]⟩
  .by_cases h:∃(i:Nat) (t:T),p[i]?=some (Sl.o t)/\Z[i]?=some (some (V.ref a))/\A.s i∉as
   .obtain⟨i,t,h1,h2,h3⟩:=h;rw[gIn h1 h2 h3]at e;exact e
   .rw[M6 h]at e;exact r.b.g a o e
  .refine(M6 λ⟨i,t,h1,h2,_⟩=>?_).trans (r.b.d a e);obtain⟨b,h3,h4,_⟩:=r.ow i t h1;rw[h2]at h3;cases h3;exact e h4
  .obtain⟨v,hv,⟨t',et,_,it⟩ | ⟨i,t',et,_⟩⟩:=arg e
   .cases et;exact⟨v,vsome hv,it⟩
   .cases et
  .obtain⟨v,hv,⟨t',et,_,it⟩ | ⟨i,t',et,hj,hp,hσ⟩⟩:=arg e
   .cases et
   .cases et;obtain⟨a,h1,h2,h3,h4⟩:=r.ow i t hp;rw[hσ]at h1;cases h1;refine⟨a,vsome hv,h2,?_,h4⟩;refine(M6 λ⟨k,u,q1,q2,q3⟩=>?_).trans h3;have:=r.ap k i u t a q1 hp q2 hσ;subst this;exact q3 (List.mem_of_getElem? hj)
  .obtain⟨v,hv,⟨t',et,_,it⟩ | ⟨i,t',et,hj,hp,hσ⟩⟩:=arg e1
   .cases et
   obtain⟨v',hv',⟨t',et',_,it⟩ | ⟨i',t'',et',hj',hp',hσ'⟩⟩:=arg e2
   .cases et'
   rw[vsome hv]at h1;cases h1;rw[vsome hv']at h2;cases h2;have:=r.ap i i' t' t'' a hp hp' hσ hσ';subst this;exact U4 es hj hj'
 refine⟨hn,F,G',sl,rr,ec,r0,λF' H' v l u r' rs=>q F' H' v l u ?_ ?_⟩
 .obtain⟨o1,o2,o3,o4⟩:=B5 es eo
  have kept:∀{i:Nat} {t:T} {a:Addr},p[i]?=some (Sl.o t)->Z[i]?=some (some (V.ref a))->A.s i∉as->F' a=none/\Rz K mg H' F' a t:=λ{i t a} h1 h2 h3=>by
   obtain⟨b,h4,h5,h6,h7⟩:=r.ow i t h1;rw[h2]at h4;cases h4;obtain⟨o,ho⟩:=h7.some;have g1:G' a=some o:=(gIn h1 h2 h3).trans ho;refine⟨?_,h7.up u l ((r'.b.g a o g1).trans ho.symm)⟩;cases e:F' a with
   | none=>rfl
   | some x =>
    have:=r'.b.d a (by rw[e];exactλz=>nomatch z);rw[g1]at this;cases this
  have lent:∀{i:Nat} {t:T},p2[i]?=some (Sl.o t)->A.s i∈as->∃(a:Addr) (j:Nat),Z[i]?=some (some (V.ref a))/\as[j]?=some (A.s i)/\(Rx sl rr.2)[j]?=some (Sl.o t)/\(vs.map some)[j]?=some (some (V.ref a))/\G a=none:=λ{i t} h1 h2=>by
   obtain⟨j,hj⟩:=List.getElem?_of_mem h2;obtain⟨x,hx,_⟩:=Gg es hj;obtain⟨y,hy1,hy2⟩:=o3 j i hj (Rk.mp hx).1 λk hk=>U4 es hk hj;rw[h1]at hy1;rw[<-Je hy1]at hy2;obtain⟨v,hv,hσ⟩:=U9 ha hj;obtain⟨a,q1,q2,q3,q4⟩:=r.ow i x hx;rw[show Z[i]?=some (some v) from hσ]at q1;cases q1;exact⟨a,j,hσ,hj,hy2,vsome hv,q3⟩
  refine⟨⟨r'.b.f,λa o e=>r'.b.g a o (gOf e),λa e=>gNo (r'.b.d a e),λT e=>⟨(r'.b.t T e).f,(r.b.t T e).g,(r'.b.t T e).h⟩⟩,λi t e=>?_,λi t e=>?_,λi j t t' a e1 e2 h1 h2=>?_,by rw[o1];exact r.ln⟩
  .by_cases m:A.s i∈as
   .obtain⟨j,hj⟩:=List.getElem?_of_mem m;obtain⟨x,hx,_⟩:=Gg es hj;obtain⟨y,hy1,hy2⟩:=o3 j i hj (Rk.mp hx).1 λk hk=>U4 es hk hj;rw[e]at hy1;exact absurd (Je hy1).symm mkO_f
   .rw[o2 i m]at e;obtain⟨v,h1,h2⟩:=r.fz i t e;exact⟨v,h1,IsT.up u l t v h2⟩
  .by_cases m:A.s i∈as
   .obtain⟨a,j,h1,h2,h3,h4,h5⟩:=lent e m;obtain⟨b,q1,q2,q3,q4⟩:=r'.ow j t h3;rw[h4]at q1;cases q1;exact⟨a,h1,q2,h5,q4⟩
   .rw[o2 i m]at e;obtain⟨a,h1,h2,h3,h4⟩:=r.ow i t e;obtain⟨k1,k2⟩:=kept e h1 m;exact⟨a,h1,k1,h3,k2⟩
  .have own:∀{i:Nat} {t:T},p2[i]?=some (Sl.o t)->∃t',p[i]?=some (Sl.o t'):=λ{i t} h=>by
    by_cases m:A.s i∈as
    .obtain⟨j,hj⟩:=List.getElem?_of_mem m;obtain⟨x,hx,_⟩:=Gg es hj;exact⟨x,hx⟩
    .rw[o2 i m]at h;exact⟨t,h⟩
   obtain⟨x,hx⟩:=own e1;obtain⟨y,hy⟩:=own e2;exact r.ap i j x y a hx hy h1 h2
 .cases hr:rr.1 with
  | no=>rw[hr]at rs;exact rs
  | f t=>rw[hr]at rs;exact rs
  | o t =>
   rw[hr]at rs;obtain⟨a,rfl,h1,h2,h3,h4⟩:=rs;obtain⟨o1,o2,o3,o4⟩:=B5 es eo;refine⟨a,rfl,h1,gNo h2,h3,λi t e hσ=>?_⟩;by_cases m:A.s i∈as
   .obtain⟨j,hj⟩:=List.getElem?_of_mem m;obtain⟨x,hx,_⟩:=Gg es hj;obtain⟨y,hy1,hy2⟩:=o3 j i hj (Rk.mp hx).1 λk hk=>U4 es hk hj;obtain⟨v,hv,hs⟩:=U9 ha hj;rw[show Z[i]?=some (some v) from hs]at hσ;cases hσ;rw[e]at hy1;rw[<-Je hy1]at hy2;exact h4 j t hy2 (vsome hv)
   .rw[o2 i m]at e;obtain⟨b,q1,q2,q3,q4⟩:=r.ow i t e;rw[hσ]at q1;cases q1;obtain⟨o,ho⟩:=q4.some;rw[gIn e hσ m,ho]at h2;cases h2
end
theorem PE.imp{X:Cx}{e:Expr}{t t':TE}(h:PE X e t)(f:∀Z H Q,t' Z H Q->t Z H Q):PE X e t':=λXM s Z H Q I q=>h XM s Z H Q I (f Z H Q q)
inductive LE_I(K:PySem.W.Frag)(mg:ZV)(w:W)(e:E)(Z:L2.St)(H:Hp)(Q:VK):Prop
 | mk(F G p r p')(Vz:Rel K mg F G p Z H)(Y9:ev w e p=some (r,p'))(U5:∀F' H' v,Le F F'->Up K H H'->Rel K mg F' G p' Z H'->Res K mg F' G p' Z H' r v->Q v H'):LE_I K mg w e Z H Q
def LE(K:PySem.W.Frag)(mg:ZV)(w:W)(e:E):TE:=λZ H Q=>LE_I K mg w e Z H Q
inductive LA_I(K:PySem.W.Frag)(mg:ZV)(w:W)(m:Bool)(e:E)(Z:L2.St)(H:Hp)(Q:(ZQ->Hp->Prop)):Prop
 | mk(F G p as p')(Vz:Rel K mg F G p Z H)(Y9:Jl w m e p=some (as,p'))(U5:∀F' H' vs,Le F F'->Up K H H'->Rel K mg F' G p' Z H'->Ars K mg F' Z H' as vs->Q vs H'):LA_I K mg w m e Z H Q
def LA(K:PySem.W.Frag)(mg:ZV)(w:W)(m:Bool)(e:E):TA:=λZ H Q=>LA_I K mg w m e Z H Q
inductive LH_I(K:PySem.W.Frag)(mg:ZV)(w:W)(m:Bool)(e:E)(Z:L2.St)(H:Hp)(Q:VK):Prop
 | mk(F G p a p')(Vz:Rel K mg F G p Z H)(Y9:P1 m e p (toT (ev w e p))=some (a,p'))(U5:∀F' H' v,Le F F'->Up K H H'->Rel K mg F' G p' Z H'->Ar K mg F' Z H' a v->Q v H'):LH_I K mg w m e Z H Q
def LH(K:PySem.W.Frag)(mg:ZV)(w:W)(m:Bool)(e:E):TE:=λZ H Q=>LH_I K mg w m e Z H Q
inductive LB_I(K:PySem.W.Frag)(mg:ZV)(w:W)(e:E)(Z:L2.St)(H:Hp)(Q:(Bool->Hp->Prop)):Prop
 | mk(F G p b p')(Vz:Rel K mg F G p Z H)(Y9:Ji (ev w e p)=some (b,p'))(U5:∀F' H',Le F F'->Up K H H'->Rel K mg F' G p' Z H'->Q b H'):LB_I K mg w e Z H Q
def LB(K:PySem.W.Frag)(mg:ZV)(w:W)(e:E):TT:=λZ H Q=>LB_I K mg w e Z H Q
def noStar:Expr->Bool
 | .Starred _ _=>false
 | _=>true
theorem Zu{e:Expr}{es:ZC}{env:Env}(h:noStar e=true):starEach (e::es) env=(false,eval e env)::starEach es env:=by
 cases e<;>first | rfl | cases h
theorem Vq:∀(es:ZC) (env:Env) (pos:Pos),(∀e∈es,noStar e=true)->(backTo pos (starEach es env)).any (·.1)=false
 | [],env,pos,h=>rfl
 | e::es,env,pos,h=>by
  rw[Zu (h e Yu)];have:=Vq es env pos λe m=>h e (Y3 _ m);show (false || (backTo pos (starEach es env)).any (·.1))=false;rw[this];rfl
inductive Hs(X:Cx)(w:W)(m:Bool):E->ZC->Prop
 | nil:Hs X w m .nil []
 | cons {a r:E} {x:Expr} {xs:ZC} (h:PE X x (LH X.K X.mg w m a)) (s:noStar x=true) (t:Hs X w m r xs):Hs X w m (.cons a r) (x::xs)
section
variable{X:Cx}{w:W}{m:Bool}
theorem Hs.star:∀{es:E} {xs:ZC},Hs X w m es xs->∀x∈xs,noStar x=true
 | _,_,.nil,x,h=>absurd h Ve
 | _,_,.cons h s t,x,hx=>by
  rcases Yf.mp hx with rfl | hx
  .exact s
  .exact t.star x hx
theorem Ze{a r:E}{p:P}{as:List A}{p':P}(e:Jl w m (.cons a r) p=some (as,p')):∃a' p1 as',P1 m a p (toT (ev w a p))=some (a',p1)/\Jl w m r p1=some (as',p')/\as=a'::as':=by
 unfold Jl at e;cases e1:P1 m a p (toT (ev w a p)) with
 | none=>rw[e1]at e;cases e
 | some q =>
  rw[e1]at e;have e:(Jl w m r q.2).map (λs=>(q.1::s.1,s.2))=some (as,p'):=e;cases e2:Jl w m r q.2 with
  | none=>rw[e2]at e;cases e
  | some s=>rw[e2]at e;cases e;exact⟨q.1,q.2,s.1,rfl,e2,rfl⟩
theorem Hs.pa:∀{es:E} {xs:ZC},Hs X w m es xs->PA X xs (LA X.K X.mg w m es)
 | _,_,.nil=>λpos XM s Z H Q I h=>by
  obtain⟨F,G,p,as,p',rel,e,k⟩:=h;have e:some (([]:List A),p)=some (as,p'):=by cases m<;>exact e
  cases e;exact Ds pos XM s Z H Q I (k F H [] (Le.refl F) (Up.refl H) rel .nil)
 | .cons a r,_,.cons h s t=>λpos XM s' Z H Q I hq=>by
  obtain⟨F,G,p,as,p',rel,e,k⟩:=hq;obtain⟨a',p1,as',e1,e2,rfl⟩:=Ze e;refine V2 h t.pa (Zu s) pos XM s' Z H Q I ⟨F,G,p,a',p1,rel,e1,λF1 H1 v l1 u1 r1 Gb=>⟨F1,G,p1,as',p',r1,e2,λF2 H2 vs l2 u2 r2 Bi=>?_⟩⟩;exact k F2 H2 _ (l1.trans l2) (u1.trans u2) r2 (.cons (Ar.up u2 l2 Gb) Bi)
theorem Vw{p:P}{as:List A}{p':P}(e:Jl w m .nil p=some (as,p')):as=[]/\p'=p:=by
 have e:some (([]:List A),p)=some (as,p'):=by cases m<;>exact e
 cases e;exact⟨rfl,rfl⟩
theorem Zl{p:P}{a:A}{as:List A}{ts:ZZ}(e:looks p (a::as)=some ts):∃t r,look p a=some t/\looks p as=some r/\ts=t::r:=by
 unfold looks at e;cases e1:look p a with
 | none=>rw[e1]at e;cases e
 | some t =>
  rw[e1]at e;have e:(looks p as).map (t::·)=some ts:=e;cases e2:looks p as with
  | none=>rw[e2]at e;cases e
  | some r=>rw[e2]at e;cases e;exact⟨t,r,rfl,rfl,rfl⟩
variable{F G:Hp}{p:P}{Z:L2.St}{H:Hp}
theorem Bx{a:E}{as:List A}{ts:ZZ}{p':P}(e:Jl w m (.cons a .nil) p=some (as,p'))(el:looks p' as=some ts)(rel:Rel X.K X.mg F G p Z H){R:V->Hp->Prop}
  (k:∀F' H' x t,ts=[t]->Le F F'->Up X.K H H'->Rel X.K X.mg F' G p' Z H'->Nb X.K X.mg H' F' t x->R x H'):LH X.K X.mg w m a Z H R:=by
 obtain⟨a',p1,as',e1,e2,rfl⟩:=Ze e;obtain⟨rfl,rfl⟩:=Vw e2;obtain⟨t,r,l1,l2,rfl⟩:=Zl el;cases l2;exact⟨F,G,p,a',_,rel,e1,λF1 H1 x zc u1 r1 Gb=>k F1 H1 x t rfl zc u1 r1 (r1.look l1 Gb)⟩
theorem Wz{a b:E}{as:List A}{ts:ZZ}{p':P}(e:Jl w m (.cons a (.cons b .nil)) p=some (as,p'))(el:looks p' as=some ts)(rel:Rel X.K X.mg F G p Z H){R:V->V->Hp->Prop}
  (k:∀F' H' x y t u,ts=[t,u]->Le F F'->Up X.K H H'->Rel X.K X.mg F' G p' Z H'->Nb X.K X.mg H' F' t x->Nb X.K X.mg H' F' u y->R x y H'):LH X.K X.mg w m a Z H λx H1=>LH X.K X.mg w m b Z H1 λy H2=>R x y H2:=by
 obtain⟨a',p1,as',e1,e2,rfl⟩:=Ze e;obtain⟨b',p2,as'',e3,e4,rfl⟩:=Ze e2;obtain⟨rfl,rfl⟩:=Vw e4;obtain⟨t,r,l1,l2,rfl⟩:=Zl el;obtain⟨u,r,l3,l4,rfl⟩:=Zl l2;cases l4;exact⟨F,G,p,a',p1,rel,e1,λF1 H1 x zc u1 r1 Gb=>⟨F1,G,p1,b',_,r1,e3,λF2 H2 y Sn u2 r2 Bi=>k F2 H2 x y t u rfl (zc.trans Sn) (u1.trans u2) r2 (r2.look l1 (Ar.up u2 Sn Gb)) (r2.look l3 Bi)⟩⟩
theorem readN{es:E}{as:List A}{ts:ZZ}{p':P}(e:Jl w m es p=some (as,p'))(el:looks p' as=some ts)(rel:Rel X.K X.mg F G p Z H){R:ZQ->Hp->Prop}
  (k:∀F' H' vs,Le F F'->Up X.K H H'->Rel X.K X.mg F' G p' Z H'->Paired (Nb X.K X.mg H' F') ts vs->R vs H'):LA X.K X.mg w m es Z H R :=
 ⟨F,G,p,as,p',rel,e,λF' H' vs l u r ar=>k F' H' vs l u r (r.looks el ar)⟩
end
theorem Nw{K:W.Frag}{mg:ZV}{F H:Hp}{Z:L2.St}{p:P}:∀{as:List A} {vs:ZQ} {ts:ZZ},(∀a∈as,∃t,a=.t t)->looks p as=some ts->Ars K mg F Z H as vs->Zq K mg H F ts vs
 | [],_,ts,_,e,.nil=>by cases e;rfl
 | a::as,_,ts,ha,e,.cons h t=>by
  obtain⟨u,r,l1,l2,rfl⟩:=Zl e;obtain⟨u',rfl⟩:=ha a Yu;cases l1;exact⟨_,_,rfl,h,Nw (λa m=>ha a (Y3 _ m)) l2 t⟩
noncomputable def opOf:Op->Operator
 | .add=>.Add
 | .sub=>.Sub
 | .mul=>.Mult
 | .fdiv=>.FloorDiv
 | .mod=>.Mod
 | .pow=>.Pow
noncomputable def G7:Cm->CmpOp
 | .eq=>.Eq
 | .ne=>.NotEq
 | .lt=>.Lt
 | .le=>.LtE
 | .gt=>.Gt
 | .ge=>.GtE
 | .isin=>.In
 | .notin=>.NotIn
 | .is=>.Is
 | .isnt=>.IsNot
section
variable{K:W.Frag}{mg:ZV}{H F G:Hp}
theorem dc{t:T}{v:V}(h:Nb K mg H F t v)(e:dh t=true):Gj v=true/\shV t=some v:=by
 cases t<;>first
  | (cases(show v=_ from h);exact⟨rfl,rfl⟩)
  | cases e
theorem see_is{t:T}{v:V}(h:Nb K mg H F t v)(e:shV t≠none):IsT K mg H F t v:=by
 cases t<;>first | exact h | exact absurd rfl e
theorem Zqy{a b:T}{x y:V}{r:Bool}(s1:IsT K mg H F a x)(s2:Nb K mg H F b y)(h:eqT a b=some r):Gj y=true/\((Gj x=true/\r=l7 x y)\/(r=false/\∃ts,a=.tup ts)):=by
 unfold eqT at h
 split at h
 .cases(show x=_ from s1);cases(show y=_ from s2);cases h;exact⟨rfl,.inl ⟨rfl,(Bool.beq_eq_decide_eq _ _).symm⟩⟩
 .cases(show x=_ from s1);cases(show y=_ from s2);cases h;exact⟨rfl,.inl ⟨rfl,(Bool.beq_eq_decide_eq _ _).symm⟩⟩
 .split at h
  .rename_i fb
   obtain⟨fy,ey⟩:=dc s2 fb;rw[ey]at h;refine⟨fy,?_⟩
   cases a<;>first
    | (cases(show x=_ from s1);cases h;exact .inl ⟨rfl,rfl⟩)
    | (cases h;exact .inr ⟨by cases y<;>rfl,_,rfl⟩)
    | cases h
  .cases h
theorem eq_sv{a b:T}{r:Bool}(h:eqT a b=some r):shV a≠none:=by
 intro z;unfold eqT at h
 split at h
 .cases z
 .cases z
 .rw[z]at h;split at h<;>cases h
theorem Zze{Z U:Type}{a:List Z}{b:List U}(h:a.length=b.length):a.isEmpty=b.isEmpty:=by
 cases a<;>cases b<;>first | rfl | cases h
theorem Zc.val(k:Key):∀{XD:ZX} {ks:List (Key×V)},Zc K mg H F XD ks->(∀t,Zg XD k=some t->∃v,G0 ks k=some v/\IsT K mg H F t v)/\(Zg XD k=none->G0 ks k=none)
 | [],ks,h=>by cases(show ks=[] from h);exact⟨(λt e=>by cases e),λ_=>rfl⟩
 | (k',t)::XD,ks,h=>by
  obtain⟨⟨k2,v⟩,r,rfl,⟨e,h1⟩,h2⟩:=h;obtain rfl:k2=k':=e;obtain⟨i1,i2⟩:=Zc.val k h2;unfold Zg;rw[List.find?_cons];by_cases q:k2=k
  .rw[Gn q,Mz (show (k2,v).1=k from q)];exact⟨λt' e=>by cases e;exact⟨v,rfl,h1⟩,λe=>nomatch e⟩
  .rw[Gr q,Mx (show ¬ (k2,v).1=k from q)];exact⟨i1,i2⟩
theorem Mu{t:T}{k:Key}{v:V}(e:keyT t=some k)(h:Nb K mg H F t v):v=kV k:=by
 cases t with
 | int i=>cases e;exact h
 | str i=>cases e;exact h
 | _=>cases e
theorem Zq.ints:∀{ts:ZZ} {vs:ZQ} {zs:ZL},Zq K mg H F ts vs->V4 ts=some zs->vs=zs.map V.int
 | [],vs,zs,h,e=>by cases e;exact h
 | t::ts,vs,zs,h,e=>by
  obtain⟨v,r,rfl,q,w⟩:=h;cases t with
  | int i =>
   obtain⟨K9,e1,rfl⟩:=Yx.mp (show (V4 ts).map (i::·)=some zs from e);rw[Zq.ints w e1];cases(show v=.int i from q)
   rfl
  | _=>cases e
theorem Zq.strs:∀{ts:ZZ} {vs:ZQ} {zs:ZD},Zq K mg H F ts vs->Mj ts=some zs->vs=zs.map V.str
 | [],vs,zs,h,e=>by cases e;exact h
 | t::ts,vs,zs,h,e=>by
  obtain⟨v,r,rfl,q,w⟩:=h;cases t with
  | str i =>
   obtain⟨K9,e1,rfl⟩:=Yx.mp (show (Mj ts).map (i::·)=some zs from e);rw[Zq.strs w e1];cases(show v=.str i from q)
   rfl
  | _=>cases e
end
theorem le_not(i j:Int):decide (i<=j)=!decide (j<i):=by rw[<-decide_not];exact decide_eq_decide.mpr Int.not_lt.symm
section
variable{X:Cx}{XM:ZY}{Z:L2.St}{H F G:Hp}{s:Shared}{Q:VK}{x y:V}{v u:Value}{t t':T}
theorem Es{A:Around}{p:Addr}{XT:ZN}(ht:IsTup s.heap p XT)(hu:A.units<cLine)(fy:Gj y=true)(ry:RelV y u):SeqAt.RcAt A s (.ref p) u false/\SeqAt.RcNeAt A s (.ref p) u true/\SeqAt.EqAt A s (.ref p) u false:=by
 cases y with
 | non=>cases ry;exact⟨.tuple_none ht hu,.tuple_none ht hu,.tuple_none ht hu⟩
 | bl b=>cases ry;exact⟨.tuple_bool b ht hu,.tuple_bool b ht hu,.tuple_bool b ht hu⟩
 | int b=>obtain⟨t,rfl⟩:=ry;exact⟨.tuple_int b t ht hu,.tuple_int b t ht hu,.tuple_int b t ht hu⟩
 | str b=>obtain⟨t,rfl⟩:=ry;exact⟨.tuple_str b t ht hu,.tuple_str b t ht hu,.tuple_str b t ht hu⟩
 | _=>cases fy
theorem Zxr{r:Bool}(I:Inv X XM Z H s)(hu:X.A.units<cLine)(rx:RelV x v)(ry:RelV y u)(s1:Nb X.K X.mg H F t x)(s2:Nb X.K X.mg H F t' y)(h:eqT t t'=some r):SeqAt.RcAt X.A s v u r/\SeqAt.RcNeAt X.A s v u (!r):=by
 have s1:=see_is s1 (eq_sv h);obtain⟨fy,⟨fx,rfl⟩ | ⟨rfl,ts,rfl⟩⟩:=Zqy s1 s2 h
 .exact⟨rcEq_V rx ry fx fy,rcNe_V rx ry fx fy⟩
 .obtain⟨p,vs,rfl,sq,_⟩:=s1;cases rx;obtain⟨XT,_,tp,_⟩:=I.tuple sq;exact⟨(Es tp hu fy ry).1,(Es tp hu fy ry).2.1⟩
theorem Kz{A:Around}(I:Inv X XM Z H s)(hu:A.units<cLine)(rx:RelV x v)(s1:Nb X.K X.mg H F t x):∀{ts:ZZ} {vs:ZQ} {us:ZM} {r:Bool},Zq X.K X.mg H F ts vs->Zf vs us->Gm t ts=some r->(∀u∈us,SeqAt.EqAt A s u v (eqU x u))/\us.any (eqU x)=r
 | [],vs,us,r,h,q,e=>by cases(show vs=[] from h);cases q;cases e;exact⟨λu m=>absurd m Ve,rfl⟩
 | t1::ts,vs,us,r,h,q,e=>by
  obtain⟨y,w,rfl,h1,h2⟩:=h;cases q with | @cons _ u1 _ _ q1 q2 =>
  obtain⟨b,e1,e⟩:=ZI.mp (show (eqT t1 t).bind _=some r from e);obtain⟨r',e2,rfl⟩:=Yx.mp e;obtain⟨g1,g2⟩:=Kz I hu rx s1 h2 q2 e2
  have key:SeqAt.EqAt A s u1 v (eqU x u1)/\eqU x u1=b:=by
   obtain⟨fx,⟨f1,rfl⟩ | ⟨rfl,ts',rfl⟩⟩:=Zqy h1 s1 e1
   .rw[eqU_of q1 f1];exact⟨eqAt_V q1 rx f1 fx,rfl⟩
   .obtain⟨p,vs',rfl,sq,_⟩:=h1;cases q1;obtain⟨XT,_,tp,_⟩:=I.tuple sq;exact⟨(Es tp hu fx rx).2.2,rfl⟩
  refine⟨λu m=>?_,by rw[List.any_cons,key.2,g2]⟩;rcases Yf.mp m with rfl | m
  .exact key.1
  .exact g1 u m
theorem m5{ts:ZZ}{vs:ZQ}{p:Addr}{b:Bool}(I:Inv X XM Z H s)(un:X.A.units+150<cLine)(rx:RelV x v)(s1:Nb X.K X.mg H F t x)(ar:Zq X.K X.mg H F ts vs)(hq:V0 X.K H p vs\/Y1 X.K H p vs)(e:inF t ts=some b) :
  (Q (.bl b) H->wpAny (model X.prog X.w) X.A (compareOp .In v (.ref p)) (EP X XM Z Q) X.xe s)/\(Q (.bl (!b)) H->wpAny (model X.prog X.w) X.A (compareOp .NotIn v (.ref p)) (EP X XM Z Q) X.xe s):=by
 have h1:X.A.in1.units<cLine:=by show X.A.units+1<cLine;omega
 unfold inF at e
 split at e
 rotate_left
 .cases e
 rcases hq with hq | hq
 .obtain⟨XT,r,pl,_⟩:=I.list hq;obtain⟨g1,rfl⟩:=Kz I h1 rx s1 ar r e;exact⟨λq=>SeqAt.in_listAt _ pl.isList (λy m=>g1 y (by simpa using m)) ⟨.bl _,H,I,rfl,by rw[List.any_toArray];exact q⟩,λq=>SeqAt.notIn_listAt _ pl.isList (λy m=>g1 y (by simpa using m)) ⟨.bl _,H,I,rfl,by rw[List.any_toArray];exact q⟩⟩
 .obtain⟨XT,r,pl,_⟩:=I.tuple hq;obtain⟨g1,rfl⟩:=Kz I h1 rx s1 ar r e;exact⟨λq=>SeqAt.in_tupleAt _ pl (λy m=>g1 y (by simpa using m)) ⟨.bl _,H,I,rfl,by rw[List.any_toArray];exact q⟩,λq=>SeqAt.notIn_tupleAt _ pl (λy m=>g1 y (by simpa using m)) ⟨.bl _,H,I,rfl,by rw[List.any_toArray];exact q⟩⟩
theorem eq_nil{ts:ZZ}(I:Inv X XM Z H s)(un:X.A.units+150<cLine)(rx:RelV x v)(ry:RelV y u)(s1:Nb X.K X.mg H F (.tup ts) x)(s2:Nb X.K X.mg H F (.tup []) y) :
  (Q (.bl ts.isEmpty) H->wpAny (model X.prog X.w) X.A (compareOp .Eq v u) (EP X XM Z Q) X.xe s)/\(Q (.bl (!ts.isEmpty)) H->wpAny (model X.prog X.w) X.A (compareOp .NotEq v u) (EP X XM Z Q) X.xe s):=by
 obtain⟨a,vs,rfl,q1,_,a1⟩:=s1;obtain⟨b,ws,rfl,q2,_,a2⟩:=s2;cases(show ws=[] from a2);cases rx;cases ry;obtain⟨i1,r1,p1,_⟩:=I.tuple q1;obtain⟨i2,r2,p2,_⟩:=I.tuple q2;have e2:i2=[]:=by cases r2;rfl
 subst e2
 have ev:((List.range (min i1.toArray.size ([]:ZM).toArray.size)).all (λ_=>true)&&i1.toArray.size==([]:ZM).toArray.size)=ts.isEmpty:=by
  have l1:=a1.length;have l2:=r1.length;have l3:ts.length=i1.length:=l1.trans l2;cases ts with
  | nil=>cases i1 with
   | nil=>rfl
   | cons _ _=>simp at l3
  | cons _ _=>cases i1 with
   | nil=>simp at l3
   | cons _ _=>simp
 have hu:X.A.units<cLine:=XH
 exact⟨λq=>SeqAt.eq_tupleAt (e:=λ_=>true) p1 p2 hu (λj h1 h2=>absurd h2 XI) ⟨.bl _,H,I,rfl,by rw[ev];exact q⟩,
  λq=>SeqAt.RcNeAt.tuples (e:=λ_=>true) p1 p2 hu (λj h1 h2=>absurd h2 XI) X.prog X.w X.xe _ ⟨.bl _,H,I,rfl,by rw[ev];exact q⟩⟩
theorem N4{b:Bool}(c:Cm)(I:Inv X XM Z H s)(fh:∀a o,F a=some o->H a=some o)(un:X.A.units+150<cLine)(rx:RelV x v)(ry:RelV y u)(s1:Nb X.K X.mg H F t x)(s2:Nb X.K X.mg H F t' y)(e:Cd c t t'=some b)(q:Q (.bl b) H) :
  wpAny (model X.prog X.w) X.A (compareOp (G7 c) v u) (EP X XM Z Q) X.xe s:=by
 have pIn:∀{b:Bool},inT t t'=some b->(Q (.bl b) H->wpAny (model X.prog X.w) X.A (compareOp .In v u) (EP X XM Z Q) X.xe s)/\(Q (.bl (!b)) H->wpAny (model X.prog X.w) X.A (compareOp .NotIn v u) (EP X XM Z Q) X.xe s):=λ{b} e=>by
  unfold inT at e
  split at e
  .obtain⟨a,vs,rfl,q1,z,ar⟩:=s2;cases ry;exact m5 I un rx s1 ar (.inl (.inl q1)) e
  .obtain⟨a,vs,rfl,q1,z,ar⟩:=s2;cases ry;exact m5 I un rx s1 ar (.inr q1) e
  .rename_i XD _
   obtain⟨a,ks,rfl,q1,z,ar⟩:=s2;obtain⟨k,e1,rfl⟩:=Yx.mp e;cases Mu e1 s1;cases ry;have hu:X.A.units+1<cLine:=XH
   have g:Ng H a (kV k) (G0 ks k):=.inl ⟨ks,k,q1,rfl,rfl⟩;obtain⟨i1,i2⟩:=Zc.val k ar
   have es:(G0 ks k).isSome=(Zg XD k).isSome:=by
    cases e2:Zg XD k with
    | none=>rw[i2 e2];rfl
    | some t=>obtain⟨v,h1,_⟩:=i1 t e2;rw[h1];rfl
   exact⟨λq=>d_in hu I g rx λs' I'=>⟨.bl _,H,I',rfl,by rw[es];exact q⟩,λq=>Zz2 hu I g rx λs' I'=>⟨.bl _,H,I',rfl,by rw[es];exact q⟩⟩
  .cases e
 have pIs:∀{b:Bool},isT t t'=some b->(Q (.bl b) H->wpAny (model X.prog X.w) X.A (compareOp .Is v u) (EP X XM Z Q) X.xe s)/\(Q (.bl (!b)) H->wpAny (model X.prog X.w) X.A (compareOp .IsNot v u) (EP X XM Z Q) X.xe s):=λ{b} e=>by
  unfold isT at e
  split at e
  .cases e;cases(show x=_ from s1);cases(show y=_ from s2);exact⟨λq=>g9 XM s Z H _ _ v u Q I rx ry ⟨rfl,q⟩,λq=>Ah XM s Z H _ _ v u Q I rx ry ⟨rfl,q⟩⟩
  .rename_i n1 n2
   cases e;cases(show y=_ from s2)
   have ne:x≠.non:=λz=>by
    subst z;cases t with
    | non=>first | exact n1 rfl | exact n2 rfl
    | tup _=>obtain⟨_,_,z,_⟩:=s1;cases z
    | lst _=>obtain⟨_,_,z,_⟩:=s1;cases z
    | dct _=>obtain⟨_,_,z,_⟩:=s1;cases z
    | fn _=>obtain⟨_,z,_⟩:=s1;cases z
    | _=>cases(show V.non=_ from s1)
   exact⟨λq=>g9 XM s Z H _ _ v u Q I rx ry ⟨rfl,by rw[Gr ne];exact q⟩,λq=>Ah XM s Z H _ _ v u Q I rx ry ⟨rfl,by rw[Gr ne];exact q⟩⟩
  .cases e
 cases c with
 | eq =>
  have e:eqL t t'=some b:=e;unfold eqL at e
  split at e
  .cases e;obtain⟨a,vs,rfl,q1,_,a1⟩:=s1;obtain⟨c,ws,rfl,q2,_,a2⟩:=s2;cases(show ws=[] from a2);refine fq XM s Z H _ _ v u Q I rx ry ⟨a,c,vs,rfl,rfl,.inl q1,.inl q2,by omega,?_⟩;rw[<-Zze a1.length];exact q
  .unfold eqC at e
   split at e
   .cases e;exact(eq_nil I un rx ry s1 s2).1 q
   .exact(Zxr I XH rx ry s1 s2 e).1 X.prog X.w X.xe _ ⟨.bl _,H,I,rfl,q⟩
 | ne =>
  have e:(eqC t t').map not=some b:=e;obtain⟨r,e1,rfl⟩:=Yx.mp e
  clear e
  unfold eqC at e1
  split at e1
  .cases e1;exact(eq_nil I un rx ry s1 s2).2 q
  .exact(Zxr I XH rx ry s1 s2 e1).2 X.prog X.w X.xe _ ⟨.bl _,H,I,rfl,q⟩
 | lt =>
  have e:ia t t'=some b:=e;unfold ia at e
  split at e
  .cases e;cases(show x=_ from s1);cases(show y=_ from s2);exact op_lt XM s Z H _ _ v u Q I rx ry ⟨_,_,rfl,rfl,q⟩
  .cases e
 | gt =>
  have e:ia t' t=some b:=e;unfold ia at e
  split at e
  .cases e;cases(show x=_ from s1);cases(show y=_ from s2);exact op_gt XM s Z H _ _ v u Q I rx ry ⟨_,_,rfl,rfl,q⟩
  .cases e
 | le =>
  have e:(ia t' t).map not=some b:=e;obtain⟨b',e2,rfl⟩:=Yx.mp e
  clear e
  unfold ia at e2
  split at e2
  .cases e2;cases(show x=_ from s1);cases(show y=_ from s2);refine op_le XM s Z H _ _ v u Q I rx ry ⟨_,_,rfl,rfl,?_⟩;exact(le_not _ _).symm ▸ q
  .cases e2
 | ge =>
  have e:geT t t'=some b:=e;unfold geT at e
  split at e
  .cases e;cases(show x=_ from s1);cases(show y=_ from s2);exact op_ge XM s Z H _ _ v u Q I rx ry ⟨_,_,rfl,rfl,q⟩
  .cases e
 | isin=>exact(pIn e).1 q
 | notin =>
  have e:(inT t t').map not=some b:=e;obtain⟨b',e2,rfl⟩:=Yx.mp e;exact(pIn e2).2 q
 | is=>exact(pIs e).1 q
 | isnt =>
  have e:(isT t t').map not=some b:=e;obtain⟨b',e2,rfl⟩:=Yx.mp e;exact(pIs e2).2 q
end
section
variable{X:Cx}{XM:ZY}{Z:L2.St}{H F₀ G:Hp}{s:Shared}{Q:VK}{x y:V}{v u:Value}{t t':T}{p:P}
theorem lstR{l:Addr}{xs:ZQ}(I:Inv X XM Z H s)(r:Rd H l (.lst xs)):xs.length<=sizeLine/\∃(XT:ZM) (n:Nat),Zf xs XT/\xs.length=XT.length/\s.heap.get? l=some { cls:=.type "list",data:=.seq XT.toArray n }:=by
 obtain⟨z,XT,n,r,e⟩:=r.ok I.hok;exact⟨z,XT,n,r,r.length,e⟩
theorem o7{l b:Addr}{xs zs:ZQ}(I:Inv X XM Z H s)(hH:Rd H l (.lst xs))(hB:Rd H b (.lst zs))(hz:xs.length+zs.length<=sizeLine)(q:∀p,H p=none->Q (.ref p) (upd H p (.lst (xs++zs)))) :
  wpAny (model X.prog X.w) X.A (binaryOp .Add (.ref l) (.ref b)) (EP X XM Z Q) X.xe s:=by
 obtain⟨z,XT,n,r,hl,e⟩:=lstR I hH;obtain⟨z2,its2,n2,r2,hl2,e2⟩:=lstR I hB;refine PySem.P.add_list e e2 ?_ (by rw[Jh,Jh];omega);have ea:XT.toArray++its2.toArray=(XT++its2).toArray:=by simp
 rw[ea];exact⟨.ref _,_,I.lnew (t':=s.toks) (r.append r2) (by rw[Qw];omega),rfl,q _ I.fresh⟩
theorem gi{i:Str}{n:Int}{w w':Tok}(I:Inv X XM Z H s)(n0:0<=n)(n1:n<=1000)(i1:i.length<=1000)(q:Q (.str (repS i n.toNat)) H):wpAny (model X.prog X.w) X.A (binaryOp .Mult (.str i w) (.int n w')) (EP X XM Z Q) X.xe s:=by
 by_cases c1:n<1
 .have:n=0:=XH
  subst this;refine PySem.P.mul_str_none XA XA ⟨.str Str.empty,H,I.tok _,⟨_,rfl⟩,?_⟩;exact q
 by_cases c2:(n==1 || i.length==0)=true
 .have e:repS i n.toNat=i:=by
   rw[Bool.or_eq_true,beq_iff_eq,beq_iff_eq]at c2
   have:(repS i n.toNat).cps.toList=i.cps.toList:=by
    rw[Dr];rcases c2 with rfl | c2
    .simp
    .have:i.cps.toList=[]:=by
      have:i.cps.size=0:=c2;exact List.eq_nil_of_length_eq_zero (by simpa using this)
     rw[this];simp
   cases i;cases hr:repS _ n.toNat;rw[hr]at this;simp at this;simp[this]
  rw[e]at q;refine PySem.P.mul_str ?_ (λ_ z=>?_) (λ_ z=>?_) ?_
  .rw[Bool.or_eq_false_iff];exact⟨Gr XH,Gr XH⟩
  .rw[c2]at z;cases z
  .rw[c2]at z;cases z
  .rw[if_neg c1,if_pos c2];exact⟨.str i,H,I,⟨_,rfl⟩,q⟩
 .rw[Bool.or_eq_true,beq_iff_eq,beq_iff_eq]at c2;exact oi XM s Z H (.str i) (.int n) _ _ Q I ⟨w,rfl⟩ ⟨w',rfl⟩ ⟨i,n,rfl,rfl,by omega,n1,λz=>c2 (.inr z),i1,q⟩
def Fin(X:Cx)(F G:Hp)(p:P)(Z:L2.St)(H:Hp)(r:Sl)(Q:VK):Prop:=∀F' H' v,Le F F'->Up X.K H H'->Rel X.K X.mg F' G p Z H'->Res X.K X.mg F' G p Z H' r v->Q v H'
theorem Fin.f{r:T}(k:Fin X F G p Z H (.f r) Q)(rel:Rel X.K X.mg F G p Z H){H':Hp}{v:V}(s:Zn H H')(h:IsT X.K X.mg H' F r v):Q v H':=k F H' v (Le.refl F) s.up (rel.same s) h
theorem Fin.h{r:T}(k:Fin X F G p Z H (.f r) Q)(rel:Rel X.K X.mg F G p Z H){v:V}(h:IsT X.K X.mg H F r v):Q v H:=k.f rel (Zn.refl H) h
theorem Fin.l{ts:ZZ}(k:Fin X F G p Z H (.o (.lst ts)) Q)(rel:Rel X.K X.mg F G p Z H){l:Addr}{vs:ZQ}(hl:H l=none)(z:vs.length<=sizeLine)(h:Zq X.K X.mg H F ts vs):Q (.ref l) (upd H l (.lst vs)) :=
 let ⟨a,b⟩:=rel.newL hl z h
 k F _ _ (Le.refl F) (Zn.lay hl).up a b
theorem Cj{f:Int->Int->Option Sl}{t t':T}{r:Sl}(e:Zzk f t t'=some r):∃a b,t=.int a/\t'=.int b/\f a b=some r:=by
 cases t with
 | int a=>cases t' with
  | int b=>exact⟨a,b,rfl,rfl,e⟩
  | _=>cases e
 | _=>cases e
theorem Gz{c:Prop}[Decidable c]{x r:Sl}(e:(if c then some x else none)=some r):c/\x=r:=by
 by_cases h:c
 .rw[if_pos h]at e;exact⟨h,Je e⟩
 .rw[if_neg h]at e;cases e
theorem op_run{r:Sl}{σ':L2.St}(o:Op)(I:Inv X XM σ' H s)(rel:Rel X.K X.mg F G p Z H)(rx:RelV x v)(ry:RelV y u)(s1:Nb X.K X.mg H F t x)(s2:Nb X.K X.mg H F t' y)(e:opT o t t'=some r)(q:Fin X F G p Z H r Q) :
  wpAny (model X.prog X.w) X.A (binaryOp (opOf o) v u) (EP X XM σ' Q) X.xe s:=by
 cases o with
 | add=>cases t with
  | int a=>cases t' with
   | int b =>
    cases e;cases(show x=_ from s1);cases(show y=_ from s2);exact op_add XM s σ' H _ _ v u Q I rx ry ⟨_,_,rfl,rfl,q.h rel rfl⟩
   | _=>cases e
  | str a=>cases t' with
   | str b =>
    obtain⟨hz,rfl⟩:=Gz e;cases(show x=_ from s1);cases(show y=_ from s2);exact Ei XM s σ' H _ _ v u Q I rx ry ⟨_,_,rfl,rfl,hz,q.h rel rfl⟩
   | _=>cases e
  | lst a=>cases t' with
   | lst b =>
    obtain⟨hz,rfl⟩:=Gz e;obtain⟨a,vs,rfl,h1,z1,Gb⟩:=s1;obtain⟨b,us,rfl,h2,z2,Bi⟩:=s2;cases rx;cases ry;have l1:=Gb.length;have l2:=Bi.length;exact o7 I h1 h2 XH λl hl=>q.l rel hl (by rw[Qw];omega) (Gb.append Bi)
   | _=>cases e
  | tup a=>cases t' with
   | tup b =>
    obtain⟨hz,rfl⟩:=Gz e;obtain⟨a,vs,rfl,h1,z1,Gb⟩:=s1;obtain⟨b,us,rfl,h2,z2,Bi⟩:=s2;have l1:=Gb.length;have l2:=Bi.length;exact o8 XM s σ' H _ _ v u Q I rx ry ⟨a,b,vs,us,rfl,rfl,h1,h2,by omega,λl H' sm hq=>q.f rel sm ⟨l,_,rfl,hq,by rw[Qw];omega,(Zq.up sm.up (Le.refl F) _ _ Gb).append (Zq.up sm.up (Le.refl F) _ _ Bi)⟩⟩
   | _=>cases e
  | bl a=>cases t' with
   | int b =>
    cases e;cases(show x=_ from s1);cases(show y=_ from s2);exact TNM.zw XM s σ' H _ _ v u Q I rx ry ⟨_,_,rfl,rfl,q.h rel rfl⟩
   | _=>cases e
  | _=>cases e
 | sub=>cases e
 | mul=>cases t with
  | int a=>cases t' with
   | int b =>
    obtain⟨hz,rfl⟩:=Gz e;cases(show x=_ from s1);cases(show y=_ from s2);exact op_mul XM s σ' H _ _ v u Q I rx ry ⟨_,_,rfl,rfl,hz,q.h rel rfl⟩
   | _=>cases e
  | str a=>cases t' with
   | int b =>
    obtain⟨hz,rfl⟩:=Gz e;cases(show x=_ from s1);cases(show y=_ from s2);obtain⟨_,rfl⟩:=rx;obtain⟨_,rfl⟩:=ry;exact gi I hz.1 hz.2.1 hz.2.2 (q.h rel rfl)
   | _=>cases e
  | _=>cases e
 | fdiv =>
  obtain⟨a,b,rfl,rfl,e⟩:=Cj e;obtain⟨hz,rfl⟩:=Gz e;cases(show x=_ from s1);cases(show y=_ from s2);exact o5 XM s σ' H _ _ v u Q I rx ry ⟨_,_,rfl,rfl,hz,q.h rel rfl⟩
 | mod =>
  obtain⟨a,b,rfl,rfl,e⟩:=Cj e;obtain⟨hz,rfl⟩:=Gz e;cases(show x=_ from s1);cases(show y=_ from s2);exact op_mod XM s σ' H _ _ v u Q I rx ry ⟨_,_,rfl,rfl,hz,q.h rel rfl⟩
 | pow =>
  obtain⟨a,b,rfl,rfl,e⟩:=Cj e;obtain⟨hz,rfl⟩:=Gz e;cases(show x=_ from s1);cases(show y=_ from s2);exact op_pow XM s σ' H _ _ v u Q I rx ry ⟨_,_,rfl,rfl,hz,q.h rel rfl⟩
end
section
variable{K:W.Frag}{mg:ZV}{H F G:Hp}
theorem Zc.map{k:Key}{t:T}{v:V}(h:IsT K mg H F t v):∀{XD:ZX} {ks:List (Key×V)},Zc K mg H F XD ks->Zc K mg H F (XD.map λp=>if p.1=k then (p.1,t) else p) (ks.map λp=>if p.1=k then (p.1,v) else p)
 | [],ks,a=>by cases(show ks=[] from a);rfl
 | (k',t')::XD,ks,a=>by
  obtain⟨⟨k2,v'⟩,r,rfl,⟨e,h1⟩,h2⟩:=a;obtain rfl:k2=k':=e;rw[D2,D2];refine⟨_,_,rfl,?_,Zc.map h h2⟩;by_cases q:k2=k
  .rw[if_pos (show (k2,t').1=k from q),if_pos (show (k2,v').1=k from q)];exact⟨rfl,h⟩
  .rw[if_neg (show ¬ (k2,t').1=k from q),if_neg (show ¬ (k2,v').1=k from q)];exact⟨rfl,h1⟩
theorem Zc.any{k:Key}:∀{XD:ZX} {ks:List (Key×V)},Zc K mg H F XD ks->(XD.any λp=>decide (p.1=k))=ks.any λp=>decide (p.1=k)
 | [],ks,a=>by cases(show ks=[] from a);rfl
 | (k',t')::XD,ks,a=>by
  obtain⟨⟨k2,v'⟩,r,rfl,⟨e,h1⟩,h2⟩:=a;obtain rfl:k2=k':=e;rw[List.any_cons,List.any_cons,Zc.any h2]
theorem Zc.snoc{k:Key}{t:T}{v:V}(h:IsT K mg H F t v):∀{XD:ZX} {ks:List (Key×V)},Zc K mg H F XD ks->Zc K mg H F (XD++[(k,t)]) (ks++[(k,v)])
 | [],ks,a=>by cases(show ks=[] from a);exact⟨_,_,rfl,⟨rfl,h⟩,rfl⟩
 | p::XD,ks,a=>by
  obtain⟨q,r,rfl,h1,h2⟩:=a;exact⟨q,_,rfl,h1,Zc.snoc h h2⟩
theorem Zc.put{k:Key}{t:T}{v:V}(h:IsT K mg H F t v){XD:ZX}{ks:List (Key×V)}(a:Zc K mg H F XD ks):Zc K mg H F (Yw XD k t) (putK ks k v):=by
 unfold Yw putK;rw[<-Zc.any a]
 split
 .exact Zc.map h a
 .exact Zc.snoc h a
theorem Zc.keys:∀{XD:ZX} {ks:List (Key×V)},Zc K mg H F XD ks->XD.map (·.1)=ks.map (·.1)
 | [],ks,h=>by cases(show ks=[] from h);rfl
 | (k,t)::XD,ks,h=>by
  obtain⟨q,r,rfl,⟨e,_⟩,h2⟩:=h;rw[D2,D2,Zc.keys h2,e]
theorem A8(k:Key):IsT K mg H F (G1 k) (kV k):=by cases k<;>rfl
theorem Zc.keyT{XD:ZX}{ks:List (Key×V)}(h:Zc K mg H F XD ks):Zq K mg H F (XD.map λp=>G1 p.1) (ks.map λp=>kV p.1):=by
 have go:∀l:List Key,Zq K mg H F (l.map G1) (l.map kV):=λl=>by
  induction l with
  | nil=>rfl
  | cons k r ih=>exact⟨_,_,rfl,A8 k,ih⟩
 have e:=h.keys;have:=go (XD.map (·.1));rw[List.map_map,List.map_map]at this
 have e2:(ks.map λp=>kV p.1)=(XD.map λp=>kV p.1):=by
  have:=congrArg (List.map kV) e;rw[List.map_map,List.map_map]at this;exact this.symm
 rw[e2];exact this
theorem Sz:∀(zs:ZL),Zq K mg H F (zs.map T.int) (zs.map V.int)
 | []=>rfl
 | _::zs=>⟨_,_,rfl,rfl,Sz zs⟩
theorem O9:∀(zs:ZD),Zq K mg H F (zs.map T.str) (zs.map V.str)
 | []=>rfl
 | _::zs=>⟨_,_,rfl,rfl,O9 zs⟩
theorem Zq.pairs:∀{ts:ZZ} {vs:ZQ} {XD:ZX},Zq K mg H F ts vs->Ug ts=some XD->∃ks:List (Key×V),Zc K mg H F XD ks/\vs.length=ks.length/\∀(j:Nat) (k:Key) (v:V),ks[j]?=some (k,v)->∃p,vs[j]?=some (.ref p)/\Y1 K H p [kV k,v]
 | [],vs,XD,h,e=>by
  cases e;cases(show vs=[] from h);exact⟨[],rfl,rfl,λj k v e=>by simp at e⟩
 | t::ts,vs,XD,h,e=>by
  obtain⟨v,r,rfl,q,w⟩:=h;unfold Ug at e
  split at e
  .rename_i e0;cases e0
  .rename_i a b r' e0
   cases e0;obtain⟨k,ek,e2⟩:=ZI.mp e;obtain⟨Vb,e1,rfl⟩:=Yx.mp e2;obtain⟨ks,g1,g2,g3⟩:=Zq.pairs w e1;obtain⟨p,us,rfl,sq,_,ar⟩:=q;obtain⟨u1,r1,rfl,i1,ar⟩:=ar;obtain⟨u2,r2,rfl,i2,ar⟩:=ar;cases(show r2=[] from ar)
   have:u1=kV k:=by
    unfold keyT at ek
    split at ek<;>cases ek<;>exact i1
   subst this;refine⟨(k,u2)::ks,⟨_,_,rfl,⟨rfl,i2⟩,g1⟩,by simp[g2],λj k' v' e=>?_⟩;cases j with
   | zero=>cases(show some (k,u2)=some (k',v') from e);exact⟨p,rfl,sq⟩
   | succ j=>exact g3 j k' v' e
  .cases e
theorem Zc.fold:∀{XD:ZX} {ks:List (Key×V)} {a:ZX} {b:List (Key×V)},Zc K mg H F XD ks->Zc K mg H F a b->Zc K mg H F (XD.foldl (λacc kv=>Yw acc kv.1 kv.2) a) (ks.foldl (λacc kv=>putK acc kv.1 kv.2) b)
 | [],ks,a,b,h,h'=>by cases(show ks=[] from h);exact h'
 | (k,t)::XD,ks,a,b,h,h'=>by
  obtain⟨⟨k2,v⟩,r,rfl,⟨e,h1⟩,h2⟩:=h;obtain rfl:k2=k:=e;rw[List.foldl_cons,List.foldl_cons];exact Zc.fold h2 (Zc.put h1 h')
theorem vq{X:Cx}{F₁ H₁:Hp}{ts us:ZZ}{vs:ZQ}(h:Zq X.K X.mg H₁ F₁ ts vs)(e:W6 ts=some us):∃ws,SRT.qx X H₁ vs ws/\Zq X.K X.mg H₁ F₁ us ws/\ws.length<64:=by
 unfold W6 at e
 split at e
 .rename_i hz
  split at e
  .rename_i zs e1
   cases e;have e2:=h.ints e1;have hl:zs.length<64:=by rw[h.length,e2,Yc]at hz;exact hz
   subst e2;exact⟨_,SRT.Xh hl,Sz _,by rw[Yc,(SRT.Gh zs).length_eq];exact hl⟩
  .obtain⟨zs,e1,rfl⟩:=Yx.mp e;have e2:=h.strs e1;have hl:zs.length<64:=by rw[h.length,e2,Yc]at hz;exact hz
   subst e2;exact⟨_,SRT.Xs hl,O9 _,by rw[Yc,(SRT.Ys zs).length_eq];exact hl⟩
 .cases e
theorem Zq.heads:∀{ts:ZZ} {vs:ZQ} {hs:ZL},Zq K mg H F ts vs->Ud ts=some hs->ts.length=hs.length/\∀i,i<vs.length->∃b ws,vs.getD i .non=.ref b/\Y1 K H b (.int (hs.getD i 0)::ws)
 | [],vs,hs,h,e=>by cases e;cases(show vs=[] from h);exact⟨rfl,λi hi=>absurd hi XI⟩
 | t::ts,vs,hs,h,e=>by
  obtain⟨v,r,rfl,q,w⟩:=h;unfold Ud at e
  split at e
  .rename_i e0;cases e0
  .rename_i i0 tr r' e0
   cases e0;obtain⟨Qq,e1,rfl⟩:=Yx.mp e;obtain⟨g1,g2⟩:=Zq.heads w e1;obtain⟨b,us,rfl,sq,_,ar⟩:=q;obtain⟨u1,r1,rfl,i1,ar⟩:=ar;cases(show u1=.int i0 from i1);refine⟨by simp[g1],λi hi=>?_⟩;cases i with
   | zero=>exact⟨b,r1,rfl,sq⟩
   | succ i=>simpa using g2 i (by simpa using hi)
  .cases e
theorem Zq.pick{ts:ZZ}{vs:ZQ}(h:Zq K mg H F ts vs):∀(p:List Nat),(∀i∈p,i<ts.length)->Zq K mg H F (p.map λi=>ts.getD i .non) (p.map λi=>vs.getD i .non)
 | [],_=>rfl
 | i::p,g=>by
  have hi:=g i Yu;obtain⟨v,e1,h2⟩:=h.get (D4 hi);refine⟨_,_,rfl,?_,Zq.pick h p λj m=>g j (Y3 _ m)⟩;show IsT K mg H F (ts.getD i .non) (vs.getD i .non);rw[List.getD_eq_getElem?_getD,List.getD_eq_getElem?_getD,e1,D4 hi];exact h2
end
section
variable{X:Cx}{XM:ZY}{Z:L2.St}{H F:Hp}{s:Shared}
def Shw(X:Cx)(s:Shared)(u:Value)(d:PyData):Prop:=∃as bs,Reads s.heap u d as/\ReadAtMost s.heap d.depth bs/\ReprK X.prog X.w bs s.heap d.depth u d.shown
def Fi(X:Cx)(s:Shared)(us:ZM)(ds:List PyData):Prop:=∃as bs,ReadsAll s.heap us ds as/\ReadAtMost s.heap (PyData.depthAll ds) bs/\ReprAllK X.prog X.w bs s.heap (PyData.depthAll ds) us (PyData.shownAll ds)
theorem Fi.cons{u:Value}{d:PyData}{us:ZM}{ds:List PyData}(h:Shw X s u d)(h':Fi X s us ds):Fi X s (u::us) (d::ds):=by
 obtain⟨a1,b1,r1,m1,k1⟩:=h;obtain⟨a2,b2,r2,m2,k2⟩:=h';refine⟨_,b1++b2,.cons r1 r2,?_,?_⟩
 .simp only[PyData.depthAll];exact(m1.mono (Nat.le_max_left _ _)).append (m2.mono (Nat.le_max_right _ _))
 .simp only[PyData.depthAll,PyData.shownAll];exact .cons ((k1.more λb hb=>List.mem_append_left _ hb).level_le (Nat.le_max_left _ _)) (k2.more_le (λb hb=>nk _ hb) (Nat.le_max_right _ _))
theorem Fi.nil:Fi X s [] []:=⟨_,[],.nil,(λ_ h=>nomatch h),by simp only[PyData.shownAll];exact .nil⟩
theorem Mv{u:Value}{d:PyData}(r:Reads s.heap u d [])(hs:d.showable=true)(hz:d.shown.length<=sizeLine):Shw X s u d:=by
 obtain⟨bs,m,k⟩:=ReprK.of_reads (prog:=X.prog) (w:=X.w) r hs (λ_ h=>nomatch h) hz;exact⟨[],bs,r,m,k⟩
theorem uc{a:Addr}{XT:ZM}{ds:List PyData}(h:IsTup s.heap a XT.toArray)(c:Fi X s XT ds):Shw X s (.ref a) (.tuple ds):=by
 obtain⟨as,bs,r1,m1,k1⟩:=c;obtain⟨o,h1,h2,n,h3⟩:=h;have r:Reads s.heap (.ref a) (.tuple ds) _:=.tuple h1 h2 h3 (by simpa using r1);have hna:a∉bs:=not_mem_of_deeper r (by simp only[PyData.depth];omega) m1;refine⟨_,a::bs,r,ReadAtMost.cons r (by simp only[PyData.depth];omega) m1,?_⟩;simp only[PyData.depth,PyData.shown];exact ReprK.tuple h1 h2 h3 hna (by simpa using k1)
end
section
variable{X:Cx}{XM:ZY}{Z:L2.St}{H F:Hp}{s:Shared}
mutual
theorem shw_T(I:Inv X XM Z H s)(fh:∀a o,F a=some o->H a=some o):∀(t:T) (v:V) (u:Value) (d:PyData),IsT X.K X.mg H F t v->RelV v u->toPy t=some d->d.showable=true->d.shown.length<=sizeLine->Shw X s u d
 | .non,v,u,d,h,r,e,hs,hz=>by cases e;cases(show v=_ from h);cases r;exact Mv .none hs hz
 | .bl b,v,u,d,h,r,e,hs,hz=>by cases e;cases(show v=_ from h);cases r;exact Mv (.bool b) hs hz
 | .int b,v,u,d,h,r,e,hs,hz=>by cases e;cases(show v=_ from h);obtain⟨t,rfl⟩:=r;exact Mv (.int b t) hs hz
 | .str b,v,u,d,h,r,e,hs,hz=>by cases e;cases(show v=_ from h);obtain⟨t,rfl⟩:=r;exact Mv (.str b t) hs hz
 | .tup ts,v,u,d,h,r,e,hs,hz=>by
  obtain⟨ds,e1,rfl⟩:=Yx.mp (show (Dj ts).map .tuple=some d by unfold toPy at e;exact e);obtain⟨a,vs,rfl,q,_,ar⟩:=h;cases r;obtain⟨XT,rv,tp,_⟩:=I.tuple q;have hz':(tupleText (PyData.shownAll ds)).length<=sizeLine:=by simpa only [PyData.shown] using hz
  exact uc tp (Ef I fh ts vs XT ds ar rv e1 (by simpa [PyData.showable] using hs) λt m=>D0 (tupleText_mem_le m) hz')
 | .lst _,v,u,d,h,r,e,hs,hz=>by unfold toPy at e;cases e
 | .dct _,v,u,d,h,r,e,hs,hz=>by unfold toPy at e;cases e
 | .fn _,v,u,d,h,r,e,hs,hz=>by unfold toPy at e;cases e
theorem Ef(I:Inv X XM Z H s)(fh:∀a o,F a=some o->H a=some o):∀(ts:ZZ) (vs:ZQ) (us:ZM) (ds:List PyData),Zq X.K X.mg H F ts vs->Zf vs us->Dj ts=some ds->PyData.showableAll ds=true->(∀t∈PyData.shownAll ds,t.length<=sizeLine)->Fi X s us ds
 | [],vs,us,ds,h,r,e,hs,hz=>by
  unfold Dj at e;cases e;cases(show vs=[] from h);cases r;exact Fi.nil
 | t::ts,vs,us,ds,h,r,e,hs,hz=>by
  unfold Dj at e;obtain⟨d,e1,e⟩:=ZI.mp e;obtain⟨ds',e2,rfl⟩:=Yx.mp e;obtain⟨v,vr,rfl,i1,i2⟩:=h;cases r with | cons r1 r2 =>
  have Qq:d.showable=true/\PyData.showableAll ds'=true:=by simpa [PyData.showableAll] using hs
  exact Fi.cons (shw_T I fh t v _ d i1 r1 e1 Qq.1 (hz _ (by simp only[PyData.shownAll];exact Yu ..))) (Ef I fh ts vr _ ds' i2 r2 e2 Qq.2 λt m=>hz t (by simp only[PyData.shownAll];exact Y3 _ m))
end
end
section
variable{X:Cx}{XM:ZY}{Z:L2.St}{H F:Hp}{s:Shared}{Q:VK}{x:V}{u:Value}{t:T}
theorem yw{z:Str}(I:Inv X XM Z H s)(fh:∀a o,F a=some o->H a=some o)(un:X.A.units+150<cLine)(gd:X.A.guards=some [])(rx:RelV x u)(s1:Nb X.K X.mg H F t x)(e:rpT t=some z)(q:Q (.str z) H) :
  wpAny (model X.prog X.w) X.A (call (.builtin "repr") [u]) (EP X XM Z Q) X.xe s:=by
 unfold rpT at e;obtain⟨d,e1,e⟩:=ZI.mp e
 split at e
 .rename_i hh
  cases e;obtain⟨hs,hz,hd⟩:=hh;have fin:∀tk:Nat,EP X XM Z Q (.str d.shown s.toks) { s with toks:=tk }:=λtk=>⟨.str _,H,I.tok _,⟨_,rfl⟩,q⟩;have fin':∀h' u tk,(∀b o,s.heap.get? b=some o->h'.get? b=some o)->∃x t,Value.str d.shown u=.str x t/\EP X XM Z Q (.str d.shown u) { s with heap:=h',toks:=tk }:=λh' u tk k=>⟨_,u,rfl,.str _,H,I.kept k,⟨u,rfl⟩,q⟩;cases t with
  | non=>cases e1;cases(show x=_ from s1);cases rx;exact P.repr_of_none (fin _)
  | bl b=>cases e1;cases(show x=_ from s1);cases rx;simp only[PyData.shown]at fin;exact P.repr_of_bool (fin _)
  | int i =>
   cases e1;cases(show x=_ from s1);obtain⟨w,rfl⟩:=rx;simp only[PyData.shown]at fin;exact P.repr_of_int (by simpa [PyData.showable] using hs) (fin _)
  | str i =>
   cases e1;cases(show x=_ from s1);obtain⟨w,rfl⟩:=rx;simp only[PyData.shown]at fin hz;exact P.repr_of_str (fin _) hz
  | tup ts =>
   obtain⟨ds,e2,rfl⟩:=Yx.mp (show (Dj ts).map .tuple=some d by unfold toPy at e1;exact e1);obtain⟨a,vs,rfl,q1,_,ar⟩:=s1;cases rx;obtain⟨XT,rv,tp,_⟩:=I.tuple q1;have hz':(tupleText (PyData.shownAll ds)).length<=sizeLine:=by simpa only [PyData.shown] using hz
   have c:=Ef I fh ts vs XT ds ar rv e2 (by simpa [PyData.showable] using hs) λt m=>D0 (tupleText_mem_le m) hz';obtain⟨as,bs,r1,m1,k1⟩:=c;obtain⟨o,h1,h2,n,h3⟩:=tp;have r:Reads s.heap (.ref a) (.tuple ds) _:=.tuple h1 h2 h3 (by simpa using r1);have hna:a∉bs:=not_mem_of_deeper r (by simp only[PyData.depth];omega) m1;simp only[PyData.depth]at hd;simp only[PyData.shown]at fin';exact call_repr_slot XH ⟨o,h1,h2⟩ PySem.F.slot_tuple_repr (call_tuple_reprK h1 h2 h3 hna (by simpa using k1) (g:=[]) gd (λb _=>Clear.nil b) (by show X.A.units+1+_<_;omega) (λ_ _ e=>e) (λh' u tk k=>fin' h' u tk k) hz')
  | lst _=>unfold toPy at e1;cases e1
  | dct _=>unfold toPy at e1;cases e1
  | fn _=>unfold toPy at e1;cases e1
 .cases e
end
section
variable{X:Cx}
theorem Aa{ns:ZL}{XT:ZM}(rv:Zf (ns.map V.int) XT):∃zs:Array (Int×Tok),XT.toArray=intItems zs/\zs.toList.map (·.1)=ns:=by
 have hi:=intsAre_of rv;obtain⟨zs,e⟩:=hi.allInts.items;refine⟨zs,e,?_⟩;have b:=nums_intItems zs;rw[<-e]at b;exact b.symm.trans hi.numsOf
theorem Ai{zs:Array (Int×Tok)}{ns:ZL}(en:zs.toList.map (·.1)=ns){i:Nat}(hi:i<ns.length):numAt zs i∈ns:=by rw[numAt_eq,en];exact getD_mem hi
theorem fg{zs:Array (Int×Tok)}{ns:ZL}(en:zs.toList.map (·.1)=ns){m:Int}(hm:m∈ns):∃j,j<ns.length/\numAt zs j=m:=by
 obtain⟨j,hj,ej⟩:=mem_getD hm;exact⟨j,hj,by rw[numAt_eq,en];exact ej⟩
inductive Kr(R:Int->Int->Prop)(K:W.Frag)(xs:ZQ)(H:Hp)(Q:VK):Prop
 | mk(p:Addr)(ns:ZL)(m:Int)(h0:xs=[.ref p])(h1:V0 K H p (ns.map V.int))(h2:m∈ns)(h3:∀a∈ns,R a m)(h4:Q (.int m) H):Kr R K xs H Q
theorem x5(hc:X.calm=true):Yb X (.builtin "max") (Kr (λa m=>a<=m) X.K):=by
 intro XM s Z H xs us Q I r h;obtain⟨p,ns,m,rfl,hq,hm,hb,q⟩:=h;obtain⟨u,rfl,rx⟩:=vals1 r;cases rx;obtain⟨XT,rv,pl,hz⟩:=I.list hq;obtain⟨zs,e,en⟩:=Aa rv;have len:zs.size=ns.length:=by rw[<-en,Yc,qt]
 have pos:=List.length_pos_of_mem hm;refine max_intList (xs:=zs) (I.ok.hd hc) (by rw[<-e];exact pl.isList) XH λv h' tk hv hk=>?_;obtain⟨t,rfl⟩:=intItems_at hv;obtain⟨hi,top⟩:=argBest_gt (numAt zs) (zs.size-1);obtain⟨j,hj,ej⟩:=fg en hm;have h1:=top j XH;have h2:=hb _ (Ai en (i:=argBest (λi j=>decide (numAt zs i>numAt zs j)) (zs.size-1)) XH);exact⟨.int m,H,I.kept hk,⟨t,by rw[show numAt zs (argBest (λi j=>decide (numAt zs i>numAt zs j)) (zs.size-1))=m by omega]⟩,q⟩
theorem xi(hc:X.calm=true):Yb X (.builtin "min") (Kr (λa m=>m<=a) X.K):=by
 intro XM s Z H xs us Q I r h;obtain⟨p,ns,m,rfl,hq,hm,hb,q⟩:=h;obtain⟨u,rfl,rx⟩:=vals1 r;cases rx;obtain⟨XT,rv,pl,hz⟩:=I.list hq;obtain⟨zs,e,en⟩:=Aa rv;have len:zs.size=ns.length:=by rw[<-en,Yc,qt]
 have pos:=List.length_pos_of_mem hm;refine min_intList (xs:=zs) (I.ok.hd hc) (by rw[<-e];exact pl.isList) XH λv h' tk hv hk=>?_;obtain⟨t,rfl⟩:=intItems_at hv;obtain⟨hi,top⟩:=argBest_lt (numAt zs) (zs.size-1);obtain⟨j,hj,ej⟩:=fg en hm;have h1:=top j XH;have h2:=hb _ (Ai en (i:=argBest (λi j=>decide (numAt zs i<numAt zs j)) (zs.size-1)) XH);exact⟨.int m,H,I.kept hk,⟨t,by rw[show numAt zs (argBest (λi j=>decide (numAt zs i<numAt zs j)) (zs.size-1))=m by omega]⟩,q⟩
inductive m3(xs:ZQ)(H:Hp)(Q:VK):Prop
 | mk(x:Str)(n:Int)(h0:xs=[.str x])(h1:PySem.intText? x=some n)(h2:x.length<=640)(h3:Q (.int n) H):m3 xs H Q
theorem x8:Yb X (.type "int") m3:=by
 intro XM s Z H xs us Q I r h;obtain⟨x,n,rfl,hn,hl,q⟩:=h;obtain⟨u,rfl,t,rfl⟩:=vals1 r;exact W.KIN.call_text hn hl ⟨.int n,H,I.tok _,⟨_,rfl⟩,q⟩
end
end PV
namespace TLT
open PySem PySem.Calls PyProof.Rows SeqAt
noncomputable def Lx(b:Bool):List (Value×Value)->Prop
 | (.int i _,.int j _)::r=>if i=j then Lx b r else b=decide (i<j)
 | _=>False
theorem Lx.out{b:Bool}{l:List (Value×Value)}(h:Lx b l):∃i t j u r,l=(.int i t,.int j u)::r/\if i=j then Lx b r else b=decide (i<j):=by
 unfold Lx at h
 split at h
 .exact⟨_,_,_,_,_,rfl,h⟩
 .exact h.elim
theorem iu{prog:Program}{w:World}{A:Around}{E:ZW}{s:Shared}{Q:ZW}{i j:Int}{t u:Tok}(h:Q (.bool (decide (i<j))) s):wpAny (model prog w) A (richCompare .Lt (.int i t) (.int j u)) Q E s :=
 CmpOf.ints_lt (P:=λk v=>∃x,v=.int (if k=0 then i else j) x) (λk=>if k=0 then i else j) (λ_ _ e=>e) 0 1 _ _ s Q E ⟨t,rfl⟩ ⟨u,rfl⟩ h
theorem wc(l b:Addr)(items items2:ZN)(n n2:Nat)(dd dd2:ZP)(sl sl2:ZF)(c:Bool) :
  Meets (Builtin.«tuple.__lt__» ⟨[.ref l,.ref b],[]⟩)
   (λA R s=>s.heap.get? l=some { cls:=.type "tuple",dict:=dd,data:=.seq items n,slots:=sl }/\s.heap.get? b=some { cls:=.type "tuple",dict:=dd2,data:=.seq items2 n2,slots:=sl2 } /\
    Lx c (items.toList.zip items2.toList)/\R (.ok (.ret (.bool c))) s) :=
 .of_wp λprog w A R s h=>by
  obtain⟨hp,g,d,tk,os⟩:=s;obtain⟨hl,hb,lx,h⟩:=h;have f2:=AutoSeq1.sub_tuple_tuple
  wp_walk using wpAny_loadPart' hl,wpAny_loadPart' hb,wpAny_forIn_list _ (λrest b s'=>b.1=none/\s'=⟨hp,g,d,tk,os⟩/\Lx c rest) _
  case turn =>
   rintro⟨y,x⟩ rest b s' ⟨hb',rfl,lx⟩;obtain⟨i,t,j,u,r,e,g⟩:=lx.out;cases e;refine Zj (EqAt.int_int i t j u prog w _ _ ?_);by_cases Wd:i=j
   .rw[if_pos Wd]at g;rw[show (i==j)=true from beq_iff_eq.mpr Wd]
    wp_walk
    exact⟨rfl,rfl,g⟩
   .rw[if_neg Wd]at g;rw[show (i==j)=false from qd.mpr Wd]
    wp_walk using iu
    exact⟨_,rfl,g ▸ h⟩
  case fin =>
   rintro⟨b1,b2⟩ s' ⟨_,_,z⟩;exact z.elim
  case h=>exact⟨rfl,rfl,lx⟩
section
variable{prog:Program}{w:World}{A:Around}{E:ZW}{s:Shared}
theorem zf{l b:Addr}{items items2:ZN}{c:Bool}{Q:ZW}(hl:s.heap.IsTuple l items)(hb:s.heap.IsTuple b items2)(hu:A.units<cLine)(lx:Lx c (items.toList.zip items2.toList))(h:Q (.bool c) s):wpAny (model prog w) A (richCompare .Lt (.ref l) (.ref b)) Q E s:=by
 obtain⟨o,ho,hc,n,hd⟩:=hl;obtain⟨o2,Nf,hc2,n2,hd2⟩:=hb;cases o with | mk cls dd data sl =>
 cases o2 with | mk cls2 dd2 data2 sl2 =>
 cases hc;cases hd;cases hc2;cases hd2;have fin:Value.bool c≠Value.notImplemented/\Q (.bool c) s:=⟨λz=>(nomatch z),h⟩;exact richCompare_meets_room (op:=.Lt) ⟨_,ho,rfl⟩ ⟨_,Nf,rfl⟩ F.slot_tuple_lt F.entry_tuple_lt (F.args_tuple_lt_2 _ _) (wc l b items items2 n n2 dd dd2 sl sl2 c) ⟨ho,Nf,lx,fin⟩ hu
end
section
variable{prog:Program}{w:World}{A:Around}{R:Result->Shared->Prop}{I:Addr}{fp wr:ZU}{n:Nat}{P:Nat->Value->Prop}{St:Nat->Heap->Prop}
theorem I0(bt:Nat->Nat->Bool)(j:Nat):argBest bt j<=j:=by
 induction j with
 | zero=>exact Yk _
 | succ j ih =>
  show (if bt (j+1) (argBest bt j)=true then j+1 else argBest bt j)<=j+1
  split<;>omega
theorem E5(W:Walks prog w A.in1 I fp wr n P St){G:Heap->Prop}{bt:Nat->Nat->Bool}{S:Addr}(far:S∉fp)
  (keep:∀h h':Heap,G h->(∀b o,b∉wr->b≠S->h.get? b=some o->h'.get? b=some o)->G h')
  (ask:∀i j x y (s:Shared) (Q E:ZW),j<i->G s.heap->P i x->P j y->Q (.bool (bt i j)) s->wpAny (model prog w) A.in1 (richCompare .Lt x y) Q E s) :
  ∀(m j:Nat) (s:Shared) (best:Value) (c:Nat),n=j+1+m->G s.heap->St (j+1) s.heap->P (argBest bt j) best ->
  s.heap.get? S=some { cls:=.type "list",dict:=none,data:=.seq #[best,best] c,slots:=#[] } ->
  (∀v h' tk,P (argBest bt (n-1)) v->(∀b o,b∉wr->b≠S->s.heap.get? b=some o->h'.get? b=some o)->R (.ok (.ret v)) { s with heap:=h',toks:=tk }) ->
  codeAny (model prog w) A (.builtin "min.loop" ⟨[.ref I,.none,.ref S],[]⟩) R s:=by
 have out:S∉wr:=λz=>far (W.sub _ z);intro m
 induction m with
 | zero =>
  intro j s best c en gs st pb at0 fin;cases en;refine codeAny_builtin F.entry_min_loop ?_;rw[Around.under_plainId F.plain_min_loop _];refine Zj (wpAny_seqItems at0 rfl ?_);refine Zj (wpAny_tryCatch (W.done s _ _ st λh1 tk k1=>?_));have Vi:=k1 S _ out at0;refine Zj (wpAny_updateSeq Vi rfl (Zj (wpAny_letGo (Zr ?_))));exact fin best _ tk pb λb o hb hs e=>(Heap.get?_update_other _ _ (Ne.symm hs)).trans (k1 b o hb e)
 | succ m ih =>
  intro j s best c en gs st pb at0 fin;refine codeAny_builtin F.entry_min_loop ?_;rw[Around.under_plainId F.plain_min_loop _];refine Zj (wpAny_seqItems at0 rfl ?_);refine Zj (wpAny_tryCatch (W.item (j+1) s _ _ XH st λx h1 tk px st1 k1=>?_));have Vi:=k1 S _ out at0;have g1:G h1:=keep _ _ gs λb o hb _ e=>k1 b o hb e
  change wpAny _ _ (tryCatch (holding _ (richCompare CmpOp.Lt x best >>= _)) _ >>= _) _ _ _
  refine Zj (wpAny_tryCatch (wpAny_holding (Zj (ask (j+1) (argBest bt j) x best _ _ _ (Nat.lt_succ_of_le (I0 bt j)) g1 px pb ?_))));refine Zj (wpAny_holding (wpAny_truthy_bool ?_));refine Zj (wpAny_letGo (Zr ?_));have e1:argBest bt (j+1)=if bt (j+1) (argBest bt j)=true then j+1 else argBest bt j:=rfl
  cases hb:bt (j+1) (argBest bt j) with
  | true =>
   rw[if_pos hb]at e1;refine Zj (wpAny_updateSeq Vi rfl (Zj (wpAny_letGo ?_)));have k2:∀b o,b≠S->h1.get? b=some o->(h1.update S (Obj.mapSeq λ_=>#[x,x])).get? b=some o:=λb o hs e=>(Heap.get?_update_other _ _ (Ne.symm hs)).trans e;refine Zr ⟨plainId_quiet F.plain_min_loop _,ih (j+1) _ x _ XH (keep _ _ g1 λb o _ hs e=>k2 b o hs e) (W.frame _ _ _ st1 λb hf o e=>k2 b o (λz=>far (z ▸ hf)) e) (by rw[e1];exact px) (Heap.get?_update_self _ Vi rfl) λv h3 tk3 pv k3=>?_⟩;exact fin v h3 tk3 pv λb o hw hs e=>k3 b o hw hs (k2 b o hs (k1 b o hw e))
  | false =>
   rw[if_neg (by rw[hb];exact D5)]at e1;refine Zj (wpAny_letGo ?_);refine Zr ⟨plainId_quiet F.plain_min_loop _,ih (j+1) _ best c XH g1 st1 (by rw[e1];exact pb) Vi λv h3 tk3 pv k3=>?_⟩;exact fin v h3 tk3 pv λb o hw hs e=>k3 b o hw hs (k1 b o hw e)
theorem Pc(W:Walks prog w A.in1 I fp wr n P St){G:Heap->Prop}{bt:Nat->Nat->Bool}{S:Addr}(far:S∉fp)
  (keep:∀h h':Heap,G h->(∀b o,b∉wr->b≠S->h.get? b=some o->h'.get? b=some o)->G h')
  (ask:∀i j x y (s:Shared) (Q E:ZW),j<i->G s.heap->P i x->P j y->Q (.bool (bt i j)) s->wpAny (model prog w) A.in1 (richCompare .Lt x y) Q E s) (pos:0<n)
  {s:Shared} {c:Nat} (gs:G s.heap) (st:St 0 s.heap) (at0:s.heap.get? S=some { cls:=.type "list",dict:=none,data:=.seq #[] c,slots:=#[] })
  (fin:∀v h' tk,P (argBest bt (n-1)) v->(∀b o,b∉wr->b≠S->s.heap.get? b=some o->h'.get? b=some o)->R (.ok (.ret v)) { s with heap:=h',toks:=tk }) :
  codeAny (model prog w) A (.builtin "min.loop" ⟨[.ref I,.none,.ref S],[]⟩) R s:=by
 have out:S∉wr:=λz=>far (W.sub _ z);refine codeAny_builtin F.entry_min_loop ?_;rw[Around.under_plainId F.plain_min_loop _];refine Zj (wpAny_seqItems at0 rfl ?_);refine Zj (wpAny_tryCatch (W.item 0 s _ _ pos st λx h1 tk px st1 k1=>?_));have Vi:=k1 S _ out at0;have g1:G h1:=keep _ _ gs λb o hb _ e=>k1 b o hb e
 change wpAny _ _ (updateSeq S (λ_=>#[x,x]) >>= _) _ _ _
 refine Zj (wpAny_updateSeq Vi rfl ?_);have k2:∀b o,b≠S->h1.get? b=some o->(h1.update S (Obj.mapSeq λ_=>#[x,x])).get? b=some o:=λb o hs e=>(Heap.get?_update_other _ _ (Ne.symm hs)).trans e;refine Zr ⟨plainId_quiet F.plain_min_loop _,E5 W far keep ask (n-1) 0 _ x _ XH (keep _ _ g1 λb o _ hs e=>k2 b o hs e) (W.frame _ _ _ st1 λb hf o e=>k2 b o (λz=>far (z ▸ hf)) e) px (Heap.get?_update_self _ Vi rfl) λv h3 tk3 pv k3=>?_⟩;exact fin v h3 tk3 pv λb o hw hs e=>k3 b o hw hs (k2 b o hs (k1 b o hw e))
theorem bw{E Q:ZW}{s:Shared}{l:Addr}{vs:ZN}{ad:Nat->Addr}{XT:Nat->ZN}{bt:Nat->Nat->Bool}(hh:A.handled=none)(hu:A.in1.units<cLine)(hl:s.heap.IsList l vs)(pos:0<vs.size)
  (hv:∀(i:Nat) (v:Value),vs[i]?=some v->v=.ref (ad i)) (ht:∀i,i<vs.size->s.heap.IsTuple (ad i) (XT i)) (lx:∀i j,i<vs.size->j<i->Lx (bt i j) ((XT i).toList.zip (XT j).toList))
  (h:∀h' tk,(∀b o,s.heap.get? b=some o->h'.get? b=some o)->Q (.ref (ad (argBest bt (vs.size-1)))) { s with heap:=h',toks:=tk }):wpAny (model prog w) A (call (.builtin "min") [.ref l]) Q E s:=by
 refine call_function_tree F.kind_min F.plain_min F.entry_min (F.args_min1 _) ?_;refine Zj (wpAny_of_eq (show Builtin.Builtins.bindParams "min" ["key","default"] 0 ⟨[],[]⟩=pure [none,none] from rfl) ?_);refine Zj (Zr ?_);have lt:l<s.heap.objs.size:=by obtain⟨_,e,_⟩:=hl;exact Ye e
 refine Zj (wpAny_pyIter_list hl ?_);refine Zj (wpAny_newObj_type ?_);have up1:∀b o,s.heap.get? b=some o->(s.heap.push { cls:=.type "list_iterator",data:=.fields #[.ref l,.int 0 0] }).get? b=some o:=λb o e=>Yn _ e
 have apart:∀{a:Addr} {xs:ZN},s.heap.IsTuple a xs->a∉[s.heap.objs.size]/\a≠(s.heap.push { cls:=.type "list_iterator",data:=.fields #[.ref l,.int 0 0] }).objs.size:=λ{a xs} t=>by
  obtain⟨_,e,_⟩:=t;have hb:=Ye e;exact⟨λz=>Nat.lt_irrefl _ (Nm.mp z ▸ hb),λz=>absurd hb (by rw[z,Heap.size_push];exact Nat.not_lt_of_le (Nat.le_succ _))⟩
 refine Zr ⟨plainId_quiet F.plain_min_loop _,Pc (W:=Walks.list (A:=A.in1) hh s.heap.objs.size l (Dz lt) vs) (G:=λh=>∀i,i<vs.size->h.IsTuple (ad i) (XT i)) (bt:=bt) ?_ (λh h' g k i hi=>?_) (λi j x y s' Q' E' Wd g px py q=>?_) pos ?_ ?_ (Ur _ rfl) λv h' tk pv k=>?_⟩
 .intro z;have e2:(s.heap.push { cls:=.type "list_iterator",data:=.fields #[.ref l,.int 0 0] }).objs.size=s.heap.objs.size+1:=Heap.size_push _ _;rcases Yf.mp z with z | z
  .exact absurd (e2.symm.trans z) (Nat.succ_ne_self _)
  .rcases Yf.mp z with z | z
   .have e3:s.heap.objs.size+1=l:=e2.symm.trans z;exact absurd lt (by rw[<-e3];exact Nat.not_lt_of_le (Nat.le_succ _))
   .cases z
 .obtain⟨o,e,r⟩:=g i hi;exact⟨o,k _ o (apart (ht i hi)).1 (apart (ht i hi)).2 e,r⟩
 .have hi:i<vs.size:=(Array.getElem?_eq_some_iff.mp px).1;have hj:j<vs.size:=(Array.getElem?_eq_some_iff.mp py).1;rw[hv i x px,hv j y py];exact zf (g i hi) (g j hj) hu (lx i j hi Wd) q
 .intro i hi;obtain⟨o,e,r⟩:=ht i hi;exact⟨o,Yn _ (up1 _ _ e),r⟩
 .exact⟨⟨_,Yn _ (Ur _ rfl),rfl,rfl⟩,(hl.push _).push _⟩
 .rw[hv _ v pv];refine h h' tk λb o e=>?_;have hb:=Ye e;exact k b o (λz=>Nat.lt_irrefl _ (Nm.mp z ▸ hb)) (λz=>absurd hb (by rw[z,Heap.size_push];exact Nat.not_lt_of_le (Nat.le_succ _))) (Yn _ (up1 _ _ e))
end
end TLT
namespace TLT
open PySem PySem.Spec PyProof.Rows L2 PV
theorem lex_no{a b c:Int×Int}(h:Yv a b=false)(g:Yv b c=false):Yv a c=false:=by
 unfold Yv at *
 split at h<;>split at g<;>split<;>simp only[decide_eq_false_iff_not]at *<;>omega
theorem lex_eq{a b:Int×Int}(h:Yv a b=false)(g:Yv b a=false):a=b:=by
 unfold Yv at *;have:a.1=b.1/\a.2=b.2:=by split at h<;>split at g<;>simp only[decide_eq_false_iff_not]at *<;>omega
 exact Prod.ext this.1 this.2
theorem lex_as{a b:Int×Int}(h:Yv a b=true):Yv b a=false:=by
 unfold Yv at *
 split at h<;>split<;>simp only[decide_eq_true_eq,decide_eq_false_iff_not]at *<;>omega
theorem Ks(f:Nat->Int×Int):∀k j,j<=k->Yv (f j) (f (argBest (λi j=>Yv (f i) (f j)) k))=false:=by
 intro k
 induction k with
 | zero =>
  intro j hj;cases Nat.le_zero.mp hj;show Yv (f 0) (f 0)=false;unfold Yv;rw[if_pos rfl];exact Gr (Int.lt_irrefl _)
 | succ k ih =>
  intro j hj;show Yv (f j) (f (if Yv (f (k+1)) (f (argBest (λi j=>Yv (f i) (f j)) k))=true then k+1 else argBest (λi j=>Yv (f i) (f j)) k))=false;by_cases h:Yv (f (k+1)) (f (argBest (λi j=>Yv (f i) (f j)) k))=true
  .rw[if_pos h];rcases Nat.lt_or_eq_of_le hj with l | rfl
   .exact lex_no (ih j (Nat.le_of_lt_succ l)) (lex_as h)
   .unfold Yv;rw[if_pos rfl];exact Gr (Int.lt_irrefl _)
  .rw[if_neg h];rcases Nat.lt_or_eq_of_le hj with l | rfl
   .exact ih j (Nat.le_of_lt_succ l)
   .exact Bool.eq_false_iff.mpr h
section
variable{X:Cx}
inductive bg(K:W.Frag)(xs:ZQ)(H:Hp)(Q:VK):Prop
 | mk(p:Addr)(zs:ZQ)(f:Nat->Int×Int)(h0:xs=[.ref p])(h1:V0 K H p zs)(h2:0<zs.length)(h3:∀i,i<zs.length->∃b ws,zs.getD i .non=.ref b/\Y1 K H b (.int (f i).1::.int (f i).2::ws))(h4:∀i j,i<zs.length->j<i->f i≠f j)
  (h5:∀i,i<zs.length->(∀j,j<zs.length->Yv (f j) (f i)=false)->Q (zs.getD i .non) H):bg K xs H Q
theorem xu(hc:X.calm=true)(hu:X.A.in1.units<cLine):Yb X (.builtin "min") (bg X.K):=by
 intro XM s Z H xs us Q I r h;obtain⟨p,zs,f,rfl,hq,pos,hd,nd,q⟩:=h;obtain⟨u,rfl,rx⟩:=vals1 r;cases rx;obtain⟨XT,rv,pl,z⟩:=I.list hq;have il:=rv.length
 have at_:∀i,∃y:Addr×ZM,i<zs.length->XT.getD i .none=.ref y.1/\zs.getD i .non=.ref y.1/\s.heap.IsTuple y.1 y.2.toArray/\∃t t' rs,y.2=.int (f i).1 t::.int (f i).2 t'::rs:=λi=>by
  by_cases hi:i<zs.length
  .obtain⟨b,ws,e1,sq⟩:=hd i hi;have rr:=SRT.Nt rv (show i<XT.length by omega);rw[e1]at rr;obtain⟨jts,jr,tp,_⟩:=I.tuple sq;cases jr with | cons j1 j2 =>
   cases j2 with | cons j3 j4 =>
   obtain⟨t,rfl⟩:=(show ∃t,_=Value.int _ t from j1);obtain⟨t',rfl⟩:=(show ∃t,_=Value.int _ t from j3);exact⟨(b,_),λ_=>⟨rr,e1,tp,t,t',_,rfl⟩⟩
  .exact⟨(0,[]),λz=>absurd z hi⟩
 obtain⟨y,hy⟩:=Classical.skolem.mp at_;have sz:XT.toArray.size=zs.length:=by rw[Jh,il]
 refine bw (ad:=λi=>(y i).1) (XT:=λi=>(y i).2.toArray) (bt:=λi j=>Yv (f i) (f j)) (I.ok.hd hc) hu pl.isList XH (λi v e=>?_) (λi hi=>(hy i XH).2.2.1) (λi j hi hj=>?_) λh' tk k=>?_
 .have hi:i<XT.length:=by simpa using (Array.getElem?_eq_some_iff.mp e).1
  have:=(hy i XH).1;rw[List.getD_eq_getElem?_getD]at this;rw[List.getElem?_toArray]at e;rw[e]at this;exact this
 .obtain⟨_,_,_,t,t',rs,e⟩:=hy i XH;obtain⟨_,_,_,u,u',rs',e'⟩:=hy j XH;have ne:=nd i j XH hj;show Lx _ ((y i).2.zip (y j).2);rw[e,e'];show if (f i).1=(f j).1 then Lx _ ((Value.int (f i).2 t',Value.int (f j).2 u')::_) else _
  unfold Yv;by_cases h1:(f i).1=(f j).1
  .rw[if_pos h1,if_pos h1];show if (f i).2=(f j).2 then _ else _
   rw[if_neg λh2=>ne (Prod.ext h1 h2)]
  .rw[if_neg h1,if_neg h1]
 .rw[sz];have hb:=I0 (λi j=>Yv (f i) (f j)) (zs.length-1);have hi:argBest (λi j=>Yv (f i) (f j)) (zs.length-1)<zs.length:=XH
  refine⟨_,H,I.kept k,?_,q _ hi λj hj=>Ks f _ j XH⟩;rw[(hy _ hi).2.1]
  rfl
end
end TLT
namespace PV
open PySem PySem.Spec PyProof.Rows L2
theorem Zxq{Z:Type}{xs:List Z}{i:Int}{x:Z}(h:C3 xs i=some x):∃j,Sr xs.length i=some j/\xs[j]?=some x:=by
 unfold C3 at h;cases e:Sr xs.length i with
 | none=>rw[e]at h;cases h
 | some j=>rw[e]at h;exact⟨j,rfl,h⟩
theorem Zq.at{K:W.Frag}{mg:ZV}{H F:Hp}{ts:ZZ}{vs:ZQ}{i:Int}{t:T}(h:Zq K mg H F ts vs)(e:C3 ts i=some t):∃v,C3 vs i=some v/\IsT K mg H F t v:=by
 obtain⟨j,e1,e2⟩:=Zxq e;obtain⟨v,e3,h2⟩:=h.get e2;exact⟨v,by unfold C3;rw[<-h.length,e1];exact e3,h2⟩
theorem Zq.cut{K:W.Frag}{mg:ZV}{H F:Hp}{ts:ZZ}{vs:ZQ}(h:Zq K mg H F ts vs)(lo hi:ZR):Zq K mg H F (G6 ts lo hi) (Cb vs lo hi):=by
 unfold G6 Cb;rw[h.length];exact(h.drop _).take _
section
variable{X:Cx}{XM:ZY}{Z σ':L2.St}{H F₁ G:Hp}{s:Shared}{Q:VK}{x y:V}{v u:Value}{t t':T}{p:P}{r:Sl}
theorem ix_run{z:T}{value slice:Expr}(I:Inv X XM σ' H s)(un:X.A.units+150<cLine)(rx:RelV x v)(ry:RelV y u)(s1:Nb X.K X.mg H F₁ t x)(s2:Nb X.K X.mg H F₁ t' y)(e:A7 t t'=some z)(q:∀w,IsT X.K X.mg H F₁ z w->Q w H)
  (hs:subscripted slice false v u=operate [v,u] (getItem v u)):wpAny (model X.prog X.w) X.A (subscriptTail value slice v u) (EP X XM σ' Q) X.xe s:=by
 unfold A7 at e
 split at e
 .cases(show y=_ from s2);obtain⟨a,vs,rfl,h1,z1,ar⟩:=s1;obtain⟨w,e1,e2⟩:=ar.at e;exact ix_tup value slice XM s σ' H _ _ v u Q I rx ry ⟨a,vs,_,w,rfl,rfl,h1,e1,q w e2⟩ hs
 .cases(show y=_ from s2);obtain⟨a,vs,rfl,h1,z1,ar⟩:=s1;obtain⟨w,e1,e2⟩:=ar.at e;exact ee value slice XM s σ' H _ _ v u Q I rx ry ⟨a,vs,_,w,rfl,rfl,.inl h1,e1,q w e2⟩ hs
 .split at e
  .rename_i hz
   cases(show x=_ from s1);cases(show y=_ from s2);obtain⟨c,e1,rfl⟩:=Yx.mp e;exact ix_str value slice XM s σ' H _ _ v u Q I rx ry ⟨_,_,c,rfl,rfl,hz,e1,q _ rfl⟩ hs
  .cases e
 .obtain⟨a,ks,rfl,h1,z1,ar⟩:=s1;obtain⟨k,e1,e2⟩:=ZI.mp e;cases Mu e1 s2;obtain⟨w,h2,h3⟩:=(Zc.val k ar).1 z e2;cases rx;have g:Ng H a (kV k) (some w):=.inl ⟨ks,k,h1,rfl,h2.symm⟩;exact tail_any (Ow I g) slot_dict_getitem.lookup (xt XH I g ry λw' s' I' Ly=>⟨w,H,I',Ly,q w h3⟩) hs
 .cases e
theorem ub{lo hi:ZR}{vl vu:Value}{sl:Addr}{z:Str}{tk:Tok}(I:Inv X XM σ' H s)(hs:s.heap.IsSliceOf sl vl vu .none)(pl:IsPart vl lo)(pu:IsPart vu hi)(hz:z.length<=sizeLine)(q:Q (.str (Txt.slice z lo hi)) H) :
  ∃T id,typeLookup (.type T) "__getitem__"=pure (some (.builtin id))/\s.TypeIs (.str z tk) T/\wpAny (model X.prog X.w) X.A (getItem (.str z tk) (.ref sl)) (EP X XM σ' Q) X.xe s:=by
 have q':∀(t':Tok) (k:Nat),EP X XM σ' Q (.str (Txt.slice z lo hi) t') { s with toks:=k }:=λt' k=>⟨.str _,H,I.tok _,⟨t',rfl⟩,q⟩;refine⟨"str",_,PySem.F.slot_str_getitem.lookup,typeIs_str _ _ _,?_⟩;cases pl with
 | none=>cases pu with
  | none=>exact wpAny_getItem_str_slice (l:=none) (u:=none) (st:=none) hs rfl (post_val_or_str ⟨D0 (Txt.slice_le z _ _) hz,λt' k=>q' t' k⟩)
  | int j uj=>exact wpAny_getItem_str_slice (l:=none) (u:=some (j,uj)) (st:=none) hs rfl (post_val_or_str ⟨D0 (Txt.slice_le z _ _) hz,λt' k=>q' t' k⟩)
 | int i ui=>cases pu with
  | none=>exact wpAny_getItem_str_slice (l:=some (i,ui)) (u:=none) (st:=none) hs rfl (post_val_or_str ⟨D0 (Txt.slice_le z _ _) hz,λt' k=>q' t' k⟩)
  | int j uj=>exact wpAny_getItem_str_slice (l:=some (i,ui)) (u:=some (j,uj)) (st:=none) hs rfl (post_val_or_str ⟨D0 (Txt.slice_le z _ _) hz,λt' k=>q' t' k⟩)
theorem vo{lo hi:ZR}{vl vu:Value}{sl:Addr}(I:Inv X XM σ' H s)(rel:Rel X.K X.mg F₁ G p Z H)(rx:RelV x v)(s1:Nb X.K X.mg H F₁ t x)(hs:s.heap.IsSliceOf sl vl vu .none)(pl:IsPart vl lo)(pu:IsPart vu hi)(e:slT t lo hi=some r)(q:Fin X F₁ G p Z H r Q) :
  ∃T id,typeLookup (.type T) "__getitem__"=pure (some (.builtin id))/\s.TypeIs v T/\wpAny (model X.prog X.w) X.A (getItem v (.ref sl)) (EP X XM σ' Q) X.xe s:=by
 unfold slT at e
 split at e
 .cases e;obtain⟨a,vs,rfl,h1,z1,ar⟩:=s1;exact uf XM s σ' H _ v vl vu lo hi sl Q I rx hs pl pu ⟨a,vs,rfl,h1,λl H' sm hq=>q.f rel sm ⟨l,_,rfl,hq,D0 (Uw _ _ _) z1,Zq.up sm.up (Le.refl _) _ _ (ar.cut lo hi)⟩⟩
 .cases e;obtain⟨a,vs,rfl,h1,z1,ar⟩:=s1;exact um XM s σ' H _ v vl vu lo hi sl Q I rx hs pl pu ⟨a,vs,rfl,.inl h1,λl hl=>q.l rel hl (D0 (Uw _ _ _) z1) (ar.cut lo hi)⟩
 .split at e
  .rename_i hz
   cases e;cases(show x=_ from s1);obtain⟨_,rfl⟩:=rx;exact ub I hs pl pu hz (q.h rel rfl)
  .cases e
 .cases e
noncomputable def btV:Pr->Option (Str×Value)
 | .len=>some ("len",.builtin "len")
 | .all=>some ("all",.builtin "all")
 | .any=>some ("any",.builtin "any")
 | .list=>some ("list",.type "list")
 | .tuple=>some ("tuple",.type "tuple")
 | .min=>some ("min",.builtin "min")
 | .max=>some ("max",.builtin "max")
 | .int=>some ("int",.type "int")
 | .abs=>some ("abs",.builtin "abs")
 | .dict=>some ("dict",.type "dict")
 | .sorted=>some ("sorted",.builtin "sorted")
 | .repr=>some ("repr",.builtin "repr")
 | .str=>some ("str",.type "str")
 | .sum=>some ("sum",.builtin "sum")
 | _=>none
theorem Z6{Z U:Type}{R:Z->U->Prop}{a:Z}{bs:List U}(h:Paired R [a] bs):∃b,bs=[b]/\R a b:=by
 cases h with
 | cons h t=>cases t;exact⟨_,rfl,h⟩
theorem B3{Z U:Type}{R:Z->U->Prop}{a a':Z}{bs:List U}(h:Paired R [a,a'] bs):∃b b',bs=[b,b']/\R a b/\R a' b':=by
 cases h with
 | cons h t=>obtain⟨b,rfl,h2⟩:=Z6 t;exact⟨_,_,rfl,h,h2⟩
theorem Zq.pairs2{K:W.Frag}{mg:ZV}{H F:Hp}:∀{ts:ZZ} {vs:ZQ} {hs:List (Int×Int)},Zq K mg H F ts vs->Ww ts=some hs->ts.length=hs.length/\∀i,i<vs.length->∃b ws,vs.getD i .non=.ref b/\Y1 K H b (.int (hs.getD i (0,0)).1::.int (hs.getD i (0,0)).2::ws)
 | [],vs,hs,h,e=>by cases(show vs=[] from h);cases e;exact⟨rfl,λi hi=>absurd hi (Nat.not_lt_zero _)⟩
 | t::ts,vs,hs,h,e=>by
  obtain⟨v,r,rfl,q,w⟩:=h;unfold Ww at e
  split at e
  .rename_i z;cases z
  .rename_i i j us r' et
   cases et;obtain⟨Qq,e1,rfl⟩:=Yx.mp e;obtain⟨g1,g2⟩:=Zq.pairs2 w e1;refine⟨by rw[B9,B9,g1],λk hk=>?_⟩;cases k with
   | zero =>
    obtain⟨b,ws,rfl,sq,_,v1,r1,rfl,i1,v2,r2,rfl,i2,_⟩:=q;cases(show v1=_ from i1);cases(show v2=_ from i2);exact⟨b,r2,rfl,sq⟩
   | succ k=>exact g2 k (Nat.lt_of_succ_lt_succ hk)
  .cases e
theorem Zq.least{K:W.Frag}{mg:ZV}{H F:Hp}{ts:ZZ}{vs:ZQ}{t:T}(ar:Zq K mg H F ts vs)(e:ic ts=some t):∃f:Nat->Int×Int,0<vs.length/\(∀i,i<vs.length->∃b ws,vs.getD i .non=.ref b/\Y1 K H b (.int (f i).1::.int (f i).2::ws))/\(∀i j,i<vs.length->j<i->f i≠f j) /\
  ∀i,i<vs.length->(∀j,j<vs.length->Yv (f j) (f i)=false)->IsT K mg H F t (vs.getD i .non):=by
 obtain⟨hs,e1,e2⟩:=ZI.mp e
 split at e2
 .rename_i nd
  obtain⟨⟨x,t'⟩,e3,rfl⟩:=Yx.mp e2;obtain⟨g1,g2⟩:=ar.pairs2 e1;have vl:=ar.length;have mem:=List.mem_of_find?_eq_some e3;have ok:=List.find?_some e3;obtain⟨k,hk,ek⟩:=List.getElem_of_mem mem;have hk':k<hs.length:=by rw[List.length_zip]at hk;omega
  have hkt:k<ts.length:=XH
  rw[List.getElem_zip]at ek;have ex:hs[k]=x:=congrArg Prod.fst ek;have et:ts[k]=t':=congrArg Prod.snd ek;have gd:∀{i:Nat} (hi:i<hs.length),hs.getD i (0,0)=hs[i]:=λhi=>by rw[List.getD_eq_getElem?_getD,D4 hi];rfl
  refine⟨λi=>hs.getD i (0,0),by omega,g2,λi j hi hj z=>?_,λi hi le=>?_⟩
  .have z:hs.getD i (0,0)=hs.getD j (0,0):=z;rw[gd XH,gd XH]at z;have:=(List.getElem_inj nd).mp z;omega
  .have h1:Yv hs[i] x=false:=by
    have:=K8.mp ok hs[i] (G0e XH);simpa using this
   have h2:Yv x hs[i]=false:=by
    have:Yv (hs.getD k (0,0)) (hs.getD i (0,0))=false:=le k XH;rw[gd hk',gd (show i<hs.length by omega),ex]at this;exact this
   have e4:x=hs[i]:=TLT.lex_eq h2 h1;have e5:k=i:=(List.getElem_inj nd).mp (ex.trans e4);subst e5;obtain⟨v,hv,it⟩:=ar.get (D4 hkt);rw[List.getD_eq_getElem?_getD,hv, <-et];exact it
 .cases e2
theorem mr{K:W.Frag}{mg:ZV}{H F:Hp}{c:Bool}{t t':T}{v v':V}(h:IsT K mg H F t v)(h':IsT K mg H F t' v'):IsT K mg H F (if c=true then t else t') (if c=true then v else v'):=by
 cases c with
 | true=>exact h
 | false=>exact h'
theorem bt_run{bq:Pr}{nm:Str}{fv:Value}{ts:ZZ}{xs:ZQ}{us:ZM}(hb:btV bq=some (nm,fv))(hc:X.calm=true)(un:X.A.units+150<cLine)(gd:X.A.guards=some [])(I:Inv X XM σ' H s)(rel:Rel X.K X.mg F₁ G p Z H)(rs:Zf xs us)(se:Paired (Nb X.K X.mg H F₁) ts xs)(e:Ld bq ts=some r)(q:Fin X F₁ G p Z H r Q) :
  wpAny (model X.prog X.w) X.A (call fv us) (EP X XM σ' Q) X.xe s:=by
 unfold Ld at e
 split at e<;>first | cases hb | skip
 .unfold pLen at e
  split at e
  rotate_left
  .cases e
  obtain⟨n,e1,rfl⟩:=Yx.mp e;obtain⟨x,rfl,s1⟩:=Z6 se;unfold ie at e1
  split at e1
  .cases e1;obtain⟨a,vs,rfl,h1,z1,ar⟩:=s1;exact Nz XM s σ' H _ us Q I rs ⟨a,vs,rfl,.inr h1,q.h rel (by rw[ar.length];rfl)⟩
  .cases e1;obtain⟨a,vs,rfl,h1,z1,ar⟩:=s1;exact Nz XM s σ' H _ us Q I rs ⟨a,vs,rfl,.inl (.inl h1),q.h rel (by rw[ar.length];rfl)⟩
  .cases e1;obtain⟨a,vs,rfl,h1,z1,ar⟩:=s1;obtain⟨u,rfl,rx⟩:=vals1 rs;cases rx;exact d_len I h1 λt s' I'=>⟨.int vs.length,H,I',⟨t,rfl⟩,q.h rel (by rw[ar.length];rfl)⟩
  .split at e1
   .rename_i hz
    cases e1;cases(show x=_ from s1);exact cw XM s σ' H _ us Q I rs ⟨_,_,rfl,⟨hz,rfl⟩,q.h rel rfl⟩
   .cases e1
  .cases e1
 .unfold Zxi at e
  split at e
  rotate_left
  .cases e
  cases e;obtain⟨x,rfl,a,vs,rfl,h1,z1,ar⟩:=Z6 se;exact Fb XM s σ' H _ us Q I rs ⟨a,vs,rfl,.inr h1,λl hl=>q.l rel hl z1 ar⟩
 .unfold As at e
  split at e
  .obtain⟨ws,e1,rfl⟩:=Yx.mp e;obtain⟨x,rfl,a,vs,rfl,h1,z1,ar⟩:=Z6 se;unfold Xp at e1
   split at e1
   .rename_i hs eh
    split at e1
    .rename_i hn
     cases e1;obtain⟨g1,g2⟩:=ar.heads eh;have vl:=ar.length;by_cases h2:vs.length<2
     .have ew:(SRT.Jp (hs.zip _)).map (·.2)=_:=SRT.vy (d:=T.non) g1 XH;rw[ew]at q;exact SRT.M9 XM s σ' H _ us Q I rs ⟨a,vs,vs,rfl,.inl (.inl h1),SRT.Ek h2,λl hl=>q.l rel hl z1 ar⟩
     .refine SRT.Fg XM s σ' H _ us Q I rs ⟨a,vs,hs,rfl,.inl h1,by omega,g2,hn.1,by omega,by omega,λl p hl op=>?_⟩;rw[<-SRT.gu (d:=T.non) g1 op]at q;refine q.l rel hl ?_ (ar.pick _ λi m=>by have:=List.mem_range.mp (op.1.mem_iff.mp m);omega);rw[Yc,op.1.length_eq,XY];have:=sizeLine_eq;omega
    .cases e1
   .obtain⟨ys,k1,k2,k3⟩:=vq ar e1;exact SRT.M9 XM s σ' H _ us Q I rs ⟨a,vs,ys,rfl,.inl (.inl h1),k1,λl hl=>q.l rel hl (by have:=sizeLine_eq;omega) k2⟩
  .obtain⟨ws,e1,rfl⟩:=Yx.mp e;obtain⟨x,rfl,a,ks,rfl,h1,z1,ar⟩:=Z6 se;obtain⟨ys,k1,k2,k3⟩:=vq ar.keyT e1;exact SRT.Ff hc XM s σ' H _ us Q I rs ⟨a,ks,ys,rfl,h1,k1,λl hl=>q.l rel hl (by have:=sizeLine_eq;omega) k2⟩
  .cases e
 .unfold gh at e
  split at e
  rotate_left
  .cases e
  cases e;obtain⟨x,rfl,a,vs,rfl,h1,z1,ar⟩:=Z6 se;exact Ca XM s σ' H _ us Q I rs ⟨a,vs,rfl,.inl (.inl h1),λl H' sm hq=>q.f rel sm ⟨l,vs,rfl,hq,z1,Zq.up sm.up (Le.refl _) _ _ ar⟩⟩
 .unfold pMin at e
  split at e
  .cases e;obtain⟨x,y,rfl,s1,s2⟩:=B3 se;cases(show x=_ from s1);cases(show y=_ from s2);exact x4 hc XM s σ' H _ us Q I rs ⟨_,_,rfl,q.h rel rfl⟩
  .cases e;obtain⟨x,y,rfl,s1,s2⟩:=B3 se;cases(show x=_ from s1);cases(show y=_ from s2);refine TNM.Kf hc XM s σ' H _ us Q I rs ⟨_,_,_,_,rfl,rfl,rfl,q.h rel ?_⟩;exact mr rfl rfl
  .unfold zg at e;obtain⟨x,rfl,a,vs,rfl,h1,z1,ar⟩:=Z6 se
   split at e
   .rename_i zs e1
    obtain⟨m,e2,rfl⟩:=Yx.mp e;obtain⟨m1,m2⟩:=Ll e2;exact xi hc XM s σ' H _ us Q I rs ⟨a,zs,m,rfl,.inl (by rw[<-ar.ints e1];exact h1),m1,m2,q.h rel rfl⟩
   .obtain⟨t,e2,rfl⟩:=Yx.mp e;obtain⟨f,k1,k2,k3,k4⟩:=ar.least e2;exact TLT.xu hc (by rw[units_in1];omega) XM s σ' H _ us Q I rs ⟨a,vs,f,rfl,.inl h1,k1,k2,k3,λi hi hj=>q.h rel (k4 i hi hj)⟩
  .cases e
 .unfold pMax at e
  split at e
  .cases e;obtain⟨x,y,rfl,s1,s2⟩:=B3 se;cases(show x=_ from s1);cases(show y=_ from s2);exact x6 hc XM s σ' H _ us Q I rs ⟨_,_,rfl,q.h rel rfl⟩
  .cases e;obtain⟨x,y,rfl,s1,s2⟩:=B3 se;cases(show x=_ from s1);cases(show y=_ from s2);refine TNM.Kb hc XM s σ' H _ us Q I rs ⟨_,_,_,_,rfl,rfl,rfl,q.h rel ?_⟩;exact mr rfl rfl
  .obtain⟨zs,e1,e⟩:=ZI.mp e;obtain⟨m,e2,rfl⟩:=Yx.mp e;obtain⟨x,rfl,a,vs,rfl,h1,z1,ar⟩:=Z6 se;obtain⟨m1,m2⟩:=ir e2;exact x5 hc XM s σ' H _ us Q I rs ⟨a,zs,m,rfl,.inl (by rw[<-ar.ints e1];exact h1),m1,m2,q.h rel rfl⟩
  .cases e
 .unfold pInt at e
  split at e
  .cases e;obtain⟨x,rfl,s1⟩:=Z6 se;cases(show x=_ from s1);exact Wr XM s σ' H _ us Q I rs (.inl ⟨_,rfl,q.h rel rfl⟩)
  .cases e;obtain⟨x,rfl,s1⟩:=Z6 se;cases(show x=_ from s1);exact Wr XM s σ' H _ us Q I rs (.inr ⟨_,rfl,q.h rel rfl⟩)
  .split at e
   .rename_i hz
    obtain⟨n,e1,rfl⟩:=Yx.mp e;obtain⟨x,rfl,s1⟩:=Z6 se;cases(show x=_ from s1);exact x8 XM s σ' H _ us Q I rs ⟨_,n,rfl,e1,hz,q.h rel rfl⟩
   .cases e
  .cases e
 .unfold pAbs at e
  split at e
  rotate_left
  .cases e
  cases e;obtain⟨x,rfl,s1⟩:=Z6 se;cases(show x=_ from s1);exact cy XM s σ' H _ us Q I rs ⟨_,rfl,q.h rel rfl⟩
 .unfold Zxe at e
  split at e
  .cases e;obtain⟨x,rfl,a,ks,rfl,h1,z1,ar⟩:=Z6 se;exact Od XM s σ' H _ us Q I rs ⟨a,ks,rfl,h1,λl hl=>let ⟨r1,r2⟩:=rel.newD hl z1 ar;q _ _ _ (Le.refl _) (Zn.lay hl).up r1 r2⟩
  .obtain⟨XD,e1,rfl⟩:=Yx.mp e;obtain⟨x,rfl,a,vs,rfl,h1,z1,ar⟩:=Z6 se;obtain⟨ks,k1,k2,k3⟩:=ar.pairs e1;refine Bo hc XM s σ' H _ us Q I rs ⟨a,vs,ks,rfl,.inl h1,k2,k3,λl hl=>?_⟩
   have kl:(Wc ks).length<=sizeLine:=by
    have:=N3 ks [];unfold Wc;simp only[List.length_nil,Nat.zero_add]at this;omega
   obtain⟨r1,r2⟩:=rel.newD hl kl (Zc.fold k1 (show Zc X.K X.mg H F₁ [] [] from rfl));exact q _ _ _ (Le.refl _) (Zn.lay hl).up r1 r2
  .cases e
 .unfold Zxo at e
  split at e
  rotate_left
  .cases e
  obtain⟨z,e1,rfl⟩:=Yx.mp e;obtain⟨x,rfl,s1⟩:=Z6 se;obtain⟨u,rfl,rx⟩:=vals1 rs;exact yw I rel.b.f un gd rx s1 e1 (q.h rel rfl)
 .unfold pStr at e
  split at e
  rotate_left
  .cases e
  split at e
  .rename_i hz
   cases e;obtain⟨x,rfl,s1⟩:=Z6 se;cases(show x=_ from s1);exact Fk XM s σ' H _ us Q I rs ⟨_,rfl,hz,q.h rel rfl⟩
  .cases e
 .unfold pSum at e
  split at e
  rotate_left
  .cases e
  obtain⟨zs,e1,rfl⟩:=Yx.mp e;obtain⟨x,rfl,a,vs,rfl,h1,z1,ar⟩:=Z6 se;exact xh hc XM s σ' H _ us Q I rs ⟨a,zs,rfl,.inl (by rw[<-ar.ints e1];exact h1),q.h rel rfl⟩
 .cases e
end
noncomputable def kdS:Kd->String
 | .int => "int"
 | .bool => "bool"
 | .str => "str"
 | .tuple => "tuple"
 | .list => "list"
 | .dict => "dict"
section
variable{X:Cx}{XM:ZY}{Z σ':L2.St}{H F₁ G:Hp}{s:Shared}{Q:VK}{x y:V}{v u:Value}{t t':T}{p:P}{r:Sl}
theorem Zzw{n:Kd}{b:Bool}(I:Inv X XM σ' H s)(rx:RelV x v)(s1:Nb X.K X.mg H F₁ t x)(e:isiT n t=some b)(q:Q (.bl b) H):wpAny (model X.prog X.w) X.A (call (.builtin "isinstance") [v,.type (kdS n)]) (EP X XM σ' Q) X.xe s:=by
 have fin:∀tk,EP X XM σ' Q (.bool b) { s with toks:=tk }:=λtk=>⟨.bl _,H,I.tok _,rfl,q⟩;cases t with
 | non=>cases(show x=_ from s1);exact Vp I rx .non (by cases n<;>cases e<;>rfl) fin
 | bl k=>cases(show x=_ from s1);exact Vp I rx (.bl k) (by cases n<;>cases e<;>rfl) fin
 | int k=>cases(show x=_ from s1);exact Vp I rx (.int k) (by cases n<;>cases e<;>rfl) fin
 | str k=>cases(show x=_ from s1);exact Vp I rx (.str k) (by cases n<;>cases e<;>rfl) fin
 | tup ts =>
  obtain⟨a,vs,rfl,hq,_⟩:=s1;cases rx;exact Zzj I hq (by cases n<;>cases e<;>rfl) fin
 | lst ts =>
  obtain⟨a,vs,rfl,hq | ⟨o,hq⟩,_⟩:=s1
  .exact Vp I rx (.lst hq) (by cases n<;>cases e<;>rfl) fin
  .exact Vp I rx (.frz hq) (by cases n<;>cases e<;>rfl) fin
 | dct ts =>
  obtain⟨a,ks,rfl,hq,_⟩:=s1;cases rx;obtain⟨_,_,vs,_,o,es,ep,h1,h2,_⟩:=hq.ok I.hok;exact W.kia_one W.kitx_dict I.kIn ⟨o,h1,h2.1⟩ (by cases n<;>cases e<;>rfl) (λz=>nomatch z) fin
 | fn _=>cases n<;>cases e
def rO(X:Cx)(f:Value->Value->Sem Value):R2:=λx y H Q=>∀XM s Z v u,Inv X XM Z H s->RelV x v->RelV y u->wpAny (model X.prog X.w) X.A (f v u) (EP X XM Z Q) X.xe s
theorem opr{f:Value->Value->Sem Value}:Ny X f (rO X f):=λXM s Z _ _ _ v u _ I rx ry h=>h XM s Z v u I rx ry
def rC(X:Cx)(f:Value):ZQ->Hp->VK->Prop:=λxs H Q=>∀XM s Z us,Inv X XM Z H s->Zf xs us->wpAny (model X.prog X.w) X.A (call f us) (EP X XM Z Q) X.xe s
theorem Om{f:Value}:Yb X f (rC X f):=λXM s Z _ _ us _ I rs h=>h XM s Z us I rs
def rX(X:Cx):R2:=λx y H Q=>∀value slice XM s Z v u,Inv X XM Z H s->RelV x v->RelV y u->subscripted slice false v u=operate [v,u] (getItem v u)->wpAny (model X.prog X.w) X.A (subscriptTail value slice v u) (EP X XM Z Q) X.xe s
theorem ixr:IxR X (rX X):=λvalue slice XM s Z _ _ _ v u _ I rx ry h hs=>h value slice XM s Z v u I rx ry hs
def rL(X:Cx):V->ZR->ZR->Hp->VK->Prop:=λx lo hi H Q=>∀XM s Z v vl vu sl,Inv X XM Z H s->RelV x v->s.heap.IsSliceOf sl vl vu .none->IsPart vl lo->IsPart vu hi ->
 ∃T id,typeLookup (.type T) "__getitem__"=pure (some (.builtin id))/\s.TypeIs v T/\wpAny (model X.prog X.w) X.A (getItem v (.ref sl)) (EP X XM Z Q) X.xe s
theorem slr:SlR X (rL X):=λXM s Z _ _ v vl vu _ _ sl _ I rx hs pl pu h=>h XM s Z v vl vu sl I rx hs pl pu
def Set0(w:World)(l:Addr):HO:=.ext λh=>h.get? l=some (SetM.Yr (!(w.params.followText "set-order")))
theorem vx{a:Addr}(hc:X.calm=true)(h1:V0 X.K H a [])(rel:Rel X.K X.mg F₁ G p Z H)(q:Fin X F₁ G p Z H (.o (.lst [])) Q) :
  rC X (.type "set") [.ref a] H λv H1=>rC X (.builtin "sorted") [v] H1 Q:=by
 intro XM s σ' ws I rs;obtain⟨u,rfl,rx⟩:=vals1 rs;cases rx;obtain⟨XT,rv,pl,hzz⟩:=I.list h1;cases rv;have hl':=I.hok.fresh (Yk s.heap.objs.size);refine SetM.set0 (I.ok.hd hc) pl.isList λh1 tk ho k1=>⟨.ref s.heap.objs.size,_,I.put (o:=Set0 X.w s.heap.objs.size) (d':=s.drawn) k1 (Yk _) ⟨ho,⟨_,ho⟩,λh2 h3 x e=>e _ x⟩,rfl,?_⟩;generalize s.heap.objs.size=l at hl' ⊢;intro XM s σ' ws I rs;obtain⟨u,rfl,rx⟩:=vals1 rs;cases rx;obtain⟨ho,_,_⟩:=(show s.heap.get? l=some (SetM.Yr (!(X.w.params.followText "set-order")))/\_ from I.hok l _ Zx);refine SetM.pd (I.ok.hd hc) ho λh1 tk l2 n k1 sz Vi=>⟨.ref l2,_,I.put (o:=.lst []) (d':=s.drawn) k1 sz ⟨B0 _,[],n,.nil,Vi⟩,rfl,?_⟩;have q':Fin X F₁ G p Z (upd H l (Set0 X.w l)) (.o (.lst [])) Q:=λF3 H3 v l3 u3=>q F3 H3 v l3 ((Zn.lay hl').up.trans u3);exact q'.l (rel.same (Zn.lay hl')) (I.hok.fresh sz) (B0 _) rfl
end
noncomputable def vis(sc:ZK)(x:Str):Bool:=match sc.lookup x with
 | some .local=>true
 | some .cell=>true
 | some .free=>true
 | _=>false
noncomputable def Cv(sc:ZK)(x:Str):Bool:=sc.lookup x==some .globalImplicit && !(x==("__debug__" : Str))
noncomputable def J2(N:ZD)(sc:ZK)(i:Nat)(x:Str):Bool:=N[i]? == some x&&vis sc x && !(x==("__debug__" : Str)) && !(x==("__classdict__" : Str))
def Va:Expr->Bool
 | .Slice _ _ _ _=>false
 | _=>true
def E1:Expr->Bool
 | .Call _ [] _ _=>false
 | _=>true
def Mb:Expr->Bool
 | .Call _ _ _ _=>false
 | _=>true
def con2:Expr->Bool
 | .Constant k _ _=>(match k with
  | .int i=>decide (i=2)
  | _=>false)
 | _=>false
theorem Zz4{x:Expr}(h:con2 x=true):∃a b,x=.Constant (.int 2) a b:=by
 cases x
 case Constant k a b =>
  cases k
  case int i=>cases Dc (show decide (i=2)=true from h);exact⟨a,b,rfl⟩
  all_goals cases h
 all_goals cases h
def isNm(x:Str):Expr->Bool
 | .Name y _=>decide (y=x)
 | _=>false
theorem Zzv{x:Str}{e:Expr}(h:isNm x e=true):∃p,e=.Name x p:=by
 cases e
 case Name y p=>cases Dc (show decide (y=x)=true from h);exact⟨p,rfl⟩
 all_goals cases h
noncomputable def con0:Expr->Bool
 | .Constant k n _=>decide (n=0)&&(match k with
  | .int i=>decide (i=0)
  | _=>false)
 | _=>false
theorem Zz5{x:Expr}(h:con0 x=true):∃b,x=.Constant (.int 0) 0 b:=by
 cases x
 case Constant k a b =>
  obtain⟨h1,h2⟩:=n6.mp (show (decide (a=0)&&_)=true from h);cases Dc h1;cases k
  case int i=>cases Dc (show decide (i=0)=true from h2);exact⟨b,rfl⟩
  all_goals cases h2
 all_goals cases h
noncomputable def Zx3:Expr->Bool
 | .Subscript a b _=>isNm Vj a&&con0 b
 | _=>false
theorem b9{e:Expr}(h:Zx3 e=true):∃p1 p2 p3,e=zh Vj p1 p2 p3:=by
 cases e
 case Subscript a b p =>
  obtain⟨h1,h2⟩:=n6.mp (show (isNm Vj a&&con0 b)=true from h);obtain⟨p1,rfl⟩:=Zzv h1;obtain⟨p2,rfl⟩:=Zz5 h2;exact⟨p1,p2,p,rfl⟩
 all_goals cases h
noncomputable def Zx4:List PySem.Arg->Bool
 | [x]=>decide (x.arg=Vj)&&x.annotation.isNone
 | _=>false
noncomputable def A5(a:Arguments):Bool:=a.posonlyargs.isEmpty&&(Zx4 a.args&&(a.vararg.isNone&&(a.kwonlyargs.isEmpty&&(a.kw_defaults.isEmpty&&(a.kwarg.isNone&&a.defaults.isEmpty)))))
theorem mw{a:Arguments}(h:A5 a=true):∃p0,a=E6 Vj p0:=by
 obtain⟨po,ar,va,kw,kd,kg,df⟩:=a;unfold A5 at h;simp only[Y8,List.isEmpty_iff,Option.isNone_iff_eq_none]at h;obtain⟨rfl,h1,rfl,rfl,rfl,rfl,rfl⟩:=h;unfold Zx4 at h1
 split at h1
 .rename_i x
  obtain⟨xa,xn,xp⟩:=x;simp only[Y8,Option.isNone_iff_eq_none,decide_eq_true_eq]at h1;obtain⟨rfl,rfl⟩:=h1;exact⟨xp,rfl⟩
 .cases h1
noncomputable def lamE:Expr->Bool
 | .Lambda a b s p=>A5 a&&(Zx3 b&&(decide (s=Mp Vj)&&decide (Rf.map TP.lp=some p)))
 | _=>false
theorem i8{e:Expr}(h:lamE e=true):∃T p0 p1 p2 p3,Rf=some T/\e=.Lambda (E6 Vj p0) (zh Vj p1 p2 p3) (Mp Vj) T.lp:=by
 cases e
 case Lambda a b s p =>
  obtain⟨h1,h⟩:=n6.mp (show (A5 a&&_)=true from h);obtain⟨h2,h⟩:=n6.mp h;obtain⟨h3,h4⟩:=n6.mp h;obtain⟨p0,rfl⟩:=mw h1;obtain⟨p1,p2,p3,rfl⟩:=b9 h2;have h3:=Dc h3;subst h3;obtain⟨T,e1,e2⟩:=Yx.mp (Dc h4);subst e2;exact⟨T,p0,p1,p2,p3,e1,rfl⟩
 all_goals cases h
noncomputable def b8(sc:ZK)(k:Keyword):Bool:=decide (sc=Mh)&&(decide (k.arg=some "key")&&lamE k.value)
theorem b7{sc:ZK}{k:Keyword}(h:b8 sc k=true):sc=Mh/\∃T p0 p1 p2 p3 kp,Rf=some T/\k={ arg:=some "key",value:=.Lambda (E6 Vj p0) (zh Vj p1 p2 p3) (Mp Vj) T.lp,pos:=kp:Keyword }:=by
 obtain⟨ka,kv,kp⟩:=k;obtain⟨h1,h⟩:=n6.mp h;obtain⟨h2,h3⟩:=n6.mp h;obtain⟨T,p0,p1,p2,p3,e,e2⟩:=i8 h3;have h2:ka=some "key" := Dc h2;have e2:kv=_:=e2;subst h2 e2;exact⟨Dc h1,T,p0,p1,p2,p3,kp,e,rfl⟩
inductive Shp where
 | name(y:Str) | bin(a:Expr)(op:Operator)(b:Expr) | cmp(a:Expr)(ops:List CmpOp)(bs:ZC) | un(op:UnaryOp)(a:Expr) | sub(a b:Expr) | dct(ks:List (Option Expr))(vs:ZC)
 | callN (f:Str) (xs:ZC) | callA (o:Expr) (m:Str) (ap:Pos) (xs:ZC) (cp:Pos) | tup (xs:ZC) | lst (xs:ZC) | boo (o:BoolOp) (xs:ZC) (p:Pos) | ife (c a b:Expr) | lc (e:Expr) (g:List Comprehension) (s:Scope) | slc (l h s:Option Expr) | non
noncomputable def shpC:Expr->ZC->List Keyword->Pos->Shp
 | .Name f _,xs,[],_=>.callN f xs
 | .Attribute o m ap,xs,[],cp=>.callA o m ap xs cp
 | _,_,_,_=>.non
noncomputable def Bz:Expr->Shp
 | .Name y _=>.name y
 | .BinOp a op b _=>.bin a op b
 | .Compare a ops bs _=>.cmp a ops bs
 | .UnaryOp op a _=>.un op a
 | .Subscript a b _=>.sub a b
 | .Dict ks vs _=>.dct ks vs
 | .Call f xs ks cp=>shpC f xs ks cp
 | .Tuple xs _ _=>.tup xs
 | .List xs _=>.lst xs
 | .BoolOp o xs p=>.boo o xs p
 | .IfExp c a b _=>.ife c a b
 | .ListComp e g s _=>.lc e g s
 | .Slice l h s _=>.slc l h s
 | _=>.non
def ShpI:Shp->Expr->Prop
 | .name y,x=>∃p,x=.Name y p
 | .bin a op b,x=>∃p,x=.BinOp a op b p
 | .cmp a ops bs,x=>∃p,x=.Compare a ops bs p
 | .un op a,x=>∃p,x=.UnaryOp op a p
 | .sub a b,x=>∃p,x=.Subscript a b p
 | .dct ks vs,x=>∃p,x=.Dict ks vs p
 | .callN f xs,x=>∃q p,x=.Call (.Name f q) xs [] p
 | .callA o m ap xs cp,x=>x=.Call (.Attribute o m ap) xs [] cp
 | .tup xs,x=>∃j p,x=.Tuple xs j p
 | .lst xs,x=>∃p,x=.List xs p
 | .boo o xs p,x=>x=.BoolOp o xs p
 | .ife c a b,x=>∃p,x=.IfExp c a b p
 | .lc e g s,x=>∃p,x=.ListComp e g s p
 | .slc l h s,x=>∃p,x=.Slice l h s p
 | .non,_=>True
theorem ur(x:Expr):ShpI (Bz x) x:=by
 cases x
 case Call f xs ks cp =>
  cases f
  case Name=>cases ks with
   | nil=>exact⟨_,_,rfl⟩
   | cons _ _=>trivial
  case Attribute=>cases ks with
   | nil=>rfl
   | cons _ _=>trivial
  all_goals exact True.intro
 case BoolOp=>rfl
 case Tuple=>exact⟨_,_,rfl⟩
 all_goals first | exact⟨_,rfl⟩ | exact True.intro
theorem Z2{x:Expr}{s:Shp}(e:Bz x=s):ShpI s x:=e ▸ ur x
noncomputable def vOp(o:Op)(x:Expr):Option (ZC):=match Bz x with
 | .bin a op b=>if op=opOf o then some [a,b] else none
 | _=>none
theorem vOp_ex{o:Op}{x:Expr}{xs:ZC}(h:vOp o x=some xs):∃a op b p,x=.BinOp a op b p/\(if op=opOf o then some [a,b] else none)=some xs:=by
 unfold vOp at h
 split at h
 .rename_i e
  obtain⟨p,rfl⟩:=Z2 e;exact⟨_,_,_,p,rfl,h⟩
 .cases h
noncomputable def sy(x:Expr):Option (Expr×List CmpOp×ZC):=match Bz x with
 | .cmp a ops bs=>some (a,ops,bs)
 | _=>none
theorem Hj{x a:Expr}{ops:List CmpOp}{bs:ZC}(h:sy x=some (a,ops,bs)):∃p,x=.Compare a ops bs p:=by
 unfold sy at h
 split at h
 .rename_i e
  cases h;exact Z2 e
 .cases h
noncomputable def vCm(c:Cm)(x:Expr):Option (ZC):=match sy x with
 | some (a,[op],[b])=>if op=G7 c/\behindInMarks op b=false then some [a,b] else none
 | _=>none
theorem wy{c:Cm}{x:Expr}{xs:ZC}(h:vCm c x=some xs):∃a op b p,x=.Compare a [op] [b] p/\(if op=G7 c/\behindInMarks op b=false then some [a,b] else none)=some xs:=by
 unfold vCm at h
 split at h
 .rename_i e
  obtain⟨p,rfl⟩:=Hj e;exact⟨_,_,_,p,rfl,h⟩
 .cases h
noncomputable def vC2(c:Cm)(d:Cm)(x:Expr):Option (ZC):=match sy x with
 | some (a,[op,Sf],[b,e])=>if op=G7 c/\Sf=G7 d/\lastMarks [op,Sf] [b,e]=false then some [a,b,e] else none
 | _=>none
theorem wk{c d:Cm}{x:Expr}{xs:ZC}(h:vC2 c d x=some xs):∃a op Sf b e p,x=.Compare a [op,Sf] [b,e] p/\(if op=G7 c/\Sf=G7 d/\lastMarks [op,Sf] [b,e]=false then some [a,b,e] else none)=some xs:=by
 unfold vC2 at h
 split at h
 .rename_i e
  obtain⟨p,rfl⟩:=Hj e;exact⟨_,_,_,_,_,p,rfl,h⟩
 .cases h
noncomputable def vNeg(x:Expr):Option (ZC):=match Bz x with
 | .un op a=>if op=.USub then some [a] else none
 | _=>none
theorem r9{x:Expr}{xs:ZC}(h:vNeg x=some xs):∃a p,x=.UnaryOp .USub a p/\some [a]=some xs:=by
 unfold vNeg at h
 split at h
 .rename_i e
  obtain⟨p,rfl⟩:=Z2 e
  split at h
  .rename_i z;subst z;exact⟨_,p,rfl,h⟩
  .cases h
 .cases h
noncomputable def ra(x:Expr):Option (Expr×Expr):=match Bz x with
 | .sub a b=>some (a,b)
 | _=>none
theorem Hx{x a b:Expr}(h:ra x=some (a,b)):∃p,x=.Subscript a b p:=by
 unfold ra at h
 split at h
 .rename_i e
  cases h;exact Z2 e
 .cases h
noncomputable def vIx(x:Expr):Option (ZC):=match ra x with
 | some (a,b)=>if Va b=true then some [a,b] else none
 | none=>none
theorem vIx_ex{x:Expr}{xs:ZC}(h:vIx x=some xs):∃a b p,x=.Subscript a b p/\(if Va b=true then some [a,b] else none)=some xs:=by
 unfold vIx at h
 split at h
 .rename_i e
  obtain⟨p,rfl⟩:=Hx e;exact⟨_,_,p,rfl,h⟩
 .cases h
noncomputable def sv(x:Expr):Option (Expr×Option Expr×Option Expr×Option Expr):=match ra x with
 | some (a,b)=>(match Bz b with
  | .slc l h s=>some (a,l,h,s)
  | _=>none)
 | none=>none
theorem Hq{x a:Expr}{l hh s:Option Expr}(h:sv x=some (a,l,hh,s)):∃q p,x=.Subscript a (.Slice l hh s q) p:=by
 unfold sv at h
 split at h
 .rename_i e
  obtain⟨p,rfl⟩:=Hx e
  split at h
  .rename_i e'
   cases h;obtain⟨q,rfl⟩:=Z2 e';exact⟨q,p,rfl⟩
  .cases h
 .cases h
noncomputable def ja(x:Expr):Option (ZC):=match sv x with
 | some (a,some l,none,none)=>some [a,l]
 | _=>none
theorem ju{x:Expr}{xs:ZC}(h:ja x=some xs):∃a l q p,x=.Subscript a (.Slice (some l) none none q) p/\some [a,l]=some xs:=by
 unfold ja at h
 split at h
 .rename_i e
  obtain⟨q,p,rfl⟩:=Hq e;exact⟨_,_,q,p,rfl,h⟩
 .cases h
noncomputable def ji(x:Expr):Option (ZC):=match sv x with
 | some (a,none,some l,none)=>some [a,l]
 | _=>none
theorem jo{x:Expr}{xs:ZC}(h:ji x=some xs):∃a l q p,x=.Subscript a (.Slice none (some l) none q) p/\some [a,l]=some xs:=by
 unfold ji at h
 split at h
 .rename_i e
  obtain⟨q,p,rfl⟩:=Hq e;exact⟨_,_,q,p,rfl,h⟩
 .cases h
noncomputable def wj(x:Expr):Option (ZC):=match Bz x with
 | .dct [] []=>some []
 | _=>none
theorem wq{x:Expr}{xs:ZC}(h:wj x=some xs):∃p,x=.Dict [] [] p/\some ([]:ZC)=some xs:=by
 unfold wj at h
 split at h
 .rename_i e
  obtain⟨p,rfl⟩:=Z2 e;exact⟨p,rfl,h⟩
 .cases h
noncomputable def ly:Expr->Bool
 | .Constant (.int i) _ _=>decide (i=1)
 | _=>false
noncomputable def Qm(x:Expr):Option (Str×ZC):=match Bz x with
 | .callN f xs=>some (f,xs)
 | _=>none
theorem Gs{x:Expr}{f:Str}{xs:ZC}(h:Qm x=some (f,xs)):∃q p,x=.Call (.Name f q) xs [] p:=by
 unfold Qm at h
 split at h
 .rename_i e
  cases h;exact Z2 e
 .cases h
noncomputable def je(x:Expr):Option Str:=match Bz x with
 | .name y=>some y
 | _=>none
theorem W2{x:Expr}{y:Str}(h:je x=some y):∃p,x=.Name y p:=by
 unfold je at h
 split at h
 .rename_i e
  cases h;exact Z2 e
 .cases h
noncomputable def vIsi(sc:ZK)(n:Kd)(x:Expr):Option (ZC):=match Qm x with
 | some (f,[a,k])=>(match je k with
  | some k=>if f="isinstance" /\ Cv sc f=true/\k=kdS n/\Cv sc k=true then some [a] else none
  | none=>none)
 | _=>none
theorem sj{sc:ZK}{n:Kd}{x:Expr}{xs:ZC}(h:vIsi sc n x=some xs):∃f q a k q' p,x=.Call (.Name f q) [a,.Name k q'] [] p/\(if f="isinstance" /\ Cv sc f=true/\k=kdS n/\Cv sc k=true then some [a] else none)=some xs:=by
 unfold vIsi at h
 split at h
 .rename_i e
  obtain⟨q,p,rfl⟩:=Gs e
  split at h
  .rename_i e'
   obtain⟨q',rfl⟩:=W2 e';exact⟨_,q,_,_,q',p,rfl,h⟩
  .cases h
 .cases h
noncomputable def js(sc:ZK)(x:Expr):Option (ZC):=match Qm x with
 | some (f,[y])=>(match Qm y with
  | some (g,[a])=>if f="sorted" /\ Cv sc f=true/\g="set" /\ Cv sc g=true then some [a] else none
  | _=>none)
 | _=>none
theorem jn{sc:ZK}{x:Expr}{xs:ZC}(h:js sc x=some xs):∃f q g q' a p' p,x=.Call (.Name f q) [.Call (.Name g q') [a] [] p'] [] p/\(if f="sorted" /\ Cv sc f=true/\g="set" /\ Cv sc g=true then some [a] else none)=some xs:=by
 unfold js at h
 split at h
 .rename_i e
  obtain⟨q,p,rfl⟩:=Gs e
  split at h
  .rename_i e'
   obtain⟨q',p',rfl⟩:=Gs e';exact⟨_,q,_,q',_,p',p,rfl,h⟩
  .cases h
 .cases h
def conS:Expr->Option Str
 | .Constant k _ _=>(match k with
  | .str y=>some y
  | _=>none)
 | _=>none
theorem Zz3{x:Expr}{y:Str}(h:conS x=some y):∃a b,x=.Constant (.str y) a b:=by
 cases x
 case Constant k a b=>cases k<;>first | (cases h;exact⟨a,b,rfl⟩) | cases h
 all_goals cases h
noncomputable def wx(x:Expr):Option (ZC):=match Bz x with
 | .callA o m ap [a] cp=>if m="get" /\ Mb o=true/\(ap.endLine==cp.line)=true then some [o,a] else none
 | _=>none
theorem wz{x:Expr}{xs:ZC}(h:wx x=some xs):∃o m ap a cp,x=.Call (.Attribute o m ap) [a] [] cp/\(if m="get" /\ Mb o=true/\(ap.endLine==cp.line)=true then some [o,a] else none)=some xs:=by
 unfold wx at h
 split at h
 .rename_i e;exact⟨_,_,_,_,_,Z2 e,h⟩
 .cases h
noncomputable def j9(x:Expr):Option (ZC):=match Bz x with
 | .callA o m ap [a,b] cp=>if m="get" /\ Mb o=true/\(ap.endLine==cp.line)=true then some [o,a,b] else none
 | _=>none
theorem j7{x:Expr}{xs:ZC}(h:j9 x=some xs):∃o m ap a b cp,x=.Call (.Attribute o m ap) [a,b] [] cp/\(if m="get" /\ Mb o=true/\(ap.endLine==cp.line)=true then some [o,a,b] else none)=some xs:=by
 unfold j9 at h
 split at h
 .rename_i e;exact⟨_,_,_,_,_,_,Z2 e,h⟩
 .cases h
noncomputable def j6(x:Str)(z:Expr):Option (ZC):=match Bz z with
 | .callA o m ap [a] cp=>(match conS o with
  | some y=>if m="join" /\ y=x/\(ap.endLine==cp.line)=true then some [a] else none
  | none=>none)
 | _=>none
theorem j5{x:Str}{z:Expr}{xs:ZC}(h:j6 x z=some xs):∃y k1 k2 m ap a cp,z=.Call (.Attribute (.Constant (.str y) k1 k2) m ap) [a] [] cp/\(if m="join" /\ y=x/\(ap.endLine==cp.line)=true then some [a] else none)=some xs:=by
 unfold j6 at h
 split at h
 .rename_i e
  split at h
  .rename_i e'
   obtain⟨k1,k2,rfl⟩:=Zz3 e';exact⟨_,k1,k2,_,_,_,_,Z2 e,h⟩
  .cases h
 .cases h
noncomputable def S6(sc:ZK)(x:Expr):Option (ZC):=match Qm x with
 | some (f,[y])=>(match Bz y with
  | .callA o m ap [] cp=>if f="list" /\ Cv sc f=true/\m="values" /\ E1 o=true/\(ap.endLine==cp.line)=true then some [o] else none
  | _=>none)
 | _=>none
theorem Xf{sc:ZK}{x:Expr}{xs:ZC}(h:S6 sc x=some xs):∃f q o m ap cp p,x=.Call (.Name f q) [.Call (.Attribute o m ap) [] [] cp] [] p/\(if f="list" /\ Cv sc f=true/\m="values" /\ E1 o=true/\(ap.endLine==cp.line)=true then some [o] else none)=some xs:=by
 unfold S6 at h
 split at h
 .rename_i e
  obtain⟨q,p,rfl⟩:=Gs e
  split at h
  .rename_i e'
   cases Z2 e';exact⟨_,q,_,_,_,_,p,rfl,h⟩
  .cases h
 .cases h
noncomputable def jc(x:Expr):Option (ZC):=match Bz x with
 | .tup [a]=>some [a]
 | _=>none
theorem jt{x:Expr}{xs:ZC}(h:jc x=some xs):∃a j p,x=.Tuple [a] j p/\some [a]=some xs:=by
 unfold jc at h
 split at h
 .rename_i e
  obtain⟨j,p,e⟩:=Z2 e;exact⟨_,j,p,e,h⟩
 .cases h
noncomputable def vSl2(x:Expr):Option (ZC):=match Bz x with
 | .sub a b=>(match Bz b with
  | .slc none none (some s)=>if con2 s=true then some [a] else none
  | _=>none)
 | _=>none
theorem r8{x:Expr}{xs:ZC}(h:vSl2 x=some xs):∃a s q p,x=.Subscript a (.Slice none none (some s) q) p/\(if con2 s=true then some [a] else none)=some xs:=by
 unfold vSl2 at h
 split at h
 .rename_i e
  obtain⟨p,rfl⟩:=Z2 e
  split at h
  .rename_i e'
   obtain⟨q,rfl⟩:=Z2 e';exact⟨_,_,q,p,rfl,h⟩
  .cases h
 .cases h
noncomputable def lamC(sc:ZK):Expr->ZC->List Keyword->Option (ZC)
 | .Name f _,[a],[kw]=>if f="sorted" /\ Cv sc f=true/\b8 sc kw=true then some [a] else none
 | _,_,_=>none
def Zxg(sc:ZK):Expr->Option (ZC)
 | .Call f as ks _=>lamC sc f as ks
 | _=>none
theorem jh{sc:ZK}{x:Expr}{xs:ZC}(h:Zxg sc x=some xs):∃f q a kw p,x=.Call (.Name f q) [a] [kw] p/\(if f="sorted" /\ Cv sc f=true/\b8 sc kw=true then some [a] else none)=some xs:=by
 cases x
 case Call f as ks p =>
  have h:lamC sc f as ks=some xs:=h;unfold lamC at h
  split at h
  .exact⟨_,_,_,_,p,rfl,h⟩
  .cases h
 all_goals cases h
noncomputable def vBt(sc:ZK)(q:Pr)(x:Expr):Option (ZC):=match Qm x with
 | some (f,a::r)=>(match btV q with
  | some (n,_)=>if f=n/\Cv sc f=true then some (a::r) else none
  | none=>none)
 | _=>none
theorem vBt_ex{sc:ZK}{q:Pr}{x:Expr}{xs:ZC}(h:vBt sc q x=some xs):∃f p0 a r p,x=.Call (.Name f p0) (a::r) [] p/\(match btV q with
  | some (n,_)=>if f=n/\Cv sc f=true then some (a::r) else none
  | none=>none)=some xs:=by
 unfold vBt at h
 split at h
 .rename_i e
  obtain⟨p0,p,rfl⟩:=Gs e;exact⟨_,p0,_,_,p,rfl,h⟩
 .cases h
noncomputable def view(sc:ZK):Pr->Expr->Option (ZC)
 | .op o=>vOp o
 | .cm c=>vCm c
 | .c2 c d=>vC2 c d
 | .neg=>vNeg
 | .ix=>vIx
 | .sl true false=>ja
 | .sl false true=>ji
 | .dnew=>wj
 | .isi n=>vIsi sc n
 | .sset=>js sc
 | .get1=>wx
 | .get2=>j9
 | .join x=>j6 x
 | .lvals=>S6 sc
 | .tup1=>jc
 | .sl2=>vSl2
 | .srtK=>Zxg sc
 | q=>vBt sc q
noncomputable def U3:ZD:=["len","all","any","list","tuple","min","max","int","abs","dict","isinstance","sorted","set","range","zip","enumerate","sum","repr","str","bool"]
structure Ctx(X:Cx)(w:W)(k:Nat)(N:ZD)(sc:ZK):Prop where
 nN:X.N=N
 nd:N.Nodup
 nm:∀x c,sc.lookup x=some c->X.env.scope.names.lookup x=some c\/(c=.free/\X.env.scope.names.lookup x=some .cell)
 calm:X.calm=true
 room:Uc k X.A
 bn:∀x∈U3,X.mg x=none
 fn:∀f as r,w.C f as=some r->∃ps,as.length=ps.length/\Fn X.prog X.w X.K X.mg X.base k f ps (spC X.K X.mg ps.length (w.C f))
 gl:∀x t,w.gl x=some t->∃v u,X.mg x=some u/\RelV v u/\∀H F,IsT X.K X.mg H F t v
 xe:X.xe=lz
 cl:∀x,sc.lookup x=some .cell->X.fn x=true
 lam:sc=Mh->∀T,Rf=some T->nr X T.P/\X.env.qual++Str.ofString "<lambda>"=T.q
section
variable{X:Cx}{w:W}{k:Nat}{N:ZD}{sc:ZK}
theorem Ctx.un(c:Ctx X w k N sc):X.A.units+150<cLine:=by have:=c.room.un;omega
theorem Ctx.gl'(c:Ctx X w k N sc){x:Str}(h:Cv sc x=true):Gl X x/\(x==("__debug__" : Str))=false:=by
 unfold Cv at h;rw[Y8,beq_iff_eq]at h;rcases c.nm x _ h.1 with e | ⟨z,_⟩
 .exact⟨e,by simpa using h.2⟩
 .cases z
theorem Ctx.vis(c:Ctx X w k N sc){x:Str}(h:PV.vis sc x=true):Vis X.env.scope x:=by
 unfold PV.vis at h
 split at h
 .rename_i e
  rcases c.nm x _ e with e | ⟨z,_⟩
  .exact .inl e
  .cases z
 .rename_i e
  rcases c.nm x _ e with e | ⟨z,_⟩
  .exact .inr (.inl e)
  .cases z
 .rename_i e
  rcases c.nm x _ e with e | ⟨_,e⟩
  .exact .inr (.inr e)
  .exact .inr (.inl e)
 .cases h
theorem Ctx.var(c:Ctx X w k N sc){i:Nat}{x:Str}{pos:Pos}(h:J2 N sc i x=true):PE X (.Name x pos) (tVar i):=by
 unfold J2 at h;simp only[Y8,beq_iff_eq]at h;obtain⟨⟨⟨h1,h2⟩,h3⟩,h4⟩:=h;exact k6 (by rw[c.nN];exact h1) (c.vis h2) (by simpa using h3) (by simpa using h4)
theorem Ic{q:Pr}{es:E}{p p':P}{r:Sl}(e:ev w (.pr q es) p=some (r,p')):∃as ts,Jl w true es p=some (as,p')/\looks p' as=some ts/\Ld q ts=some r:=by
 replace e:=(ev_prQ _ _).symm.trans e
 obtain⟨a,e1,e⟩:=ZI.mp e;obtain⟨ts,e2,e⟩:=ZI.mp e;obtain⟨s,e3,e⟩:=Yx.mp e;cases e;exact⟨a.1,ts,e1,e2,e3⟩
mutual
def cj:E->Bool
 | .k _=>true
 | .g _=>true
 | .v _=>true
 | .pr _ es=>Bg es
 | _=>false
def Bg:E->Bool
 | .nil=>true
 | .cons a r=>cj a&&Bg r
 | _=>false
end
mutual
theorem calm_h:∀(a:E) {p p':P} {a':A},cj a=true->P1 true a p (toT (ev w a p))=some (a',p')->p'=p
 | .v i,p,p',a',_,e=>by
  unfold P1 at e;dsimp only at e;rw[if_pos rfl]at e
  split at e
  .cases e;rfl
  .cases e
 | .k t,p,p',a',_,e=>by cases e;rfl
 | .g x,p,p',a',_,e=>by
  have e:(toT ((w.gl x).map λt=>(Sl.f t,p))).map (λq=>(A.t q.1,q.2))=some (a',p'):=e;cases q:w.gl x with
  | none=>rw[q]at e;cases e
  | some t=>rw[q]at e;cases e;rfl
 | .pr q es,p,p',a',h,e=>by
  have e:(toT (ev w (.pr q es) p)).map (λq=>(A.t q.1,q.2))=some (a',p'):=e;obtain⟨z,e1,e2⟩:=Yx.mp e;cases e2;unfold toT at e1;obtain⟨y,e3,e4⟩:=ZI.mp e1;obtain⟨t,e5,e6⟩:=Yx.mp e4;cases e6;obtain⟨as,ts,e7,_,_⟩:=Ic (r:=y.1) (p':=y.2) e3;exact N5 es h e7
 | .mv _,_,_,_,h,_=>by cases h
 | .io _,_,_,_,h,_=>by cases h
 | .nil,_,_,_,h,_=>by cases h
 | .cons _ _,_,_,_,h,_=>by cases h
 | .tup _,_,_,_,h,_=>by cases h
 | .lst _,_,_,_,h,_=>by cases h
 | .and _ _,_,_,_,h,_=>by cases h
 | .or _ _,_,_,_,h,_=>by cases h
 | .not _,_,_,_,h,_=>by cases h
 | .ite _ _ _,_,_,_,h,_=>by cases h
 | .call _ _,_,_,_,h,_=>by cases h
 | .cal _ _,_,_,_,h,_=>by cases h
 | .mt _ _ _,_,_,_,h,_=>by cases h
 | .comp _ _ _ _ _ _,_,_,_,h,_=>by cases h
 | .itr _ _,_,_,_,h,_=>by cases h
 | .tmp _,_,_,_,h,_=>by cases h
theorem N5:∀(es:E) {p p':P} {as:List A},Bg es=true->Jl w true es p=some (as,p')->p'=p
 | .nil,p,p',as,_,e=>(Vw e).2
 | .cons a r,p,p',as,h,e=>by
  obtain⟨a',p1,as',e1,e2,rfl⟩:=Ze e;have h:(cj a&&Bg r)=true:=h;rw[Y8]at h;exact(N5 r h.2 e2).trans (calm_h a h.1 e1)
 | .v _,_,_,_,h,_=>by cases h
 | .k _,_,_,_,h,_=>by cases h
 | .g _,_,_,_,h,_=>by cases h
 | .pr _ _,_,_,_,h,_=>by cases h
 | .mv _,_,_,_,h,_=>by cases h
 | .io _,_,_,_,h,_=>by cases h
 | .tup _,_,_,_,h,_=>by cases h
 | .lst _,_,_,_,h,_=>by cases h
 | .and _ _,_,_,_,h,_=>by cases h
 | .or _ _,_,_,_,h,_=>by cases h
 | .not _,_,_,_,h,_=>by cases h
 | .ite _ _ _,_,_,_,h,_=>by cases h
 | .call _ _,_,_,_,h,_=>by cases h
 | .cal _ _,_,_,_,h,_=>by cases h
 | .mt _ _ _,_,_,_,h,_=>by cases h
 | .comp _ _ _ _ _ _,_,_,_,h,_=>by cases h
 | .itr _ _,_,_,_,h,_=>by cases h
 | .tmp _,_,_,_,h,_=>by cases h
end
noncomputable def quiet:Pr->E->Bool
 | .c2 _ _,.cons _ (.cons _ r)=>Bg r
 | .sl true true,.cons _ (.cons _ r)=>Bg r
 | .get1,.cons _ r=>Bg r
 | .get2,.cons _ r=>Bg r
 | .c2 _ _,_=>false
 | .sl true true,_=>false
 | .get1,_=>false
 | .get2,_=>false
 | _,_=>true
theorem km{b:Expr}(h:Va b=true):Xj b:=λo i=>by cases b<;>first | rfl | cases h
theorem I8{o:Expr}(h:Mb o=true)(m:Str)(env:Env)(wh:Sem Value):attributeBase o m env wh=wh:=by
 cases o<;>first | rfl | cases h
theorem sup_of{o:Expr}(h:E1 o=true)(m:Str)(env:Env)(wh:Sem Value):attributeBase o m env wh=wh:=by
 unfold attributeBase
 split
 .cases h
 .rfl
theorem Zc.valT{K:W.Frag}{mg:ZV}{H F:Hp}:∀{XD:ZX} {ks:List (Key×V)},Zc K mg H F XD ks->Zq K mg H F (XD.map (·.2)) (ks.map (·.2))
 | [],ks,h=>by cases(show ks=[] from h);rfl
 | p::r,ks,h=>by
  obtain⟨q,rs,rfl,i,w⟩:=h;obtain⟨k,t⟩:=p;exact⟨_,_,rfl,i.2,Zc.valT w⟩
theorem Zz9(n:Kd):bootBuiltins (kdS n:Str)=some (.type (kdS n)):=by cases n<;>decide +kernel
theorem ed(n:Kd):(kdS n:Str) ≠ "__name__" := by cases n<;>decide +kernel
theorem Zz8{q:Pr}{n:Str}{fv:Value}(h:btV q=some (n,fv)):bootBuiltins n=some fv/\n ≠ "__name__" /\ n∈U3/\((∃i,fv=.builtin i)\/∃t,fv=.type t):=by
 cases q<;>cases h
 all_goals exact⟨by decide +kernel,by decide +kernel,by decide +kernel,by first | exact .inl ⟨_,rfl⟩ | exact .inr ⟨_,rfl⟩⟩
theorem L6{es:ZC}{env:Env}{cpos:Pos}(h:∀e∈es,noStar e=true)(hl:es.length<30):((backTo cpos (starEach es env)).all (λx=>!x.1)&&(backToKw cpos (keywordEach [] env)).all (λx=>x.1.isSome)
  && decide (es.length+([]:List Keyword).length+(if ([]:List Keyword).isEmpty then 0 else 1)<30))=true:=by
 have h1:(backTo cpos (starEach es env)).all (λx=>!x.1)=true:=by
  rw[List.all_eq_not_any_not];have:=Vq es env cpos h;simp only[Bool.not_not];rw[this];rfl
 rw[h1];show (true&&true&&decide (es.length+0+0<30))=true;rw[Gn XH]
 rfl
theorem bo{env:Env}:closureFor (Mp Vj) env=pure []:=rfl
theorem Pu{K:W.Frag}{mg:ZV}{H F:Hp}{k:Int}{t:T}{v:V}(i:IsT K mg H F t v):∀{l1:List (Int×T)} {l2:List (Int×V)},l1.map (·.1)=l2.map (·.1)->Zq K mg H F (l1.map (·.2)) (l2.map (·.2))->(SRT.Cw (k,t) l1).map (·.1)=(SRT.Cw (k,v) l2).map (·.1)/\Zq K mg H F ((SRT.Cw (k,t) l1).map (·.2)) ((SRT.Cw (k,v) l2).map (·.2))
 | [],[],_,_=>⟨rfl,Zq.one i⟩
 | [],_::_,e,_=>by cases e
 | _::_,[],e,_=>by cases e
 | (a,x)::l1,(b,y)::l2,e,h=>by
  obtain⟨e1,e2⟩:=List.cons.inj e;have e1:a=b:=e1;subst e1;obtain⟨v',r,er,q,w⟩:=h;cases er;unfold SRT.Cw
  split
  .exact⟨congrArg (k::·) (congrArg (a::·) e2),_,_,rfl,i,_,_,rfl,q,w⟩
  .obtain⟨g1,g2⟩:=Pu i e2 w;exact⟨congrArg (a::·) g1,_,_,rfl,q,g2⟩
theorem Qo{K:W.Frag}{mg:ZV}{H F:Hp}:∀{hs:ZL} {ts:ZZ} {vs:ZQ},Zq K mg H F ts vs->(SRT.Jp (hs.zip ts)).map (·.1)=(SRT.Jp (hs.zip vs)).map (·.1)/\Zq K mg H F ((SRT.Jp (hs.zip ts)).map (·.2)) ((SRT.Jp (hs.zip vs)).map (·.2))
 | [],ts,vs,_=>by
  rw[List.zip_nil_left,List.zip_nil_left];exact⟨rfl,rfl⟩
 | _::_,[],vs,h=>by
  cases(show vs=[] from h);exact⟨rfl,rfl⟩
 | k::hs,t::ts,vs,h=>by
  obtain⟨v,r,rfl,q,w⟩:=h;obtain⟨g1,g2⟩:=Qo (hs:=hs) w;exact Pu q g1 g2
theorem Rel.newS{K:W.Frag}{mg:ZV}{F G H H3:Hp}{p:P}{Z:L2.St}{T:TP}(r:Rel K mg F G p Z H)(eT:Rf=some T)(sm:SmT T.P H H3)(tb:Tb T H3){D:Addr}{ts:List PV.T}{vs:ZQ}(hD:H D=none)(h3:H3 D=some (.lst vs))(z:vs.length<=sizeLine)(h:Zq K mg H F ts vs) :
  Up K H H3/\Rel K mg F G p Z H3/\Res K mg F G p Z H3 (.o (.lst ts)) (.ref D):=by
 obtain⟨f1,g1,t1⟩:=r.b.t T eT
 have u:Up K H H3:=λc xs q=>by
  rcases q with (q | ⟨o,q⟩) | q
  .exact .inl (.inl (sm _ _ (t1.ne q ⟨λ_ z=>(nomatch z),λ_ z=>(nomatch z)⟩) q))
  .exact .inl (.inr ⟨o,sm _ _ (t1.ne q Zxh) q⟩)
  .exact .inr q
 have keep:∀{a:Addr} {t:PV.T},Rz K mg H F a t->H3 a=H a:=λ{a t} o=>by
  obtain⟨x,e⟩:=o.some;rw[e];exact sm _ _ (o.ne t1) e
 refine⟨u,⟨⟨λa o e=>sm a o (λz=>by rw[z,f1]at e;cases e) (r.b.f a o e),λa o e=>sm a o (λz=>by rw[z,g1]at e;cases e) (r.b.g a o e),r.b.d,λT' e'=>?_⟩,λi t e=>let ⟨v,h1,h2⟩:=r.fz i t e;⟨v,h1,IsT.up u (Le.refl F) t v h2⟩,λi t e=>let ⟨a,h1,h2,h3,h4⟩:=r.ow i t e;⟨a,h1,h2,h3,h4.up u (Le.refl F) (keep h4)⟩,r.ap,r.ln⟩,D,rfl,?_,?_,⟨vs,h3,z,Zq.up u (Le.refl F) ts vs h⟩,λi t e q=>?_⟩
 .rw[eT]at e';cases e';exact⟨f1,g1,tb⟩
 .cases q:F D with
  | none=>rfl
  | some o=>rw[r.b.f D o q]at hD;cases hD
 .cases q:G D with
  | none=>rfl
  | some o=>rw[r.b.g D o q]at hD;cases hD
 .obtain⟨b,h1,_,_,h4⟩:=r.ow i t e;rw[h1]at q;cases q;obtain⟨o,h5⟩:=h4.some;rw[h5]at hD;cases hD
theorem y9(c:Ctx X w k N sc){q:Pr}{es:E}{x:Expr}{xs:ZC}(hv:view sc q x=some xs)(hs:Hs X w true es xs)(h3:quiet q es=true):PE X x (LE X.K X.mg w (.pr q es)):=by
 intro XM s Z H Q I h;obtain⟨F,G,p,r,p',rel,e,kq⟩:=h;obtain⟨as,ts,e1,e2,e3⟩:=Ic e;have un:=c.un;have kf:∀{F2 H2:Hp},Le F F2->Up X.K H H2->Fin X F2 G p' Z H2 r Q:=λl u F3 H3 v l3 u3=>kq F3 H3 v (l.trans l3) (u.trans u3);unfold view at hv
 split at hv
 .replace hv:=vOp_ex hv
  obtain⟨a,op,b,pp,rfl,hv⟩:=hv
  split at hv
  .rename_i ho
   cases hv;subst ho;cases hs with | cons ha _ t=>cases t with | cons hb _ t=>cases t with | nil =>
   refine pe_op opr ha hb XM s Z H Q I (Wz e1 e2 rel λF2 H2 x y t1 t2 et l u Zs s1 s2=>?_);subst et;exactλXM s σ' v u' I rx ry=>op_run _ I Zs rx ry s1 s2 e3 (kf l u)
  .cases hv
 .replace hv:=wy hv
  obtain⟨a,op,b,pp,rfl,hv⟩:=hv
  split at hv
  .rename_i ho
   cases hv;obtain⟨ho,hm⟩:=ho;subst ho;cases hs with | cons ha _ t=>cases t with | cons hb _ t=>cases t with | nil =>
   refine oq opr ha hb hm XM s Z H Q I (Wz e1 e2 rel λF2 H2 x y t1 t2 et l u Zs s1 s2=>?_);subst et;obtain⟨b,e4,rfl⟩:=Yx.mp e3;exactλXM s σ' v u' I rx ry=>N4 _ I Zs.b.f un rx ry s1 s2 e4 ((kf l u).h Zs rfl)
  .cases hv
 .replace hv:=wk hv
  obtain⟨a,op,Sf,b,e0,pp,rfl,hv⟩:=hv
  split at hv
  .rename_i ho
   cases hv;obtain⟨ho,Rn,hm⟩:=ho;subst ho Rn;cases hs with | cons ha _ t=>cases t with | cons hb _ t=>cases t with | cons hc _ t=>cases t with | nil =>
   obtain⟨a',p1,as1,q1,q2,rfl⟩:=Ze e1;obtain⟨b',p2,as2,q3,q4,rfl⟩:=Ze q2;obtain⟨c',p3,as3,q5,q6,rfl⟩:=Ze q4;obtain⟨rfl,rfl⟩:=Vw q6;obtain⟨t1,r1,l1,l2,rfl⟩:=Zl e2;obtain⟨t2,r2,l3,l4,rfl⟩:=Zl l2;obtain⟨t3,r3,l5,l6,rfl⟩:=Zl l4;cases l6;have ep:=N5 _ h3 q4;subst ep;obtain⟨b1,c1,e3⟩:=ZI.mp e3;refine gk opr opr ha hb hc hm XM s Z H Q I ⟨F,G,p,a',p1,rel,q1,λF1 H1 x zc u1 az Gb=>⟨F1,G,p1,b',_,az,q3,λF2 H2 y Sn u2 Q0 Bi=>?_⟩⟩;have s1:=Q0.look l1 (Ar.up u2 Sn Gb);have s2:=Q0.look l3 Bi;refineλXM s σ' v u' I rx ry=>N4 _ I Q0.b.f un rx ry s1 s2 c1 ⟨b1,rfl,?_⟩;cases b1 with
   | false=>cases e3;exact(kf (zc.trans Sn) (u1.trans u2)).h Q0 rfl
   | true =>
    obtain⟨b2,c2,rfl⟩:=Yx.mp e3;refine⟨F2,G,_,c',_,Q0,q5,λF3 H3 z i5 u3 Aq ar3=>?_⟩;exactλXM s σ' v u' I rx ry=>N4 _ I Aq.b.f un rx ry (Aq.look l3 (Ar.up u3 i5 Bi)) (Aq.look l5 ar3) c2 ((kf ((zc.trans Sn).trans i5) ((u1.trans u2).trans u3)).h Aq rfl)
  .cases hv
 .replace hv:=r9 hv
  obtain⟨a,pp,rfl,hv⟩:=hv;cases hv;cases hs with | cons ha _ t=>cases t with | nil =>
  refine pe_un un_neg ha XM s Z H Q I (Bx e1 e2 rel λF2 H2 x t1 et l u Zs s1=>?_);subst et;cases t1<;>cases e3
  cases(show x=_ from s1);exact⟨_,rfl,(kf l u).h Zs rfl⟩
 .replace hv:=vIx_ex hv
  obtain⟨a,b,pp,rfl,hv⟩:=hv
  split at hv
  .rename_i hn
   cases hv;cases hs with | cons ha _ t=>cases t with | cons hb _ t=>cases t with | nil =>
   refine pe_ix ixr ha hb (km hn) XM s Z H Q I (Wz e1 e2 rel λF2 H2 x y t1 t2 et l u Zs s1 s2=>?_);subst et;obtain⟨z,e4,rfl⟩:=Yx.mp e3;exactλvalue slice XM s σ' v u' I rx ry hs=>ix_run I un rx ry s1 s2 e4 (λv h=>(kf l u).h Zs h) hs
  .cases hv
 .replace hv:=ju hv
  obtain⟨a,l,qq,pp,rfl,hv⟩:=hv;cases hv;cases hs with | cons ha _ t=>cases t with | cons hb _ t=>cases t with | nil =>
  refine Q7 slr ha (Ac hb) An XM s Z H Q I (Wz e1 e2 rel λF2 H2 x y t1 t2 et l u Zs s1 s2=>?_);subst et;obtain⟨i,e4,e5⟩:=ZI.mp e3;cases t2<;>cases e4
  cases(show y=_ from s2);exact⟨_,rfl,λXM s σ' v vl vu sl I rx hs pl pu=>vo I Zs rx s1 hs pl pu e5 (kf l u)⟩
 .replace hv:=jo hv
  obtain⟨a,l,qq,pp,rfl,hv⟩:=hv;cases hv;cases hs with | cons ha _ t=>cases t with | cons hb _ t=>cases t with | nil =>
  refine Q7 slr ha An (Ac hb) XM s Z H Q I (Wz e1 e2 rel λF2 H2 x y t1 t2 et l u Zs s1 s2=>?_);subst et;obtain⟨i,e4,e5⟩:=ZI.mp e3;cases t2<;>cases e4
  cases(show y=_ from s2);exact⟨_,rfl,λXM s σ' v vl vu sl I rx hs pl pu=>vo I Zs rx s1 hs pl pu e5 (kf l u)⟩
 .replace hv:=wq hv
  obtain⟨pp,rfl,hv⟩:=hv;cases hv;cases hs;obtain⟨rfl,rfl⟩:=Vw e1;cases e2;cases e3;exact gw XM s Z H Q I λl hl=>let ⟨r1,r2⟩:=rel.newD (ts:=[]) (vs:=[]) hl (B0 _) rfl;kq F _ _ (Le.refl _) (Zn.lay hl).up r1 r2
 .rename_i n
  replace hv:=sj hv
  obtain⟨f,qq,a,k',q1,pp,rfl,hv⟩:=hv
  split at hv
  .rename_i ho
   cases hv;obtain⟨hf,g1,hk,g2⟩:=ho;subst hf hk;cases hs with | cons ha sa t=>cases t with | nil =>
   obtain⟨gg1,gd1⟩:=c.gl' g1;obtain⟨gg2,gd2⟩:=c.gl' g2;refine Tu Om gg1 (c.bn _ XU) (show bootBuiltins "isinstance"=some (.builtin "isinstance") by decide +kernel) (V2 ha (V2 (gb gg2 (c.bn _ (by cases n<;>decide +kernel)) (Zz9 n) (ed n) gd2) Ds rfl) (Zu sa)) XU gd1 (Zu sa) rfl XM s Z H Q I (Bx e1 e2 rel λF2 H2 x t1 et l u Zs s1=>?_);subst et;obtain⟨b,e4,rfl⟩:=Yx.mp e3;intro XM s σ' us I rs;obtain⟨v1,v2,rfl,r1,r2⟩:=vals2 rs;cases r2;exact Zzw I r1 s1 e4 ((kf l u).h Zs rfl)
  .cases hv
 .replace hv:=jn hv
  obtain⟨f,qq,g,q1,a,p1,pp,rfl,hv⟩:=hv
  split at hv
  .rename_i ho
   cases hv;obtain⟨hf,g1,hk,g2⟩:=ho;subst hf hk;cases hs with | cons ha sa t=>cases t with | nil =>
   obtain⟨gg1,gd1⟩:=c.gl' g1;obtain⟨gg2,gd2⟩:=c.gl' g2;refine Tu Om gg1 (c.bn _ XU) (show bootBuiltins "sorted"=some (.builtin "sorted") by decide +kernel) (V2 (Wq Om gg2 (c.bn _ XU) (show bootBuiltins "set"=some (.type "set") by decide +kernel) (V2 ha Ds (Zu sa)) XU gd2 (Zu sa) rfl) Ds rfl) XU gd1 rfl rfl XM s Z H Q I (Bx e1 e2 rel λF2 H2 x t1 et l u Zs s1=>?_);subst et;have fin:=kf l u;cases t1<;>first | cases e3 | skip
   rename_i ts
   cases ts with
   | cons _ _=>cases e3
   | nil =>
    cases e3;obtain⟨a,vs,rfl,h1,z1,ar⟩:=s1;cases ar;exact vx c.calm (.inl h1) Zs fin
  .cases hv
 .replace hv:=wz hv
  obtain⟨o,m,ap,a,cp,rfl,hv⟩:=hv
  split at hv
  .rename_i ho
   cases hv;obtain⟨hm,hn,hl⟩:=ho;subst hm;cases hs with | cons ha sa t=>cases t with | cons hb sb t=>cases t with | nil =>
   obtain⟨a',p1,as1,q1,q2,rfl⟩:=Ze e1;have ep:=N5 _ h3 q2;subst ep;obtain⟨b',p2,as2,q3,q4,rfl⟩:=Ze q2;obtain⟨rfl,rfl⟩:=Vw q4;obtain⟨t1,r1,l1,l2,rfl⟩:=Zl e2;obtain⟨t2,r2,l3,l4,rfl⟩:=Zl l2;cases l4;cases t1<;>first | cases e3 | skip
   obtain⟨kk,e4,rfl⟩:=Yx.mp e3;refine gy XH ha hb ⟨I8 hn _ _ _,L6 (λe m=>by cases Nm.mp m;exact sb) (Rv (Nat.lt_succ_self 1) XA),hl,by rw[Zu sb];rfl⟩ XM s Z H Q I ⟨F,G,p,a',_,rel,q1,λF1 H1 x zc u1 az Gb=>?_⟩;obtain⟨a,ks,rfl,h1,z1,ar⟩:=az.look l1 Gb;refine⟨a,rfl,.inl ⟨ks,h1⟩,F1,G,_,b',_,az,q3,λF2 H2 y Sn u2 Q0 Bi=>?_⟩;obtain⟨a2,ks2,ea,h2,z2,ar'⟩:=Q0.look l1 (Ar.up u2 Sn Gb);cases ea;cases Mu e4 (Q0.look l3 Bi);obtain⟨i1,i2⟩:=Zc.val kk ar';refine⟨_,.inl ⟨ks2,kk,h2,rfl,rfl⟩,?_⟩;refine(kf (zc.trans Sn) (u1.trans u2)).h Q0 ?_;cases e5:Zg _ kk with
   | none=>rw[i2 e5];rfl
   | some t=>obtain⟨v,h3,h4⟩:=i1 t e5;rw[h3];exact h4
  .cases hv
 .replace hv:=j7 hv
  obtain⟨o,m,ap,a,b,cp,rfl,hv⟩:=hv
  split at hv
  .rename_i ho
   cases hv;obtain⟨hm,hn,hl⟩:=ho;subst hm;cases hs with | cons ha sa t=>cases t with | cons hb sb t=>cases t with | cons hc sc' t=>cases t with | nil =>
   obtain⟨a',p1,as1,q1,q2,rfl⟩:=Ze e1;have ep:=N5 _ h3 q2;subst ep;obtain⟨b',p2,as2,q3,q4,rfl⟩:=Ze q2;obtain⟨c',p3,as3,q5,q6,rfl⟩:=Ze q4;obtain⟨rfl,ep⟩:=Vw q6;subst ep;obtain⟨t1,r1,l1,l2,rfl⟩:=Zl e2;obtain⟨t2,r2,l3,l4,rfl⟩:=Zl l2;obtain⟨t3,r3,l5,l6,rfl⟩:=Zl l4;cases l6;cases t1<;>first | cases e3 | skip
   rename_i XD
   have e3:(if ctn t3=true then none else (keyT t2).map λk=>Sl.f ((Zg XD k).getD t3))=some r:=e3
   split at e3
   .cases e3
   rename_i hct
   obtain⟨kk,e4,rfl⟩:=Yx.mp e3;refine gv XH ha hb hc ⟨I8 hn _ _ _,L6 (λe m=>by rcases Yf.mp m with rfl | m;exact sb;cases Nm.mp m;exact sc') (Rv (Nat.lt_succ_self 2) XA),hl,by rw[Zu sb,Zu sc'];rfl⟩ XM s Z H Q I ⟨F,G,p,a',_,rel,q1,λF1 H1 x zc u1 az Gb=>?_⟩;obtain⟨a,ks,rfl,h1,z1,ar⟩:=az.look l1 Gb;refine⟨a,rfl,.inl ⟨ks,h1⟩,F1,G,_,b',_,az,q3,λF2 H2 y Sn u2 Q0 Bi=>⟨F2,G,_,c',_,Q0,q5,λF3 H3 z i5 u3 Aq ar3=>?_⟩⟩;obtain⟨a2,ks2,ea,h2,z2,ar'⟩:=Aq.look l1 (Ar.up (u2.trans u3) (Sn.trans i5) Gb);cases ea;cases Mu e4 (Aq.look l3 (Ar.up u3 i5 Bi));obtain⟨i1,i2⟩:=Zc.val kk ar';refine⟨_,.inl ⟨ks2,kk,h2,rfl,rfl⟩,?_⟩;refine(kf (zc.trans (Sn.trans i5)) (u1.trans (u2.trans u3))).h Aq ?_;cases e5:Zg _ kk with
   | none =>
    rw[i2 e5];have s3:=Aq.look l5 ar3;cases t3 with
    | lst _=>exact absurd rfl hct
    | dct _=>exact absurd rfl hct
    | _=>exact s3
   | some t=>obtain⟨v,h3,h4⟩:=i1 t e5;rw[h3];exact h4
  .cases hv
 .replace hv:=j5 hv
  obtain⟨y,k1,k2,m,ap,a,cp,rfl,hv⟩:=hv
  split at hv
  .rename_i ho
   cases hv;obtain⟨hm,hy,hl⟩:=ho;subst hm hy;cases hs with | cons ha sa t=>cases t with | nil =>
   refine Q9 PySem.F.plainAttrs_str PySem.F.slot_str_join PySem.F.type_str_join (λXM s Z H x xs v us Q I rx rs h=>ig XM s Z H x xs v us Q I rx rs h) k9 (V2 ha Ds (Zu sa)) rfl (L6 (λe m=>by cases Nm.mp m;exact sa) (Rv (Nat.lt_succ_self 1) XA)) hl (Zu sa) rfl XM s Z H Q I ⟨?_,Bx e1 e2 rel λF2 H2 x t1 et l u Zs s1=>?_⟩
   .rfl
   subst et;cases t1<;>first | cases e3 | skip
   obtain⟨ss,e4,e5⟩:=ZI.mp e3
   split at e5
   .rename_i hz
    cases e5;obtain⟨a,vs,rfl,h1,z1,ar⟩:=s1;exact⟨_,a,ss,rfl,rfl,.inl (by rw[<-ar.strs e4];exact h1),hz,(kf l u).h Zs rfl⟩
   .cases e5
  .cases hv
 .replace hv:=Xf hv
  obtain⟨f,qq,o,m,ap,cp,pp,rfl,hv⟩:=hv
  split at hv
  .rename_i ho
   cases hv;obtain⟨hf,g1,hm,hn,hl⟩:=ho;subst hf hm;cases hs with | cons ha sa t=>cases t with | nil =>
   obtain⟨gg1,gd1⟩:=c.gl' g1;refine Q8 c.calm gg1 (c.bn _ XU) ha (sup_of hn _ _ _) hl rfl XM s Z H Q I (Bx e1 e2 rel λF2 H2 x t1 et l u Zs s1=>?_);subst et;cases t1<;>first | cases e3 | skip
   obtain⟨a,ks,rfl,h1,z1,ar⟩:=s1;exact⟨a,ks,rfl,h1,λl' hl'=>(kf l u).l Zs hl' (by rw[Yc];exact z1) ar.valT⟩
  .cases hv
 .replace hv:=jt hv
  obtain⟨a,jj,pp,rfl,hv⟩:=hv;cases hv;cases hs with | cons ha sa t=>cases t with | nil =>
  refine k7 (V2 ha Ds (Zu sa)) XM s Z H Q I (Bx e1 e2 rel λF2 H2 x t1 et l u Zs s1=>?_);subst et;have e3:(if scal t1=true then some (Sl.f (.tup [t1])) else none)=some r:=e3
  split at e3
  .rename_i hz
   cases e3;have it:IsT X.K X.mg H2 F2 t1 x:=by cases t1<;>first | exact s1 | cases hz
   have one:(1:Nat)<=sizeLine:=by have:=sizeLine_eq;omega
   exact⟨one,λq hq=>(kf l u).f Zs (Zn.lay hq) ⟨q,[x],rfl,Y1.of Zx,one,Zq.up (Zn.lay hq).up (Le.refl _) _ _ (Zq.one it)⟩⟩
  .cases e3
 .replace hv:=r8 hv
  obtain⟨a,s0,qq,pp,rfl,hv⟩:=hv
  split at hv
  .rename_i ho
   cases hv;obtain⟨k1,k2,rfl⟩:=Zz4 ho;cases hs with | cons ha _ t=>cases t with | nil =>
   refine oz ha XM s Z H Q I (Bx e1 e2 rel λF2 H2 x t1 et l u Zs s1=>?_);subst et;obtain⟨q,e4,rfl⟩:=Yx.mp e3;cases thr_is e4;obtain⟨a,vs,rfl,h1,z1,v1,r1,rfl,i1,v2,r2,rfl,i2,v3,r3,rfl,i3,e5⟩:=s1;cases(show r3=[] from e5);exact⟨a,v1,v2,v3,rfl,h1,λl' hl=>(kf l u).f Zs (Zn.lay hl) ⟨l',_,rfl,Y1.of Zx,by have:=sizeLine_eq;show 2<=sizeLine;omega,Zq.up (Zn.lay hl).up (Le.refl _) [q.1,q.2.2] [v1,v3] ⟨_,_,rfl,i1,_,_,rfl,i3,rfl⟩⟩⟩
  .cases hv
 .replace hv:=jh hv
  obtain⟨f,qq,a,kw,pp,rfl,hv⟩:=hv
  split at hv
  .rename_i ho
   cases hv;obtain⟨hf,g1,hk⟩:=ho;subst hf;obtain⟨esc,T,p0,p1,p2,p3,kp,eT,rfl⟩:=b7 hk;cases hs with | cons ha sa t=>cases t with | nil =>
   obtain⟨gg1,gd1⟩:=c.gl' g1;obtain⟨LA,eq⟩:=c.lam esc T eT;refine Q6 c.room LA gg1 (c.bn _ XU) (V2 ha Ds (Zu sa)) bo rfl (by rw[Zu sa];rfl) (by rw[Zu sa];rfl) XM s Z H Q I (Bx e1 e2 rel λF2 H2 x t1 et l u Zs s1=>?_);subst et;cases t1<;>first | cases e3 | skip
   rename_i ts
   obtain⟨hs,e4,e5⟩:=ZI.mp e3
   split at e5
   .rename_i hn
    cases e5;obtain⟨a,vs,rfl,h1,z1,ar⟩:=s1;obtain⟨g1,g2⟩:=ar.heads e4;have vl:=ar.length;obtain⟨f1,_,ps,hP,ok⟩:=Zs.b.t T eT;rw[eq];refine⟨a,vs,hs,ps,rfl,.inl h1,by omega,hP,ok,⟨by omega,λi x k hx hk=>?_⟩,λD Sg qs H3 sm hP3 ok3 hD h3 pm pw=>?_⟩
    .obtain⟨hi,ei⟩:=Rk.mp hx;obtain⟨b,ws,eb,sq⟩:=g2 i hi;rw[List.getD_eq_getElem?_getD,hx]at eb;rw[List.getD_eq_getElem?_getD,hk]at sq;exact⟨b,ws,eb,sq⟩
    .have en:(qs.map (·.1)).Nodup:=by
      refine((pm.map (·.1)).nodup_iff).mpr ?_;rw[List.map_fst_zip XH];exact hn.1
     have es:qs=SRT.Jp (hs.zip vs):=SRT.Hr pm ((pw.and (List.pairwise_map.mp en)).imp λ{x y} h=>by
      have:=h.1;have:=h.2;omega)
     subst es;have Bi:=(Qo (hs:=hs) ar).2
     obtain⟨u3,r3,q3⟩:=Zs.newS eT sm ⟨Sg,hP3,ok3⟩ hD h3 (by
      have:=pm.length_eq;rw[Yc];rw[List.length_zip]at this;omega) Bi
     exact(kf l u) F2 H3 _ (Le.refl _) u3 r3 q3
   .cases e5
  .cases hv
 .replace hv:=vBt_ex hv
  obtain⟨f,p0,a,r',pp,rfl,hv⟩:=hv
  split at hv
  .rename_i n fv hb
   split at hv
   .rename_i ho
    cases hv;obtain⟨hf,g1⟩:=ho;subst hf;obtain⟨b1,b2,b3,b4⟩:=Zz8 hb;obtain⟨gg,gd⟩:=c.gl' g1;have Li:=hs.star;have fin:LA X.K X.mg w true es Z H λvs H1=>rC X fv vs H1 Q:=readN e1 e2 rel λF2 H2 vs l u Zs se=>λXM s σ' us I rs=>bt_run hb c.calm un c.room.gd I Zs rs se e3 (kf l u);rcases b4 with ⟨i,rfl⟩ | ⟨i,rfl⟩
    .exact Tu Om gg (c.bn _ b3) b1 hs.pa b2 gd (Zu (Li _ Yu)) (Vq _ _ _ λe m=>Li e (Y3 _ m)) XM s Z H Q I fin
    .exact Wq Om gg (c.bn _ b3) b1 hs.pa b2 gd (Zu (Li _ Yu)) (Vq _ _ _ λe m=>Li e (Y3 _ m)) XM s Z H Q I fin
   .cases hv
  .cases hv
end
noncomputable def conK(t:T)(c:PySem.Const):Bool:=match t with
 | .int i=>(match c with
  | .int j=>i==j
  | _=>false)
 | .str a=>(match c with
  | .str b=>a==b
  | _=>false)
 | .bl a=>(match c with
  | .bool b=>a==b
  | _=>false)
 | .non=>(match c with
  | .none=>true
  | _=>false)
 | _=>false
def repK(t:T)(x:Expr):Bool:=match x with
 | .Constant c _ _=>conK t c
 | _=>false
def isIo:E->Bool
 | .io _=>true
 | _=>false
def Jx:E->Bool
 | .cons a r=>!isIo a&&Jx r
 | _=>true
section
variable{X:Cx}{w:W}{k:Nat}{N:ZD}{sc:ZK}
theorem snd_k{t:T}{x:Expr}(h:repK t x=true):PE X x (LE X.K X.mg w (.k t)):=by
 have fin:∀{v:V},(∀H F,IsT X.K X.mg H F t v)->∀Z H Q,LE X.K X.mg w (.k t) Z H Q->tC v Z H Q:=λhv Z H Q ⟨F,G,p,r,p',rel,e,kq⟩=>by
  cases e;exact kq F H _ (Le.refl F) (Up.refl H) rel (hv H F)
 cases x with
 | Constant c q pos =>
  replace h:conK t c=true:=h
  cases t with
  | int i=>cases c with
   | int j=>cases eq_of_beq (show (i==j)=true from h);exact PE.imp gq (fin λ_ _=>rfl)
   | _=>cases(show false=true from h)
  | str i=>cases c with
   | str j=>cases eq_of_beq (show (i==j)=true from h);exact PE.imp k9 (fin λ_ _=>rfl)
   | _=>cases(show false=true from h)
  | bl i=>cases c with
   | bool j=>cases eq_of_beq (show (i==j)=true from h);exact PE.imp pe_bl (fin λ_ _=>rfl)
   | _=>cases(show false=true from h)
  | non=>cases c with
   | none=>exact PE.imp pe_non (fin λ_ _=>rfl)
   | _=>cases(show false=true from h)
  | _=>cases(show false=true from h)
 | _=>cases(show false=true from h)
theorem Av{F G H:Hp}{p p':P}{Z:L2.St}{i:Nat}{t:T}(rel:Rel X.K X.mg F G p Z H)(e:read p i=some (t,p')):∃F' v,Le F F'/\Rel X.K X.mg F' G p' Z H/\Z[i]?=some (some v)/\IsT X.K X.mg H F' t v:=by
 unfold read at e
 split at e
 .rename_i u q
  cases e;obtain⟨v,h1,h2⟩:=rel.fz i _ q;exact⟨F,v,Le.refl F,rel,h1,h2⟩
 .rename_i u q
  cases e;exact rel.freezeAt q
 .cases e
theorem snd_v(c:Ctx X w k N sc){i:Nat}{y:Str}{pos:Pos}(h:J2 N sc i y=true):PE X (.Name y pos) (LE X.K X.mg w (.v i)):=by
 intro XM s Z H Q I ⟨F,G,p,r,p',rel,e,kq⟩
 replace e:=(ev_vQ _).symm.trans e
 obtain⟨q,e1,e2⟩:=Yx.mp e;cases e2;obtain⟨F',v,l,Yj,hv,ht⟩:=Av rel e1;exact c.var h XM s Z H Q I ⟨v,hv,kq F' H v l (Up.refl H) Yj ht⟩
theorem snd_mv(c:Ctx X w k N sc){i:Nat}{y:Str}{pos:Pos}(h:J2 N sc i y=true):PE X (.Name y pos) (LE X.K X.mg w (.mv i)):=by
 intro XM s Z H Q I ⟨F,G,p,r,p',rel,e,kq⟩
 replace e:=(ev_mvQ _).symm.trans e
 split at e
 .rename_i t q
  cases e;obtain⟨a,h1,h2,h3,h4⟩:=rel.ow i t q;refine c.var h XM s Z H Q I ⟨.ref a,h1,kq F H _ (Le.refl F) (Up.refl H) (rel.drop i) ⟨a,rfl,h2,h3,h4,λj u e z=>?_⟩⟩;rcases Z0 e with ⟨_,y⟩ | ⟨n,e⟩
  .cases y
  .exact n (rel.ap j i u t a e q z h1)
 .rename_i t q
  cases e;obtain⟨v,h1,h2⟩:=rel.fz i t q;exact c.var h XM s Z H Q I ⟨v,h1,kq F H _ (Le.refl F) (Up.refl H) rel h2⟩
 .cases e
theorem snd_hd{m:Bool}{a:E}{x:Expr}(hio:∀i,a≠.io i)(hv:∀i,a≠.v i)(h:PE X x (LE X.K X.mg w a)):PE X x (LH X.K X.mg w m a):=by
 intro XM s Z H Q I ⟨F,G,p,a',p',rel,e,kq⟩
 have e:(toT (ev w a p)).map (λq=>(A.t q.1,q.2))=some (a',p'):=by
  unfold P1 at e
  split at e
  .exact absurd rfl (hio _)
  .exact absurd rfl (hv _)
  .exact e
 obtain⟨z,e1,e2⟩:=Yx.mp e;cases e2;unfold toT at e1;obtain⟨y,e3,e4⟩:=ZI.mp e1;obtain⟨t,e5,e6⟩:=Yx.mp e4;cases e6;refine h XM s Z H Q I ⟨F,G,p,y.1,y.2,rel,e3,λF1 H1 v l1 u1 Zo rs=>?_⟩;obtain⟨F2,l2,Zs,ht⟩:=Zo.thaw e5 rs;exact kq F2 H1 v (l1.trans l2) u1 Zs ht
theorem snd_hv(c:Ctx X w k N sc){m:Bool}{i:Nat}{y:Str}{pos:Pos}(h:J2 N sc i y=true):PE X (.Name y pos) (LH X.K X.mg w m (.v i)):=by
 intro XM s Z H Q I ⟨F,G,p,a',p',rel,e,kq⟩;unfold P1 at e;dsimp only at e
 split at e
 .split at e
  .rename_i hd
   cases e;unfold done at hd
   split at hd
   .rename_i t q
    obtain⟨v,h1,h2⟩:=rel.fz i t q;exact c.var h XM s Z H Q I ⟨v,h1,kq F H v (Le.refl F) (Up.refl H) rel h1⟩
   .rename_i t q
    obtain⟨a,h1,_⟩:=rel.ow i t q;exact c.var h XM s Z H Q I ⟨_,h1,kq F H _ (Le.refl F) (Up.refl H) rel h1⟩
   .cases hd
  .cases e
 .obtain⟨q,e1,e2⟩:=Yx.mp e;cases e2;obtain⟨F',v,l,Yj,hv,ht⟩:=Av rel e1;exact c.var h XM s Z H Q I ⟨v,hv,kq F' H v l (Up.refl H) Yj ht⟩
theorem T1:∀(es:E) {xs:ZC},Hs X w false es xs->∀{p p':P} {as:List A},Jl w false es p=some (as,p')->Jx es=true->∀a∈as,∃t,a=A.t t
 | _,_,.nil,p,p',as,e,_,a,m=>by rw[(Vw e).1]at m;exact absurd m Ve
 | .cons b r,_,.cons _ _ t,p,p',as,e,h,a,m=>by
  obtain⟨a',p1,as',e1,e2,rfl⟩:=Ze e;have h:(!isIo b&&Jx r)=true:=h;rw[Y8]at h;rcases Yf.mp m with rfl | m
  .have key:∀x,P1 false b p x=some (a,p1)->isIo b=false->∃t,a=A.t t:=λx e h=>by
    unfold P1 at e
    split at e
    .cases h
    .obtain⟨q,_,e3⟩:=Yx.mp (show (read p _).map _=_ from e);cases e3;exact⟨_,rfl⟩
    .obtain⟨q,_,e3⟩:=Yx.mp e;cases e3;exact⟨_,rfl⟩
   exact key _ e1 (by simpa using h.1)
  .exact T1 r t e2 h.2 a m
theorem uq{es:E}{xs:ZC}{j:Nat}{pos:Pos}(hs:Hs X w false es xs)(hn:Jx es=true):PE X (.Tuple xs j pos) (LE X.K X.mg w (.tup es)):=by
 intro XM s Z H Q I ⟨F,G,p,r,p',rel,e,kq⟩
 replace e:=(Zzp _).symm.trans e
 obtain⟨a,e1,e⟩:=ZI.mp e;obtain⟨ts,e2,e⟩:=ZI.mp e
 split at e
 .rename_i hz
  cases e;have nt:=T1 es hs e1 hn;refine k7 hs.pa XM s Z H Q I ⟨F,G,p,a.1,a.2,rel,e1,λF1 H1 vs l1 u1 Zo ar=>?_⟩;have at':=Nw nt e2 ar;refine⟨by rw[<-at'.length];exact hz,λq hq=>kq F1 _ _ l1 (u1.trans (Zn.lay hq).up) (Zo.same (Zn.lay hq)) ⟨q,vs,rfl,Y1.of Zx,by rw[<-at'.length];exact hz,Zq.up (Zn.lay hq).up (Le.refl _) _ _ at'⟩⟩
 .cases e
theorem uy{es:E}{xs:ZC}{pos:Pos}(hs:Hs X w false es xs)(hn:Jx es=true):PE X (.List xs pos) (LE X.K X.mg w (.lst es)):=by
 intro XM s Z H Q I ⟨F,G,p,r,p',rel,e,kq⟩
 replace e:=(Zza _).symm.trans e
 obtain⟨a,e1,e⟩:=ZI.mp e;obtain⟨ts,e2,e⟩:=ZI.mp e
 split at e
 .rename_i hz
  cases e;have nt:=T1 es hs e1 hn;refine pe_lst hs.pa XM s Z H Q I ⟨F,G,p,a.1,a.2,rel,e1,λF1 H1 vs l1 u1 Zo ar=>?_⟩;have at':=Nw nt e2 ar;have z:vs.length<=sizeLine:=by rw[<-at'.length];exact hz
  exact⟨z,λq hq=>let ⟨r1,r2⟩:=Zo.newL hq z at';kq F1 _ _ l1 (u1.trans (Zn.lay hq).up) r1 r2⟩
 .cases e
theorem Zx0{e:E}{Z:L2.St}{H:Hp}{R:Bool->Hp->Prop}(h:LB X.K X.mg w e Z H R):LE X.K X.mg w e Z H λv H'=>∃b,v=.bl b/\R b H':=by
 obtain⟨F,G,p,b,p',rel,e,kq⟩:=h;unfold Ji at e;obtain⟨y,e1,e2⟩:=ZI.mp e
 split at e2
 .rename_i b' q
  cases e2;refine⟨F,G,p,y.1,y.2,rel,e1,λF' H' v l u Yj rs=>?_⟩;rw[q]at rs;exact⟨_,rs,kq F' H' l u Yj⟩
 .cases e2
theorem Zxt{e:E}{x:Expr}(h:PE X x (LE X.K X.mg w e))(he:∀whole,isTrue x X.env whole=(do let v <-whole;standAt x.pos;holding [v] (truthy v))):PT X x (LB X.K X.mg w e):=λXM s Z H R I q=>by
 refine pt_val h he XM s Z H R I ?_;obtain⟨F,G,p,r,p',rel,e,kq⟩:=Zx0 q;exact⟨F,G,p,r,p',rel,e,λF' H' v l u Yj rs=>let ⟨b,e1,h1⟩:=kq F' H' v l u Yj rs;⟨b,e1,h1⟩⟩
theorem Nc{o:Option (Sl×P)}{b:Bool}{p:P}(h:Ji o=some (b,p)):o=some (.f (.bl b),p):=by
 unfold Ji at h;obtain⟨y,e1,e2⟩:=ZI.mp h
 split at e2
 .rename_i b' q
  cases e2;rw[e1, <-q]
 .cases e2
theorem snd_and{a b:E}{x y:Expr}{r:ZC}{pos:Pos}(ha:PE X x (LE X.K X.mg w a))(hb:PE X (.BoolOp .And (y::r) pos) (LE X.K X.mg w b)):PE X (.BoolOp .And (x::y::r) pos) (LE X.K X.mg w (.and a b)):=by
 intro XM s Z H Q I ⟨F,G,p,r',p',rel,e,kq⟩
 replace e:=(Ir _ _).symm.trans e
 obtain⟨q,e1,e2⟩:=ZI.mp e;refine pe_and ha hb XM s Z H Q I ⟨F,G,p,_,_,rel,Nc e1,λF' H' v l u Yj rs=>⟨q.1,rs,?_⟩⟩
 split
 .rename_i hq
  rw[if_pos hq]at e2;exact⟨F',G,q.2,r',p',Yj,e2,λF2 H2 v l2 u2=>kq F2 H2 v (l.trans l2) (u.trans u2)⟩
 .rename_i hq
  rw[if_neg hq]at e2;cases e2;exact kq F' H' _ l u Yj rfl
theorem snd_or{a b:E}{x y:Expr}{r:ZC}{pos:Pos}(ha:PE X x (LE X.K X.mg w a))(hb:PE X (.BoolOp .Or (y::r) pos) (LE X.K X.mg w b)):PE X (.BoolOp .Or (x::y::r) pos) (LE X.K X.mg w (.or a b)):=by
 intro XM s Z H Q I ⟨F,G,p,r',p',rel,e,kq⟩
 replace e:=(tz _ _).symm.trans e
 obtain⟨q,e1,e2⟩:=ZI.mp e;refine pe_or ha hb XM s Z H Q I ⟨F,G,p,_,_,rel,Nc e1,λF' H' v l u Yj rs=>⟨q.1,rs,?_⟩⟩
 split
 .rename_i hq
  rw[if_pos hq]at e2;cases e2;exact kq F' H' _ l u Yj rfl
 .rename_i hq
  rw[if_neg hq]at e2;exact⟨F',G,q.2,r',p',Yj,e2,λF2 H2 v l2 u2=>kq F2 H2 v (l.trans l2) (u.trans u2)⟩
theorem uv{a:E}{x:Expr}{pos:Pos}(ha:PE X x (LE X.K X.mg w a)):PE X (.UnaryOp .Not x pos) (LE X.K X.mg w (.not a)):=by
 intro XM s Z H Q I ⟨F,G,p,r',p',rel,e,kq⟩
 replace e:=(Il _).symm.trans e
 obtain⟨q,e1,e2⟩:=Yx.mp e;cases e2;exact pe_not ha XM s Z H Q I ⟨F,G,p,_,_,rel,Nc e1,λF' H' v l u Yj rs=>⟨q.1,rs,kq F' H' _ l u Yj rfl⟩⟩
theorem ug{a b c:E}{x y z:Expr}{pos:Pos}(hc:PT X z (LB X.K X.mg w c))(ha:PE X x (LE X.K X.mg w a))(hb:PE X y (LE X.K X.mg w b)):PE X (.IfExp z x y pos) (LE X.K X.mg w (.ite c a b)):=by
 intro XM s Z H Q I ⟨F,G,p,r',p',rel,e,kq⟩
 replace e:=(Zzi _ _ _).symm.trans e
 obtain⟨q,e1,e2⟩:=ZI.mp e;refine gj hc ha hb XM s Z H Q I ⟨F,G,p,q.1,q.2,rel,e1,λF' H' l u Yj=>?_⟩;show if q.1=true then LE X.K X.mg w a Z H' Q else LE X.K X.mg w b Z H' Q
 split
 .rename_i hq
  rw[if_pos hq]at e2;exact⟨F',G,q.2,r',p',Yj,e2,λF2 H2 v l2 u2=>kq F2 H2 v (l.trans l2) (u.trans u2)⟩
 .rename_i hq
  rw[if_neg hq]at e2;exact⟨F',G,q.2,r',p',Yj,e2,λF2 H2 v l2 u2=>kq F2 H2 v (l.trans l2) (u.trans u2)⟩
theorem p6{a b:E}{x y:Expr}{r:ZC}{pos:Pos}(ha:PT X x (LB X.K X.mg w a))(hb:PW X (.BoolOp .And (y::r) pos) (LB X.K X.mg w b)):PW X (.BoolOp .And (x::y::r) pos) (LB X.K X.mg w (.and a b)):=by
 intro wh XM s Z H Q I ⟨F,G,p,c,p',rel,e,kq⟩;have e:=Nc e
 replace e:=(Ir _ _).symm.trans e
 obtain⟨q,e1,e2⟩:=ZI.mp e;refine pw_and ha hb wh XM s Z H Q I ⟨F,G,p,q.1,q.2,rel,e1,λF' H' l u Yj=>?_⟩;show if q.1=true then LB X.K X.mg w b Z H' Q else Q false H'
 split
 .rename_i hq
  rw[if_pos hq]at e2;exact⟨F',G,q.2,c,p',Yj,by unfold Ji;rw[e2];rfl,λF2 H2 l2 u2=>kq F2 H2 (l.trans l2) (u.trans u2)⟩
 .rename_i hq
  rw[if_neg hq]at e2;cases e2;exact kq F' H' l u Yj
theorem snt_or{a b:E}{x y:Expr}{r:ZC}{pos:Pos}(ha:PT X x (LB X.K X.mg w a))(hb:PW X (.BoolOp .Or (y::r) pos) (LB X.K X.mg w b)):PW X (.BoolOp .Or (x::y::r) pos) (LB X.K X.mg w (.or a b)):=by
 intro wh XM s Z H Q I ⟨F,G,p,c,p',rel,e,kq⟩;have e:=Nc e
 replace e:=(tz _ _).symm.trans e
 obtain⟨q,e1,e2⟩:=ZI.mp e;refine pw_or ha hb wh XM s Z H Q I ⟨F,G,p,q.1,q.2,rel,e1,λF' H' l u Yj=>?_⟩;show if q.1=true then Q true H' else LB X.K X.mg w b Z H' Q
 split
 .rename_i hq
  rw[if_pos hq]at e2;cases e2;exact kq F' H' l u Yj
 .rename_i hq
  rw[if_neg hq]at e2;exact⟨F',G,q.2,c,p',Yj,by unfold Ji;rw[e2];rfl,λF2 H2 l2 u2=>kq F2 H2 (l.trans l2) (u.trans u2)⟩
theorem p5{a:E}{x:Expr}{pos:Pos}(ha:PT X x (LB X.K X.mg w a)):PT X (.UnaryOp .Not x pos) (LB X.K X.mg w (.not a)):=by
 intro XM s Z H Q I ⟨F,G,p,c,p',rel,e,kq⟩;have e:=Nc e
 replace e:=(Il _).symm.trans e
 obtain⟨q,e1,e2⟩:=Yx.mp e;cases e2;exact pt_not ha XM s Z H Q I ⟨F,G,p,q.1,q.2,rel,e1,λF' H' l u Yj=>kq F' H' l u Yj⟩
open Classical in
theorem Rel.freezeAll{K:PySem.W.Frag}{mg:ZV}{F G H:Hp}{p:P}{Z:L2.St}(r:Rel K mg F G p Z H):∃F',Le F F'/\Rel K mg F' G (frz p) Z H/\∀(i:Nat) (t:T) (a:Addr),p[i]?=some (Sl.o t)->Z[i]?=some (some (V.ref a))->F' a=H a:=by
 let F':Hp:=λa=>if ∃(i:Nat) (t:T),p[i]?=some (Sl.o t)/\Z[i]?=some (some (V.ref a)) then H a else F a
 have fI:∀{a:Addr} {i:Nat} {t:T},p[i]?=some (Sl.o t)->Z[i]?=some (some (V.ref a))->F' a=H a:=λ{a i t} h1 h2=>if_pos ⟨i,t,h1,h2⟩;have fO:∀{a:Addr},(¬ ∃(i:Nat) (t:T),p[i]?=some (Sl.o t)/\Z[i]?=some (some (V.ref a)))->F' a=F a:=λ{a} h=>if_neg h
 have l:Le F F':=λa o e=>by
  refine(fO λ⟨i,t,h1,h2⟩=>?_).trans e;obtain⟨b,h3,h4,_⟩:=r.ow i t h1;rw[h2]at h3;cases h3;rw[e]at h4;cases h4
 refine⟨F',l,⟨⟨λa o e=>?_,r.b.g,λa e=>?_,λT e=>let ⟨f1,g1,t1⟩:=r.b.t T e;⟨(fO λ⟨i,t,h1,h2⟩=>by
  obtain⟨b,h3,_,_,h4⟩:=r.ow i t h1;rw[h2]at h3;cases h3;exact h4.ne t1 rfl).trans f1,g1,t1⟩⟩,λi t e=>?_,λi t e=>?_,λi j t u a e=>?_,by unfold frz;rw[Yc];exact r.ln⟩,λi t a h1 h2=>fI h1 h2⟩
 .by_cases h:∃(i:Nat) (t:T),p[i]?=some (Sl.o t)/\Z[i]?=some (some (V.ref a))
  .obtain⟨i,t,h1,h2⟩:=h;rw[fI h1 h2]at e;exact e
  .rw[fO h]at e;exact r.b.f a o e
 .by_cases h:∃(i:Nat) (t:T),p[i]?=some (Sl.o t)/\Z[i]?=some (some (V.ref a))
  .obtain⟨i,t,h1,h2⟩:=h;obtain⟨b,h3,_,h5,_⟩:=r.ow i t h1;rw[h2]at h3;cases h3;exact h5
  .rw[fO h]at e;exact r.b.d a e
 .unfold frz at e;rw[Qv]at e;obtain⟨x,e1,e2⟩:=Yx.mp e;cases x with
  | no=>cases e2
  | f u =>
   cases e2;obtain⟨v,h1,h2⟩:=r.fz i _ e1;exact⟨v,h1,IsT.up (Up.refl H) l _ v h2⟩
  | o u =>
   cases e2;obtain⟨a,h1,h2,h3,h4⟩:=r.ow i _ e1;obtain⟨o,ho⟩:=h4.some;exact⟨_,h1,To h4 ho l ((fI e1 h1).trans ho)⟩
 .unfold frz at e;rw[Qv]at e;obtain⟨x,e1,e2⟩:=Yx.mp e;cases x<;>cases e2
 .unfold frz at e;rw[Qv]at e;obtain⟨x,e1,e2⟩:=Yx.mp e;cases x<;>cases e2
theorem Qt{o:Option (Sl×P)}{q:T×P}(e:toF o=some q):∃y:Sl×P,o=some y/\y=(.f q.1,q.2):=by
 unfold toF at e;obtain⟨⟨r,p⟩,e1,e2⟩:=ZI.mp e;cases r with
 | f t=>cases e2;exact⟨_,e1,rfl⟩
 | _=>cases e2
theorem uw{a:E}{x:Expr}(ha:PE X x (LE X.K X.mg w a)):PE X x (LE X.K X.mg w (.tmp a)):=by
 intro XM s Z H Q I ⟨F,G,p,r,p',rel,e,kq⟩
 replace e:=(Zzu _).symm.trans e
 obtain⟨q,e1,e2⟩:=ZI.mp e
 split at e2
 .rename_i hs
  cases e2;obtain⟨F1,l1,Zo,own⟩:=rel.freezeAll;obtain⟨⟨y,p1⟩,e3,e4⟩:=Qt e1;cases e4;refine ha XM s Z H Q I ⟨F1,G,frz _,_,_,Zo,e3,λF2 H2 v l2 u2 Zs rs=>?_⟩;obtain⟨F3,l3,Nl,ht⟩:=Zs.thaw (t:=q.1) rfl rs;have l13:=l2.trans l3
  have rel0:Rel X.K X.mg F G _ Z H2:=⟨⟨λa o e=>Nl.b.f a o (l13 a o (l1 a o e)),Nl.b.g,rel.b.d,λT e=>⟨(rel.b.t T e).f,(rel.b.t T e).g,(Nl.b.t T e).h⟩⟩,λi t e=>let ⟨v,h1,h2⟩:=rel.fz i t e;⟨v,h1,IsT.up u2 (Le.refl F) t v h2⟩,λi t e=>by
   obtain⟨a,h1,h2,h3,h4⟩:=rel.ow i t e;obtain⟨o,ho⟩:=h4.some;exact⟨a,h1,h2,h3,h4.up u2 (Le.refl F) ((Nl.b.f a o (l13 a o ((own i t a e h1).trans ho))).trans ho.symm)⟩,rel.ap,rel.ln⟩
  refine kq F H2 v (Le.refl F) u2 rel0 ?_;obtain⟨t,_⟩:=q;cases t<;>first | exact ht | cases hs
 .cases e2
theorem pe{a:E}{x:Expr}(ha:PT X x (LB X.K X.mg w a)):PT X x (LB X.K X.mg w (.tmp a)):=by
 intro XM s Z H Q I ⟨F,G,p,b,p',rel,e,kq⟩;unfold Ji at e;obtain⟨r,e0,e9⟩:=ZI.mp e;unfold ev at e0;obtain⟨q,e1,e2⟩:=ZI.mp e0
 split at e2
 .rename_i hs
  cases e2;obtain⟨F1,l1,Zo,own⟩:=rel.freezeAll;obtain⟨⟨y,p1⟩,e3,e4⟩:=Qt e1;cases e4;obtain⟨t,p2⟩:=q;cases t with
  | bl c =>
   cases e9;refine ha XM s Z H Q I ⟨F1,G,frz _,_,_,Zo,by unfold Ji;rw[e3];rfl,λF2 H2 l2 u2 Nl=>?_⟩
   have rel0:Rel X.K X.mg F G _ Z H2:=⟨⟨λa o e=>Nl.b.f a o (l2 a o (l1 a o e)),Nl.b.g,rel.b.d,λT e=>⟨(rel.b.t T e).f,(rel.b.t T e).g,(Nl.b.t T e).h⟩⟩,λi t e=>let ⟨v,h1,h2⟩:=rel.fz i t e;⟨v,h1,IsT.up u2 (Le.refl F) t v h2⟩,λi t e=>by
    obtain⟨a,h1,h2,h3,h4⟩:=rel.ow i t e;obtain⟨o,ho⟩:=h4.some;exact⟨a,h1,h2,h3,h4.up u2 (Le.refl F) ((Nl.b.f a o (l2 a o ((own i t a e h1).trans ho))).trans ho.symm)⟩,rel.ap,rel.ln⟩
   exact kq F H2 (Le.refl F) u2 rel0
  | _=>cases e9
 .cases e2
end
section
variable{X:Cx}{w:W}{k:Nat}{N:ZD}{sc:ZK}
theorem vh(c:Ctx X w k N sc){f:Str}{es:E}{x:Expr}{xs:ZC}{p0 pos:Pos}(hs:Hs X w false es (x::xs))(hg:Cv sc f=true):PE X (.Call (.Name f p0) (x::xs) [] pos) (LE X.K X.mg w (.call f es)):=by
 intro XM s Z H Q I ⟨F,G,p,r,p',rel,e,kq⟩
 replace e:=(tw _ _).symm.trans e
 obtain⟨a,e1,e⟩:=ZI.mp e;obtain⟨sl,e2,e⟩:=ZI.mp e;obtain⟨rr,e3,e⟩:=ZI.mp e;obtain⟨p2,e4,e⟩:=Yx.mp e;cases e;obtain⟨ps,hl,Gf⟩:=c.fn f sl rr e3;obtain⟨gg,gd⟩:=c.gl' hg;have Li:=hs.star;refine gf Gf c.room gg hs.pa gd (Zu (Li _ Yu)) (Vq _ _ _ λe m=>Li e (Y3 _ m)) XM s Z H Q I ⟨F,G,p,a.1,a.2,rel,e1,λF1 H1 vs l1 u1 Zo ar=>?_⟩;show spC X.K X.mg ps.length (w.C f) (vs++[]) H1 Q E0;rw[XJ];exact Zo.call ar e2 e3 e4 (by rw[<-Paired.length ar, <-Nj e2];exact hl) λF' H' v l u=>kq F' H' v (l1.trans l) (u1.trans u)
theorem S8{K:PySem.W.Frag}{mg:ZV}{H F:Hp}{a:Addr}{t:T}{o:HO}(h:Rz K mg H F a t):Up K H (upd H a o):=by
 cases t with
 | lst ts=>obtain⟨vs,q,_⟩:=h;exact S7 q
 | dct ts =>
  obtain⟨ks,q,_⟩:=h;intro c xs r
  have ne:∀u,H c=some u->(∀ys,u≠.dK ys)->c≠a:=λu e n z=>by
   rw[z,q]at e;cases e;exact n _ rfl
  rcases r with (r | ⟨u,r⟩) | r
  .exact .inl (.inl (by rw[Zz (ne _ r λ_ z=>nomatch z)];exact r))
  .exact .inl (.inr ⟨u,by rw[Zz (ne _ r λ_ z=>nomatch z)];exact r⟩)
  .exact .inr r
 | _=>exact h.elim
theorem Rel.mut{K:PySem.W.Frag}{mg:ZV}{F G H:Hp}{p:P}{Z:L2.St}{i:Nat}{t t':T}{a:Addr}{o:HO}(r:Rel K mg F G p Z H)(e:p[i]?=some (Sl.o t))(hσ:Z[i]?=some (some (V.ref a)))(h:Rz K mg (upd H a o) F a t'):Up K H (upd H a o)/\Rel K mg F G (p.set i (.o t')) Z (upd H a o):=by
 obtain⟨a',h1,h2,h3,h4⟩:=r.ow i t e;rw[hσ]at h1;cases h1;have u:Up K H (upd H a o):=S8 h4;obtain⟨o0,e0⟩:=h4.some;refine⟨u,⟨λb x q=>?_,λb x q=>?_,r.b.d,λT e=>let ⟨f1,g1,t1⟩:=r.b.t T e;⟨f1,g1,t1.upd e0 (h4.pln e0)⟩⟩,λj u' q=>?_,λj u' q=>?_,λj l t1 t2 b q1 q2=>?_,by rw[XG];exact r.ln⟩
 .rw[Zz λz=>by rw[z,h2]at q;cases q];exact r.b.f b x q
 .rw[Zz λz=>by rw[z,h3]at q;cases q];exact r.b.g b x q
 .rcases Z0 q with ⟨_,z⟩ | ⟨_,q⟩
  .cases z
  .obtain⟨v,g1,g2⟩:=r.fz j _ q;exact⟨v,g1,IsT.up u (Le.refl F) _ v g2⟩
 .rcases Z0 q with ⟨z,y⟩ | ⟨n,q⟩
  .cases y;subst z;exact⟨a,hσ,h2,h3,h⟩
  .obtain⟨b,g1,g2,g3,g4⟩:=r.ow j _ q;have nb:b≠a:=λz=>by subst z;exact n (r.ap j i _ _ b q e g1 hσ)
   exact⟨b,g1,g2,g3,g4.up u (Le.refl F) (Zz nb)⟩
 .have own:∀{j:Nat} {t1:T},(p.set i (Sl.o t'))[j]?=some (Sl.o t1)->∃t2,p[j]?=some (Sl.o t2):=λ{j t1} q=>by
   rcases Z0 q with ⟨z,y⟩ | ⟨_,q⟩
   .subst z;exact⟨t,e⟩
   .exact⟨_,q⟩
  obtain⟨_,q1⟩:=own q1;obtain⟨_,q2⟩:=own q2;exact r.ap j l _ _ b q1 q2
noncomputable def mtN:Mt->Str
 | .append => "append"
 | .extend => "extend"
 | .pop => "pop"
 | .popAt => "pop"
 | .insert => "insert"
noncomputable def mtI:Mt->String
 | .append => "list.append"
 | .extend => "list.extend"
 | .pop => "list.pop"
 | .popAt => "list.pop"
 | .insert => "list.insert"
def rM(X:Cx)(id:String):V->ZQ->Hp->VK->Prop:=λx xs H Q=>∀XM s Z v us,Inv X XM Z H s->RelV x v->Zf xs us->wpAny (model X.prog X.w) X.A (call (.builtin id) (v::us)) (EP X XM Z Q) X.xe s
theorem mtr{id:String}:MtR X id (rM X id):=λXM s Z _ _ _ v us _ I rx rs h=>h XM s Z v us I rx rs
theorem Zq.erase{K:PySem.W.Frag}{mg:ZV}{H F:Hp}:∀{ts:ZZ} {vs:ZQ} (n:Nat),Zq K mg H F ts vs->Zq K mg H F (ts.eraseIdx n) (vs.eraseIdx n)
 | [],vs,n,h=>by cases(show vs=[] from h);rfl
 | t::ts,vs,0,h=>by obtain⟨v,r,rfl,q,w⟩:=h;exact w
 | t::ts,vs,n+1,h=>by obtain⟨v,r,rfl,q,w⟩:=h;exact⟨v,_,rfl,q,Zq.erase n w⟩
theorem mt_run{XM:ZY}{s:Shared}{Z σ':L2.St}{F₁ G H:Hp}{p:P}{i:Nat}{m:Mt}{t t' z:T}{ts:ZZ}{a:Addr}{vs:ZQ}{us:ZM}{Q:VK}(I:Inv X XM σ' H s)(rel:Rel X.K X.mg F₁ G p Z H)(e:p[i]?=some (Sl.o t))(hσ:Z[i]?=some (some (V.ref a)))(rs:Zf vs us)
  (at':Zq X.K X.mg H F₁ ts vs) (em:ib m t ts=some (t',z)) (q:Fin X F₁ G (p.set i (.o t')) Z H (.f z) Q):wpAny (model X.prog X.w) X.A (call (.builtin (mtI m)) (.ref a::us)) (EP X XM σ' Q) X.xe s:=by
 obtain⟨a',h1,h2,h3,h4⟩:=rel.ow i t e;rw[hσ]at h1;cases h1
 have fin:∀{ys:ZQ} {ts':ZZ} {v:V},t'=.lst ts'->ys.length<=sizeLine->Zq X.K X.mg H F₁ ts' ys->IsT X.K X.mg H F₁ z v->Q v (upd H a (.lst ys)):=λ{ys ts' v} et z1 ar iv=>by
  subst et;have u:Up X.K H (upd H a (.lst ys)):=S8 h4;obtain⟨u,Yj⟩:=rel.mut (t':=.lst ts') e hσ ⟨ys,Zx,z1,Zq.up u (Le.refl _) _ _ ar⟩;exact q _ _ _ (Le.refl _) u Yj (IsT.up u (Le.refl _) _ _ iv)
 unfold ib at em
 split at em
 .split at em
  .rename_i hz
   cases em;obtain⟨ys,g1,g2,g3⟩:=h4;obtain⟨y,r,rfl,iy,er⟩:=at';cases(show r=[] from er);have l1:=g3.length;exact Wy XM s σ' H (.ref a) _ (.ref a) us Q I rfl rs ⟨a,ys,y,rfl,rfl,g1,by omega,fin rfl (by rw[Qw];simp;omega) (g3.append (Zq.one iy)) rfl⟩
  .cases em
 .obtain⟨j,e1,e2⟩:=ZI.mp em;obtain⟨x,e3,e4⟩:=Yx.mp e2;cases e4;obtain⟨ys,g1,g2,g3⟩:=h4;obtain⟨y,r,rfl,iy,er⟩:=at';cases(show r=[] from er);cases(show y=_ from iy);have l1:=g3.length;obtain⟨y,e5,iy⟩:=g3.get e3;obtain⟨q1,q2,q3,q4⟩:=Lu e1;have hs:=sizeLine_eq;refine bx XM s σ' H (.ref a) _ (.ref a) us Q I rfl rs ⟨a,ys,_,j,y,rfl,rfl,g1,by omega,by omega,by rw[<-l1];exact q1,e5,fin rfl (by rw[List.length_eraseIdx];split<;>omega) (g3.erase j) iy⟩
 .cases em
end
section
variable{X:Cx}{XM:ZY}{Z:L2.St}{H:Hp}{s:Shared}
def NF(X:Cx)(d:Addr):Prop:=∀o u,X.H₀ d≠some (.frz o u)
theorem nf_of{d:Addr}{XD:List (Key×V)}(I:Inv X XM Z H s)(e:H d=some (.dK XD)):NF X d:=λo u z=>by
 have:=I.base.frzs d o u z;rw[e]at this;cases this
theorem melt{d:Addr}{o:Obj}{XD:List (Key×V)}(I:Inv X XM Z H s)(e:H d=some (.frz o (.dK XD)))(nf:NF X d):Inv X XM Z (upd H d (.dK XD)) s:=by
 have ne:∀{b:Addr} {u:HO},H b=some u->(∀o k,u≠.frz o k)->b≠d:=λh n z=>by
  rw[z,e]at h;cases h;exact n _ _ rfl
 have nn:∀{b:Addr},H b=none->upd H d (.dK XD) b=none:=λ{b} h=>by
  rw[Zz λz=>by rw[z,e]at h;cases h];exact h
 refine⟨I.ok,I.os,I.bare,⟨I.base.keep,I.base.slot,λb o' h1 h2 h3=>nn (I.base.free b o' h1 h2 h3),I.base.there,λb xs h=>?_,λb o' u h=>?_,λb ps h=>?_⟩,I.loc,I.cell,nn I.free,λx c h=>nn (I.freeC x c h),λp hp=>let ⟨h1,h2,h3⟩:=I.pin p hp;⟨h1,nn h2,h3⟩,λb u h=>?_,I.len⟩
 .have:=I.base.tups b xs h;rw[Zz (ne this λ_ _ z=>nomatch z)];exact this
 .have:=I.base.frzs b o' u h;rw[Zz λz=>by subst z;exact nf _ _ h];exact this
 .obtain⟨more,this⟩:=I.base.tbls b ps h;exact⟨more,by rw[Zz (ne this λ_ _ z=>nomatch z)];exact this⟩
 .by_cases q:b=d
  .subst q;rw[Zx]at h;cases h;obtain⟨ho,z,y,vs,r,o',es,ep,Rn,c⟩:=(show Zp X.prog X.w H s.heap b (.frz o (.dK XD)) from I.hok b _ e);exact⟨z,y,vs,r,o',es,ep,Rn,c⟩
  .rw[Zz q]at h;refine(I.hok b u h).stay (λc v hc q=>q) (λc q=>?_) λc xs q=>?_
   .rw[Zz (ne q λ_ _ z=>nomatch z)];exact q
   .rw[Zz (ne q λ_ _ z=>nomatch z)];exact q
def Mel(X:Cx)(H H':Hp):Prop:=H'=H\/∃d o ks,H d=some (.frz o (.dK ks))/\NF X d/\H'=upd H d (.dK ks)
theorem Mi{H':Hp}(I:Inv X XM Z H s)(m:Mel X H H'):Inv X XM Z H' s:=by
 rcases m with rfl | ⟨d,o,ks,e,nf,rfl⟩
 .exact I
 .exact melt I e nf
theorem PE.mel{e:Expr}{t:TE}(h:PE X e t):PE X e (λZ H Q=>t Z H λv H1=>∃H2,Mel X H1 H2/\Q v H2):=λXM s Z H Q I q =>
 Z5 (h XM s Z H _ I q) λu s1 ⟨v,H1,I1,r1,H2,m,q1⟩=>⟨v,H2,Mi I1 m,r1,q1⟩
def bf(X:Cx)(D:Ends):Ends:=⟨λZ H=>∃H2,Mel X H H2/\D.nx Z H2,λv H=>∃H2,Mel X H H2/\D.rt v H2,λZ H=>∃H2,Mel X H H2/\D.bk Z H2,λZ H=>∃H2,Mel X H H2/\D.ct Z H2⟩
theorem PS.mel{st:Stmt}{t:TS}(h:PS X st t):PS X st (λD Z H=>t (bf X D) Z H):=λXM s Z H D I q =>
 Z5 (h XM s Z H _ I q) λf s1 q1=>by
  cases f with
  | next=>obtain⟨σ',H',I',H2,m,q2⟩:=q1;exact⟨σ',H2,Mi I' m,q2⟩
  | brk=>obtain⟨σ',H',I',H2,m,q2⟩:=q1;exact⟨σ',H2,Mi I' m,q2⟩
  | cont=>obtain⟨σ',H',I',H2,m,q2⟩:=q1;exact⟨σ',H2,Mi I' m,q2⟩
  | ret u=>obtain⟨v,σ',H',I',r,H2,m,q2⟩:=q1;exact⟨v,σ',H2,Mi I' m,r,q2⟩
theorem kh{tg l:Expr}{tl:TE}(hl:PE X l tl):PI X tg l (λZ H R=>tl Z H λx H1=>(∃d XD,x=.ref d/\H1 d=some (.dK XD)/\∀o,NF X d->R (Itd d o XD) (upd H1 d (.frz o (.dK XD))))\/∃d o XD,x=.ref d/\H1 d=some (.frz o (.dK XD))/\R (Itd d o XD) H1):=by
 intro XM s Z H R I h;refine Z5 (hl XM s Z H _ I h) λv s1 ⟨x,H1,I1,r1,q1⟩=>?_
 have go:∀{d:Addr} {o:Obj} {XD:List (Key×V)} {H2:Hp},x=.ref d->Inv X XM Z H2 s1->H2 d=some (.frz o (.dK XD))->R (Itd d o XD) H2->wpAny (model X.prog X.w) X.A (pyIter v) (PIE X XM Z tg R) X.xe s1:=λ{d o XD H2} ex I2 e q=>by
  subst ex;cases r1;obtain⟨vs,es,ep,y,r,e',m⟩:=at_of I2 e;have ln:=r.length;refine wpAny_pyIter_dict y m ?_;refine⟨s1.heap.objs.size,[s1.heap.objs.size],_,_,_,rfl,I2.kept (t':=s1.toks) λb o e=>Yn _ e,Xt d _ o XD es ep e',⟨_,Ur _ rfl,rfl,by rw[ln];rfl⟩,λb hb=>?_,q⟩;have e:b=s1.heap.objs.size:=by simpa using hb
  subst e;exact I2.fpOk (Yk _) (I2.hok.fresh (Yk _))
 rcases q1 with ⟨d,XD,ex,hd,q⟩ | ⟨d,o,XD,ex,hd,q⟩
 .obtain⟨o,ho,I2⟩:=I1.freeze hd;exact go ex I2 Zx (q o (nf_of I1 hd))
 .exact go ex I1 hd q
end
def Frz(X:Cx)(F H F' H':Hp):Prop:=(F'=F/\H'=H)\/∃d o ks,F d=some (.dK ks)/\NF X d/\F'=upd F d (.frz o (.dK ks))/\H'=upd H d (.frz o (.dK ks))
def Walk(K:W.Frag)(mg:ZV)(J:It)(F H:Hp)(xs:ZZ):Prop:=∀i F1 H1,Le F F1->Up K H H1->(∀a o,F1 a=some o->H1 a=some o) ->
 (∀t,xs[i]?=some t->J.go i H1/\∀x H2,J.yld i H1 x H2->Zn H1 H2/\IsT K mg H2 F1 t x)/\(i=xs.length->J.stop i H1)
inductive LI_I(X:Cx)(w:W)(e:E)(Z:L2.St)(H:Hp)(R:(It->Hp->Prop)):Prop
 | mk(F G p xs p')(Vz:Rel X.K X.mg F G p Z H)(Y9:n9 (ev w e p)=some (xs,p'))(U5:∀F1 H1 F' H' J,Le F F1->Up X.K H H1->Rel X.K X.mg F1 G p' Z H1->Frz X F1 H1 F' H'->xs.length<=sizeLine->Walk X.K X.mg J F' H' xs->R J H'):LI_I X w e Z H R
def LI(X:Cx)(w:W)(e:E):TI:=λZ H R=>LI_I X w e Z H R
theorem sk{F H:Hp}{d:Addr}{o:Obj}{ks:List (Key×V)}(e:F d=some (.dK ks)):rj F (upd F d (.frz o (.dK ks))):=⟨λa vs r=>by
  by_cases z:a=d
  .subst z;rcases r with r | ⟨_,r⟩<;>rw[e]at r<;>cases r
  .unfold Rd;rw[Zz z];exact r,λa vs r=>by
  by_cases z:a=d
  .subst z;rcases r with r | ⟨_,r⟩
   .rw[e]at r;cases r;exact .inr ⟨o,Zx⟩
   .rw[e]at r;cases r
  .unfold Rd;rw[Zz z];exact r⟩
theorem Hv{F:Hp}{d:Addr}{o:Obj}{ks:List (Key×V)}(e:F d=some (.frz o (.dK ks))):rj F (upd F d (.dK ks)):=⟨λa vs r=>by
  by_cases z:a=d
  .subst z;rcases r with r | ⟨_,r⟩<;>rw[e]at r<;>cases r
  .unfold Rd;rw[Zz z];exact r,λa vs r=>by
  by_cases z:a=d
  .subst z;rcases r with r | ⟨_,r⟩
   .rw[e]at r;cases r
   .rw[e]at r;cases r;exact .inl Zx
  .unfold Rd;rw[Zz z];exact r⟩
theorem Zxf{K:W.Frag}{H:Hp}{d:Addr}{o o':HO}(e:H d=some o)(n:∀xs,o≠.tup xs)(n':∀u xs,o≠.frz u (.tup xs)):Up K H (upd H d o'):=λc xs q=>by
 rcases q with (q | ⟨u,q⟩) | q
 .exact .inl (.inl (by rw[Zz λz=>by rw[z,e]at q;cases q;exact n _ rfl];exact q))
 .exact .inl (.inr ⟨u,by rw[Zz λz=>by rw[z,e]at q;cases q;exact n' _ _ rfl];exact q⟩)
 .exact .inr q
section
variable{X:Cx}{w:W}{F F' G H H':Hp}{p:P}{Z:L2.St}
theorem Rel.turn{K:PySem.W.Frag}{mg:ZV}{d:Addr}{o o':HO}(r:Rel K mg F G p Z H)(e:F d=some o)(pl:Pln o)(u:Up K H (upd H d o'))(l:rj F (upd F d o')):Rel K mg (upd F d o') G p Z (upd H d o'):=by
 refine⟨⟨λa x q=>?_,λa x q=>?_,λa q=>?_,λT e'=>let ⟨f1,g1,t1⟩:=r.b.t T e';⟨by rw[Zz (t1.ne (r.b.f d o e) pl).symm];exact f1,g1,t1.upd (r.b.f d o e) pl⟩⟩,λi t q=>let ⟨v,h1,h2⟩:=r.fz i t q;⟨v,h1,IsT.upR u l t v h2⟩,λi t q=>?_,r.ap,r.ln⟩
 .by_cases z:a=d
  .subst z;rw[Zx]at q ⊢;exact q
  .rw[Zz z]at q ⊢;exact r.b.f a x q
 .have gd:G d=none:=r.b.d d (by rw[e];exactλz=>nomatch z);rw[Zz λz=>by rw[z,gd]at q;cases q];exact r.b.g a x q
 .by_cases z:a=d
  .subst z;exact r.b.d a (by rw[e];exactλz=>nomatch z)
  .rw[Zz z]at q;exact r.b.d a q
 .obtain⟨a,h1,h2,h3,h4⟩:=r.ow i t q;have z:a≠d:=λz=>by subst z;rw[h2]at e;cases e
  refine⟨a,h1,by rw[Zz z];exact h2,h3,?_⟩;cases t with
  | lst ts=>obtain⟨vs,q1,q2,q3⟩:=h4;exact⟨vs,by rw[Zz z];exact q1,q2,Zq.upR u l ts vs q3⟩
  | dct ts=>obtain⟨vs,q1,q2,q3⟩:=h4;exact⟨vs,by rw[Zz z];exact q1,q2,Zc.upR u l ts vs q3⟩
  | _=>exact h4.elim
theorem Frz.rel(z:Frz X F H F' H')(r:Rel X.K X.mg F G p Z H):Rel X.K X.mg F' G p Z H'/\Up X.K H H'/\rj F F':=by
 rcases z with ⟨rfl,rfl⟩ | ⟨d,o,ks,e,nf,rfl,rfl⟩
 .exact⟨r,Up.refl _,(Le.refl _).r⟩
 .have u:Up X.K H (upd H d (.frz o (.dK ks))):=Zxf (r.b.f d _ e) (λ_ z=>nomatch z) λ_ _ z=>nomatch z;have l:=sk (H:=H) (o:=o) e;exact⟨r.turn e Zxp u l,u,l⟩
theorem Frz.back{p2:P}{σ2:L2.St}{F2 H2:Hp}(z:Frz X F H F' H')(l:Le F' F2)(r:Rel X.K X.mg F2 G p2 σ2 H2):∃F3 H3,Le F F3/\Rel X.K X.mg F3 G p2 σ2 H3/\Mel X H2 H3/\Up X.K H2 H3/\rj F2 F3/\(∀a,F2 a=none->F3 a=none)/\∀a,F2 a=none->H3 a=H2 a:=by
 rcases z with ⟨rfl,rfl⟩ | ⟨d,o,ks,e,nf,rfl,rfl⟩
 .exact⟨F2,H2,l,r,.inl rfl,Up.refl _,(Le.refl _).r,λ_ h=>h,λ_ _=>rfl⟩
 .have e2:F2 d=some (.frz o (.dK ks)):=l d _ Zx;have eh:=r.b.f d _ e2;have u:Up X.K H2 (upd H2 d (.dK ks)):=Zxf eh (λ_ z=>nomatch z) λ_ _ z=>by cases z
  refine⟨upd F2 d (.dK ks),upd H2 d (.dK ks),λa x q=>?_,r.turn e2 Zxh u (Hv e2),.inr ⟨d,o,ks,eh,nf,rfl⟩,u,Hv e2,λa h=>?_,λa h=>?_⟩
  .by_cases za:a=d
   .subst za;rw[e]at q;cases q;exact Zx
   .rw[Zz za];exact l a x (by rw[Zz za];exact q)
  .rw[Zz λz=>by rw[z,e2]at h;cases h];exact h
  .rw[Zz λz=>by rw[z,e2]at h;cases h]
end
section
variable{K:W.Frag}{mg:ZV}{F H:Hp}
theorem jv{a:Addr}{ts:ZZ}{vs:ZQ}(h1:Y1 K H a vs)(ar:Zq K mg H F ts vs):Walk K mg (Itt K a) F H ts:=λi F1 H1 l u fh=>by
 have Gb:=Zq.up u l _ _ ar;refine⟨λt e=>?_,λe=>⟨vs,u _ _ h1,by rw[e,ar.length];exact Yk _⟩⟩;obtain⟨v,e1,h2⟩:=Gb.get e;refine⟨⟨vs,v,u _ _ h1,e1⟩,λx H2 y=>?_⟩;obtain⟨rfl,y⟩:=y;have:=y vs (u _ _ h1);rw[e1]at this;cases this;exact⟨Zn.refl _,h2⟩
theorem jg{a:Addr}{ts:ZZ}{vs:ZQ}(h1:Rd F a (.lst vs))(ar:Zq K mg H F ts vs):Walk K mg (Itl K a) F H ts:=λi F1 H1 l u fh=>by
 have Gb:=Zq.up u l _ _ ar
 have sq:V0 K H1 a vs:=.inl (by
  rcases l.r.l a vs h1 with q | ⟨o,q⟩
  .exact .inl (fh _ _ q)
  .exact .inr ⟨o,fh _ _ q⟩)
 refine⟨λt e=>?_,λe=>⟨vs,sq,by rw[e,ar.length];exact Yk _⟩⟩;obtain⟨v,e1,h2⟩:=Gb.get e;refine⟨⟨vs,v,sq,e1⟩,λx H2 y=>?_⟩;obtain⟨rfl,y⟩:=y;have:=y vs sq;rw[e1]at this;cases this;exact⟨Zn.refl _,h2⟩
theorem Qg{d:Addr}{o:Obj}{XD:ZX}{ks:List (Key×V)}(h1:F d=some (.frz o (.dK ks)))(ek:XD.map (·.1)=ks.map (·.1)):Walk K mg (Itd d o ks) F H (XD.map λp=>G1 p.1):=λi F1 H1 l u fh=>by
 have hd:=fh _ _ (l d _ h1);have ln:XD.length=ks.length:=by have:=congrArg List.length ek;simpa using this
 refine⟨λt e=>?_,λe=>⟨by rw[e,Yc,ln];exact Yk _,hd⟩⟩;rw[Qv]at e;obtain⟨q,e1,rfl⟩:=Yx.mp e;have hi:=(Rk.mp e1).1;refine⟨⟨by omega,hd⟩,λx H2 y=>?_⟩;obtain⟨rfl,k,z,e2,rfl⟩:=y;have e3:(XD.map (·.1))[i]?=some q.1:=by rw[Qv,e1];rfl
 rw[ek,Qv,e2]at e3;cases e3;exact⟨Zn.refl _,A8 _⟩
theorem jy{z:Str}:Walk K mg (Its z) F H (z.cps.toList.map λc=>T.str ⟨#[c]⟩):=λi F1 H1 l u fh=>by
 refine⟨λt e=>?_,λe=>by rw[Yc,qt]at e;exact Nat.le_of_eq e.symm⟩;rw[Qv]at e;obtain⟨c,e1,rfl⟩:=Yx.mp e;have e1:z.cps[i]?=some c:=by simpa using e1
 refine⟨(Array.getElem?_eq_some_iff.mp e1).1,λx H2 y=>?_⟩;obtain⟨rfl,c',e2,rfl⟩:=y;rw[e1]at e2;cases e2;exact⟨Zn.refl _,rfl⟩
theorem jk{n:Nat}:Walk K mg (Itr 0 n) F H ((List.range n).map λk=>T.int (k:Nat)):=λi F1 H1 l u fh=>by
 refine⟨λt e=>?_,λe=>by rw[Yc,XY]at e;exact Nat.le_of_eq e.symm⟩;rw[Qv]at e;obtain⟨c,e1,rfl⟩:=Yx.mp e;have hi:=(Rk.mp e1);obtain⟨hi,e2⟩:=hi;rw[XY]at hi;rw[List.getElem_range]at e2;subst e2;refine⟨hi,λx H2 y=>?_⟩;obtain⟨rfl,rfl⟩:=y;exact⟨Zn.refl _,by show V.int _=V.int _;rw[Int.zero_add]⟩
theorem Px{H1 H2 F1:Hp}{q:Addr}{t u:T}{x y:V}(hq:H1 q=none)(e:H2=upd H1 q (.tup [x,y]))(ht:IsT K mg H1 F1 t x)(hu:IsT K mg H1 F1 u y):Zn H1 H2/\IsT K mg H2 F1 (.tup [t,u]) (.ref q):=by
 subst e;have s:Zn H1 (upd H1 q (.tup [x,y])):=Zn.lay hq;exact⟨s,q,_,rfl,Y1.of Zx,by show 2<=sizeLine;decide,x,_,rfl,IsT.up s.up (Le.refl _) _ _ ht,y,_,rfl,IsT.up s.up (Le.refl _) _ _ hu,rfl⟩
theorem Qy{a b:ZZ}{i:Nat}{t:T}(e:(D7 a b)[i]?=some t):∃x y,a[i]?=some x/\b[i]?=some y/\t=.tup [x,y]:=by
 unfold D7 at e;rw[Qv]at e;obtain⟨q,e1,rfl⟩:=Yx.mp e;rw[List.getElem?_zip_eq_some]at e1;exact⟨_,_,e1.1,e1.2,rfl⟩
theorem D6{a b:ZZ}:(D7 a b).length=min a.length b.length:=by unfold D7;rw[Yc,List.length_zip]
theorem Xk{a b:Addr}{ts us:ZZ}{vs ws:ZQ}(h1:Y1 K H a vs)(ar:Zq K mg H F ts vs)(h2:Y1 K H b ws)(br:Zq K mg H F us ws):Walk K mg (Itzt K a b) F H (D7 ts us):=λi F1 H1 l u fh=>by
 have Gb:=Zq.up u l _ _ ar;have br1:=Zq.up u l _ _ br;refine⟨λt e=>?_,λe=>⟨vs,ws,u _ _ h1,u _ _ h2,by rw[D6,ar.length,br.length]at e;omega⟩⟩;obtain⟨x,y,e1,e2,rfl⟩:=Qy e;obtain⟨v,g1,g2⟩:=Gb.get e1;obtain⟨v',g3,g4⟩:=br1.get e2;refine⟨⟨vs,ws,v,v',u _ _ h1,u _ _ h2,g1,g3⟩,λz H2 yl=>?_⟩;obtain⟨q,x',y',rfl,hq,hH,k1,k2⟩:=yl;have:=k1 vs (u _ _ h1);rw[g1]at this;cases this;have:=k2 ws (u _ _ h2);rw[g3]at this;cases this;exact Px hq hH g2 g4
theorem Xg{a b:Addr}{ts us:ZZ}{vs ws:ZQ}(h1:Rd F a (.lst vs))(ar:Zq K mg H F ts vs)(h2:Rd F b (.lst ws))(br:Zq K mg H F us ws):Walk K mg (Itz K a b) F H (D7 ts us):=λi F1 H1 l u fh=>by
 have Gb:=Zq.up u l _ _ ar;have br1:=Zq.up u l _ _ br
 have sq:∀{a:Addr} {vs:ZQ},Rd F a (.lst vs)->V0 K H1 a vs:=λ{a vs} h=>.inl (by
  rcases l.r.l a vs h with q | ⟨o,q⟩
  .exact .inl (fh _ _ q)
  .exact .inr ⟨o,fh _ _ q⟩)
 refine⟨λt e=>?_,λe=>⟨vs,ws,sq h1,sq h2,by rw[D6,ar.length,br.length]at e;omega⟩⟩;obtain⟨x,y,e1,e2,rfl⟩:=Qy e;obtain⟨v,g1,g2⟩:=Gb.get e1;obtain⟨v',g3,g4⟩:=br1.get e2;refine⟨⟨vs,ws,v,v',sq h1,sq h2,g1,g3⟩,λz H2 yl=>?_⟩;obtain⟨q,x',y',rfl,hq,hH,k1,k2⟩:=yl;have:=k1 vs (sq h1);rw[g1]at this;cases this;have:=k2 ws (sq h2);rw[g3]at this;cases this;exact Px hq hH g2 g4
end
section
variable{X:Cx}{w:W}{k:Nat}{N:ZD}{sc:ZK}
theorem W3{o:Option (Sl×P)}{t:T}{p:P}(h:toT o=some (t,p)):∃r,o=some (r,p)/\thaw r=some t:=by
 unfold toT at h;obtain⟨y,e1,e2⟩:=ZI.mp h;obtain⟨t',e3,e4⟩:=Yx.mp e2;cases e4;exact⟨y.1,e1,e3⟩
theorem wu{o:Option (Sl×P)}{ts:ZZ}{p:P}(h:n9 o=some (ts,p)):∃r t,o=some (r,p)/\thaw r=some t/\N9 t=some ts:=by
 unfold n9 at h;obtain⟨y,e1,e2⟩:=ZI.mp h;obtain⟨t',e3,e4⟩:=Yx.mp e2;cases e4;obtain⟨r,e5,e6⟩:=W3 (p:=y.2) (t:=y.1) e1;exact⟨r,y.1,e5,e6,e3⟩
theorem vc{it:E}{tg iter:Expr}(h:PE X iter (LE X.K X.mg w it)):PI X tg iter (LI X w it):=by
 intro XM s Z H R I ⟨F,G,p,xs,p',rel,e,kq⟩;obtain⟨r,t,e1,e2,e3⟩:=wu e
 have key:∀{Q:VK},(∀F2 H1 v,Le F F2->Up X.K H H1->Rel X.K X.mg F2 G p' Z H1->IsT X.K X.mg H1 F2 t v->Q v H1)->LE X.K X.mg w it Z H Q:=λk=>⟨F,G,p,r,p',rel,e1,λF1 H1 v l1 u1 Zo rs=>by
  obtain⟨F2,l2,Zs,ht⟩:=Zo.thaw e2 rs;exact k F2 H1 v (l1.trans l2) u1 Zs ht⟩
 unfold N9 at e3
 split at e3
 .cases e3;refine pi_tup h XM s Z H R I (key λF2 H1 v l u Zs ht=>?_);obtain⟨a,vs,rfl,h1,z,ar⟩:=ht;exact⟨a,rfl,⟨vs,h1⟩,kq F2 H1 F2 H1 _ l u Zs (.inl ⟨rfl,rfl⟩) (by rw[ar.length];exact z) (jv h1 ar)⟩
 .cases e3;refine ai h XM s Z H R I (key λF2 H1 v l u Zs ht=>?_);obtain⟨a,vs,rfl,h1,z,ar⟩:=ht;exact⟨a,rfl,⟨vs,.inl (Zs.b.rd h1)⟩,kq F2 H1 F2 H1 _ l u Zs (.inl ⟨rfl,rfl⟩) (by rw[ar.length];exact z) (jg h1 ar)⟩
 .cases e3;refine kh h XM s Z H R I (key λF2 H1 v l u Zs ht=>?_);obtain⟨a,ks,rfl,h1,z,ar⟩:=ht;rcases h1 with h1 | ⟨o,h1⟩
  .exact .inl ⟨a,ks,rfl,Zs.b.f _ _ h1,λo nf=>kq F2 H1 _ _ _ l u Zs (.inr ⟨a,o,ks,h1,nf,rfl,rfl⟩) (by rw[Yc,ar.length];exact z) (Qg Zx ar.keys)⟩
  .exact .inr ⟨a,o,ks,rfl,Zs.b.f _ _ h1,kq F2 H1 F2 H1 _ l u Zs (.inl ⟨rfl,rfl⟩) (by rw[Yc,ar.length];exact z) (Qg h1 ar.keys)⟩
 .split at e3
  .rename_i hz
   cases e3;refine pi_str h XM s Z H R I (key λF2 H1 v l u Zs ht=>?_);exact⟨_,ht,kq F2 H1 F2 H1 _ l u Zs (.inl ⟨rfl,rfl⟩) (by rw[Yc,qt];exact hz) jy⟩
  .cases e3
 .cases e3
noncomputable def ikN:Ik->Str
 | .rng => "range"
 | .zip => "zip"
def ikL:Ik->Nat
 | .zip=>2
 | _=>1
def isTup:Expr->Bool
 | .Tuple _ _ _=>true
 | _=>false
def ikOk:Ik->Expr->Bool
 | .rng,_=>true
 | _,t=>isTup t
theorem len1{Z:Type}{xs:List Z}(h:xs.length=1):∃x,xs=[x]:=by
 cases xs with
 | nil=>cases h
 | cons x r=>cases r with
  | nil=>exact⟨x,rfl⟩
  | cons y r=>cases h
theorem len2{Z:Type}{xs:List Z}(h:xs.length=2):∃x y,xs=[x,y]:=by
 cases xs with
 | nil=>cases h
 | cons x r=>obtain⟨y,rfl⟩:=len1 (Nat.succ.inj h);exact⟨x,y,rfl⟩
theorem tup_ex{e:Expr}(h:isTup e=true):∃a b c,e=.Tuple a b c:=by
 cases e<;>first | exact⟨_,_,_,rfl⟩ | cases h
theorem uk(c:Ctx X w k N sc){q:Ik}{es:E}{xs:ZC}{tg:Expr}{f:Str}{p0 pos:Pos}(hs:Hs X w false es xs)(hn:Jx es=true)(hf:(f==ikN q&&Cv sc f&&ikOk q tg)=true)(hl:xs.length=ikL q):PI X tg (.Call (.Name f p0) xs [] pos) (LI X w (.itr q es)):=by
 intro XM s Z H R I ⟨F,G,p,ys,p',rel,e,kq⟩;simp only[Y8,beq_iff_eq]at hf;obtain⟨⟨rfl,g1⟩,ht⟩:=hf;obtain⟨gg,gd⟩:=c.gl' g1;obtain⟨r,t,e1,e2,e3⟩:=wu e
 replace e1:=(Zzo _ _).symm.trans e1
 obtain⟨a,q1,e1⟩:=ZI.mp e1;obtain⟨ts,q2,e1⟩:=ZI.mp e1;obtain⟨zs,q3,e1⟩:=Yx.mp e1;cases e1;cases e2;cases e3;have nt:=T1 es hs q1 hn;have Li:=hs.star;have key:∀{Q:ZQ->Hp->Prop},(∀F1 H1 vs,Le F F1->Up X.K H H1->Rel X.K X.mg F1 G a.2 Z H1->Zq X.K X.mg H1 F1 ts vs->Q vs H1)->LA X.K X.mg w false es Z H Q:=λk=>⟨F,G,p,a.1,a.2,rel,q1,λF1 H1 vs l1 u1 Zo ar=>k F1 H1 vs l1 u1 Zo (Nw nt q2 ar)⟩;cases q with
 | rng =>
  obtain⟨x,rfl⟩:=len1 hl;refine X9 gg (c.bn _ XU) hs.pa (by rw[Zu (Li _ Yu)];rfl) XM s Z H R I (key λF1 H1 vs l u Zo ar=>?_);unfold itT at q3
  split at q3<;>first | (rename_i z;cases z) | skip
  .rename_i tt _
   unfold rngT at q3
   split at q3
   .split at q3
    .rename_i n hz
     cases q3;obtain⟨v,r,rfl,hv,hr⟩:=ar;cases(show r=[] from hr);cases(show v=_ from hv);exact⟨n,rfl,by omega,by omega,kq F1 H1 F1 H1 _ l u Zo (.inl ⟨rfl,rfl⟩) (by rw[Yc,XY];have:=sizeLine_eq;omega) jk⟩
    .cases q3
   .cases q3
  all_goals cases q3
 | zip =>
  obtain⟨x,y,rfl⟩:=len2 hl;obtain⟨_,_,_,rfl⟩:=tup_ex ht;have h2:starEach [x,y] X.env=(false,eval x X.env)::starEach [y] X.env:=Zu (Li _ Yu);have h3:(backTo pos (starEach [y] X.env)).any (·.1)=false:=Vq _ _ _ λe m=>Li e (Y3 _ m);unfold itT at q3
  split at q3<;>first | (rename_i z;cases z) | skip
  .cases q3;refine pi_zip gg (c.bn _ XU) hs.pa h2 h3 XM s Z H R I (key λF1 H1 vs l u Zo ar=>?_);obtain⟨v,r,rfl,hv,v',r',rfl,hv',hr⟩:=ar;cases(show r'=[] from hr);obtain⟨a1,vs,rfl,k1,z1,Gb⟩:=hv;obtain⟨a2,ws,rfl,k2,z2,Bi⟩:=hv';exact⟨a1,a2,rfl,⟨vs,.inl (Zo.b.rd k1)⟩,⟨ws,.inl (Zo.b.rd k2)⟩,kq F1 H1 F1 H1 _ l u Zo (.inl ⟨rfl,rfl⟩) (by rw[D6,Gb.length];omega) (Xg k1 Gb k2 Bi)⟩
  .cases q3;refine ao gg (c.bn _ XU) hs.pa h2 h3 XM s Z H R I (key λF1 H1 vs l u Zo ar=>?_);obtain⟨v,r,rfl,hv,v',r',rfl,hv',hr⟩:=ar;cases(show r'=[] from hr);obtain⟨a1,vs,rfl,k1,z1,Gb⟩:=hv;obtain⟨a2,ws,rfl,k2,z2,Bi⟩:=hv';exact⟨a1,a2,rfl,⟨vs,k1⟩,⟨ws,k2⟩,kq F1 H1 F1 H1 _ l u Zo (.inl ⟨rfl,rfl⟩) (by rw[D6,Gb.length];omega) (Xk k1 Gb k2 Bi)⟩
  all_goals cases q3
end
section
variable{K:W.Frag}{mg:ZV}{F G H:Hp}{p:P}{Z:L2.St}
theorem Rel.bind(r:Rel K mg F G p Z H){i:Nat}{s:Sl}{v:V}(hi:i<Z.length)(h:Res K mg F G p Z H s v):Rel K mg F G (p.set i s) (Z.set i (some v)) H:=by
 have at_:(Z.set i (some v))[i]?=some (some v):=List.getElem?_set_self hi;have ne:∀{j:Nat},j≠i->(Z.set i (some v))[j]?=Z[j]?:=λn=>List.getElem?_set_ne λz=>n z.symm;refine⟨r.b,λj t e=>?_,λj t e=>?_,λj l t u a e1 e2 h1 h2=>?_,by rw[XG,XG];exact r.ln⟩
 .rcases Z0 e with ⟨z,y⟩ | ⟨n,e⟩
  .subst z y;exact⟨v,at_,h⟩
  .obtain⟨u,h1,h2⟩:=r.fz j t e;exact⟨u,(ne n).trans h1,h2⟩
 .rcases Z0 e with ⟨z,y⟩ | ⟨n,e⟩
  .subst z y;obtain⟨a,rfl,h1,h2,h3,_⟩:=h;exact⟨a,at_,h1,h2,h3⟩
  .obtain⟨a,h1,h2⟩:=r.ow j t e;exact⟨a,(ne n).trans h1,h2⟩
 .rcases Z0 e1 with ⟨z,y⟩ | ⟨n,q1⟩
  .rcases Z0 e2 with ⟨z',_⟩ | ⟨n,q2⟩
   .rw[z,z']
   .subst z y;obtain⟨b,rfl,_,_,_,h4⟩:=h;rw[at_]at h1;cases h1;rw[ne n]at h2;exact absurd h2 (h4 l u q2)
  .rw[ne n]at h1;rcases Z0 e2 with ⟨z,y⟩ | ⟨n',q2⟩
   .subst z y;obtain⟨b,rfl,_,_,_,h4⟩:=h;rw[at_]at h2;cases h2;exact absurd h1 (h4 j t q1)
   .rw[ne n']at h2;exact r.ap j l t u a q1 q2 h1 h2
end
noncomputable def Bn:E->List Nat
 | .v i=>[i]
 | .tup es=>Bn es
 | .cons a r=>Bn a++Bn r
 | _=>[]
noncomputable def locs(sc:ZK)(x:Str):Bool:=match sc.lookup x with
 | some .local=>true
 | some .cell=>true
 | _=>false
mutual
noncomputable def Rc(N:ZD)(sc:ZK):E->Expr->Bool
 | .v i,.Name x _=>N[i]? == some x&&locs sc x
 | .tup es,.Tuple xs _ _=>Mg N sc es xs
 | _,_=>false
noncomputable def Mg(N:ZD)(sc:ZK):E->ZC->Bool
 | .nil,[]=>true
 | .cons a r,x::xs=>Rc N sc a x&&Mg N sc r xs
 | _,_=>false
end
def LG(K:W.Frag)(mg:ZV)(tg:E):TG:=λv Z H Q=>∃F G p t p',Rel K mg F G p Z H/\IsT K mg H F t v/\asg tg t p=some p'/\∀σ',Rel K mg F G p' σ' H->(∀j,j∉Bn tg->σ'[j]?=Z[j]?)->σ'.length=Z.length->Q σ' H
def LGs(K:W.Frag)(mg:ZV)(tg:E):rq:=λvs Z H Q=>∃F G p ts p',Rel K mg F G p Z H/\Zq K mg H F ts vs/\Ku tg ts p=some p'/\∀σ',Rel K mg F G p' σ' H->(∀j,j∉Bn tg->σ'[j]?=Z[j]?)->σ'.length=Z.length->Q σ' H
section
variable{X:Cx}{w:W}{k:Nat}{N:ZD}{sc:ZK}
theorem Ctx.loc(c:Ctx X w k N sc){x:Str}(h:locs sc x=true):Loc X.env.scope x/\(X.fn x=true\/X.env.scope.names.lookup x=some .local):=by
 unfold locs at h
 split at h
 .rename_i e
  rcases c.nm x _ e with e | ⟨z,_⟩
  .exact⟨.inl e,.inr e⟩
  .cases z
 .rename_i e
  rcases c.nm x _ e with e' | ⟨z,_⟩
  .exact⟨.inr e',.inl (c.cl x e)⟩
  .cases z
 .cases h
theorem L5:∀(es:E) {xs:ZC},Mg N sc es xs=true->(∀x∈xs,noStar x=true)
 | .nil,[],_,x,m=>absurd m Ve
 | .cons a r,y::xs,h,x,m=>by
  have h:(Rc N sc a y&&Mg N sc r xs)=true:=h;rw[Y8]at h;rcases Yf.mp m with rfl | m
  .cases x<;>first | rfl | (cases a<;>cases h.1)
  .exact L5 r h.2 x m
 | .nil,_::_,h,_,_=>by cases h
 | .cons _ _,[],h,_,_=>by cases h
 | .v _,_,h,_,_=>by cases h
 | .k _,_,h,_,_=>by cases h
 | .g _,_,h,_,_=>by cases h
 | .pr _ _,_,h,_,_=>by cases h
 | .mv _,_,h,_,_=>by cases h
 | .io _,_,h,_,_=>by cases h
 | .tup _,_,h,_,_=>by cases h
 | .lst _,_,h,_,_=>by cases h
 | .and _ _,_,h,_,_=>by cases h
 | .or _ _,_,h,_,_=>by cases h
 | .not _,_,h,_,_=>by cases h
 | .ite _ _ _,_,h,_,_=>by cases h
 | .call _ _,_,h,_,_=>by cases h
 | .cal _ _,_,h,_,_=>by cases h
 | .mt _ _ _,_,h,_,_=>by cases h
 | .comp _ _ _ _ _ _,_,h,_,_=>by cases h
 | .itr _ _,_,h,_,_=>by cases h
 | .tmp _,_,h,_,_=>by cases h
theorem Ip{e:Expr}{es:ZC}{env:Env}(h:noStar e=true):assignEach (e::es) env=(false,assign e env)::assignEach es env:=by
 cases e<;>first | rfl | cases h
theorem Oj:∀{es:ZC} {env:Env},(∀x∈es,noStar x=true)->(assignEach es env).length=es.length/\(assignEach es env).findIdx? (·.1)=none
 | [],env,_=>⟨rfl,rfl⟩
 | e::es,env,h=>by
  rw[Ip (h e Yu)];obtain⟨h1,h2⟩:=Oj (env:=env) λx m=>h x (Y3 _ m);exact⟨by rw[B9,B9,h1],by rw[List.findIdx?_cons,h2];rfl⟩
theorem O1:∀(es:E) {xs:ZC} {ts:ZZ} {p p':P},Mg N sc es xs=true->Ku es ts p=some p'->ts.length=xs.length
 | .nil,[],[],p,p',_,_=>rfl
 | .cons a r,y::xs,t::ts,p,p',h,e=>by
  have h:(Rc N sc a y&&Mg N sc r xs)=true:=h;rw[Y8]at h;obtain⟨q,_,e2⟩:=ZI.mp (show (asg a t p).bind (λq=>Ku r ts q)=some p' from e);rw[B9,B9,O1 r h.2 e2]
 | .nil,[],_::_,_,_,_,e=>by cases e
 | .cons _ _,_::_,[],_,_,_,e=>by cases e
 | .nil,_::_,_,_,_,h,_=>by cases h
 | .cons _ _,[],_,_,_,h,_=>by cases h
 | .v _,_,_,_,_,h,_=>by cases h
 | .k _,_,_,_,_,h,_=>by cases h
 | .g _,_,_,_,_,h,_=>by cases h
 | .pr _ _,_,_,_,_,h,_=>by cases h
 | .mv _,_,_,_,_,h,_=>by cases h
 | .io _,_,_,_,_,h,_=>by cases h
 | .tup _,_,_,_,_,h,_=>by cases h
 | .lst _,_,_,_,_,h,_=>by cases h
 | .and _ _,_,_,_,_,h,_=>by cases h
 | .or _ _,_,_,_,_,h,_=>by cases h
 | .not _,_,_,_,_,h,_=>by cases h
 | .ite _ _ _,_,_,_,_,h,_=>by cases h
 | .call _ _,_,_,_,_,h,_=>by cases h
 | .cal _ _,_,_,_,_,h,_=>by cases h
 | .mt _ _ _,_,_,_,_,h,_=>by cases h
 | .comp _ _ _ _ _ _,_,_,_,_,h,_=>by cases h
 | .itr _ _,_,_,_,_,h,_=>by cases h
 | .tmp _,_,_,_,_,h,_=>by cases h
mutual
theorem W9(c:Ctx X w k N sc):∀(tg:E) {x:Expr},Rc N sc tg x=true->PG X x (LG X.K X.mg tg)
 | .v i,.Name y pos,h=>λXM s Z H v u Q I r ⟨F,G,p,t,p',rel,ht,e,kq⟩=>by
  have h:(N[i]? == some y&&locs sc y)=true:=h;rw[Y8,beq_iff_eq]at h;obtain⟨l1,l2⟩:=c.loc h.2;have hi:X.N[i]?=some y:=by rw[c.nN];exact h.1
  cases e;refine a9 (by rw[c.nN];exact c.nd) hi l1 l2 XM s Z H v u Q I r (kq _ (rel.bind (by rw[I.len];exact(Rk.mp hi).1) ht) (λj hj=>List.getElem?_set_ne λz=>hj (by rw[z];exact Nm.mpr rfl)) (XG ..))
 | .tup es,.Tuple xs j pos,h=>λXM s Z H v u Q I r ⟨F,G,p,t,p',rel,ht,e,kq⟩=>by
  have h:Mg N sc es xs=true:=h;obtain⟨a1,a2⟩:=Oj (env:=X.env) (L5 es h);cases t<;>first | cases e | skip
  rename_i ts
  have e:Ku es ts p=some p':=e;obtain⟨a,vs,rfl,h1,z,ar⟩:=ht;have hl:=O1 es h e;exact pg_tup (n:=xs.length) c.calm (Hu c es h) a1 a2 XM s Z H _ u Q I r ⟨a,vs,rfl,h1,by rw[<-ar.length];exact hl,F,G,p,ts,p',rel,ar,e,kq⟩
 | .v _,.BoolOp ..,h=>by cases h
 | .v _,.NamedExpr ..,h=>by cases h
 | .v _,.BinOp ..,h=>by cases h
 | .v _,.UnaryOp ..,h=>by cases h
 | .v _,.Lambda ..,h=>by cases h
 | .v _,.IfExp ..,h=>by cases h
 | .v _,.Dict ..,h=>by cases h
 | .v _,.Set ..,h=>by cases h
 | .v _,.ListComp ..,h=>by cases h
 | .v _,.SetComp ..,h=>by cases h
 | .v _,.DictComp ..,h=>by cases h
 | .v _,.GeneratorExp ..,h=>by cases h
 | .v _,.Await ..,h=>by cases h
 | .v _,.Yield ..,h=>by cases h
 | .v _,.YieldFrom ..,h=>by cases h
 | .v _,.Compare ..,h=>by cases h
 | .v _,.Call ..,h=>by cases h
 | .v _,.FormattedValue ..,h=>by cases h
 | .v _,.JoinedStr ..,h=>by cases h
 | .v _,.Constant ..,h=>by cases h
 | .v _,.Attribute ..,h=>by cases h
 | .v _,.Subscript ..,h=>by cases h
 | .v _,.Starred ..,h=>by cases h
 | .v _,.List ..,h=>by cases h
 | .v _,.Tuple ..,h=>by cases h
 | .v _,.Slice ..,h=>by cases h
 | .tup _,.BoolOp ..,h=>by cases h
 | .tup _,.NamedExpr ..,h=>by cases h
 | .tup _,.BinOp ..,h=>by cases h
 | .tup _,.UnaryOp ..,h=>by cases h
 | .tup _,.Lambda ..,h=>by cases h
 | .tup _,.IfExp ..,h=>by cases h
 | .tup _,.Dict ..,h=>by cases h
 | .tup _,.Set ..,h=>by cases h
 | .tup _,.ListComp ..,h=>by cases h
 | .tup _,.SetComp ..,h=>by cases h
 | .tup _,.DictComp ..,h=>by cases h
 | .tup _,.GeneratorExp ..,h=>by cases h
 | .tup _,.Await ..,h=>by cases h
 | .tup _,.Yield ..,h=>by cases h
 | .tup _,.YieldFrom ..,h=>by cases h
 | .tup _,.Compare ..,h=>by cases h
 | .tup _,.Call ..,h=>by cases h
 | .tup _,.FormattedValue ..,h=>by cases h
 | .tup _,.JoinedStr ..,h=>by cases h
 | .tup _,.Constant ..,h=>by cases h
 | .tup _,.Attribute ..,h=>by cases h
 | .tup _,.Subscript ..,h=>by cases h
 | .tup _,.Starred ..,h=>by cases h
 | .tup _,.List ..,h=>by cases h
 | .tup _,.Name ..,h=>by cases h
 | .tup _,.Slice ..,h=>by cases h
 | .k _,_,h=>by cases h
 | .g _,_,h=>by cases h
 | .pr _ _,_,h=>by cases h
 | .mv _,_,h=>by cases h
 | .io _,_,h=>by cases h
 | .nil,_,h=>by cases h
 | .cons _ _,_,h=>by cases h
 | .lst _,_,h=>by cases h
 | .and _ _,_,h=>by cases h
 | .or _ _,_,h=>by cases h
 | .not _,_,h=>by cases h
 | .ite _ _ _,_,h=>by cases h
 | .call _ _,_,h=>by cases h
 | .cal _ _,_,h=>by cases h
 | .mt _ _ _,_,h=>by cases h
 | .comp _ _ _ _ _ _,_,h=>by cases h
 | .itr _ _,_,h=>by cases h
 | .tmp _,_,h=>by cases h
theorem Hu(c:Ctx X w k N sc):∀(es:E) {xs:ZC},Mg N sc es xs=true->PGs X xs (LGs X.K X.mg es)
 | .nil,[],_=>λXM s Z H vs us Q I r ⟨F,G,p,ts,p',rel,ht,e,kq⟩=>by
  cases ts with
  | nil =>
   cases e;exact a8 XM s Z H vs us Q I r ⟨ht,kq Z rel (λ_ _=>rfl) rfl⟩
  | cons t ts=>cases e
 | .cons a r',y::xs,h=>λXM s Z H vs us Q I r ⟨F,G,p,ts,p',rel,ht,e,kq⟩=>by
  have Li:=L5 _ h;have h:(Rc N sc a y&&Mg N sc r' xs)=true:=h;rw[Y8]at h;cases ts with
  | nil=>cases e
  | cons t ts =>
   obtain⟨v,vr,rfl,iv,av⟩:=ht;obtain⟨q,e1,e2⟩:=ZI.mp (show (asg a t p).bind (λq=>Ku r' ts q)=some p' from e);refine ke (W9 c a h.1) (Hu c r' h.2) (by rw[Ip (Li _ Yu)];rfl) XM s Z H _ us Q I r ⟨v,vr,rfl,F,G,p,t,q,rel,iv,e1,λσ' Yj k' n'=>⟨F,G,q,ts,p',Yj,av,e2,λσ2 Zs k2 n2=>kq σ2 Zs (λj hj=>?_) (n2.trans n')⟩⟩;have hj:j∉Bn a++Bn r':=hj;rw[qj,not_or]at hj;exact(k2 j hj.2).trans (k' j hj.1)
 | .nil,_::_,h=>by cases h
 | .cons _ _,[],h=>by cases h
 | .v _,_,h=>by cases h
 | .k _,_,h=>by cases h
 | .g _,_,h=>by cases h
 | .pr _ _,_,h=>by cases h
 | .mv _,_,h=>by cases h
 | .io _,_,h=>by cases h
 | .tup _,_,h=>by cases h
 | .lst _,_,h=>by cases h
 | .and _ _,_,h=>by cases h
 | .or _ _,_,h=>by cases h
 | .not _,_,h=>by cases h
 | .ite _ _ _,_,h=>by cases h
 | .call _ _,_,h=>by cases h
 | .cal _ _,_,h=>by cases h
 | .mt _ _ _,_,h=>by cases h
 | .comp _ _ _ _ _ _,_,h=>by cases h
 | .itr _ _,_,h=>by cases h
 | .tmp _,_,h=>by cases h
end
end
theorem C1:∀(fr:ZG) (q p:P),fr.length=q.length->(∀i1 i2 j:Nat,fr[i1]?=some (some j)->fr[i2]?=some (some j)->i1=i2) ->
  (back fr q p).length=p.length/\(∀j:Nat,(∀i:Nat,fr[i]?≠some (some j))->(back fr q p)[j]?=p[j]?)/\∀i j:Nat,fr[i]?=some (some j)->j<p.length->(back fr q p)[j]?=q[i]?
 | [],[],p,_,_=>⟨rfl,λ_ _=>rfl,λi j h=>by simp at h⟩
 | none::fr,s::q,p,hl,inj=>by
  obtain⟨h1,h2,h3⟩:=C1 fr q p (by simpa using hl) λi1 i2 j a b=>by have:=inj (i1+1) (i2+1) j (by simpa using a) (by simpa using b);omega
  refine⟨h1,λj h=>h2 j λi z=>h (i+1) (by simpa using z),λi j h hj=>?_⟩;cases i with
  | zero=>simp at h
  | succ i=>exact h3 i j (by simpa using h) hj
 | some l::fr,s::q,p,hl,inj=>by
  obtain⟨h1,h2,h3⟩:=C1 fr q (p.set l s) (by simpa using hl) λi1 i2 j a b=>by have:=inj (i1+1) (i2+1) j (by simpa using a) (by simpa using b);omega
  rw[XG]at h1;refine⟨h1,λj h=>?_,λi j h hj=>?_⟩
  .have n:l≠j:=λz=>h 0 (by simp[z]);exact(h2 j λi z=>h (i+1) (by simpa using z)).trans (List.getElem?_set_ne n)
  .cases i with
   | zero =>
    simp at h;subst h;refine(h2 l λi z=>?_).trans ((List.getElem?_set_self hj).trans XI);have:=inj 0 (i+1) l XI (by simpa using z);omega
   | succ i=>exact h3 i j (by simpa using h) (by rw[XG];exact hj)
 | [],_::_,_,hl,_=>by simp at hl
 | _::_,[],_,hl,_=>by simp at hl
section
variable{K:W.Frag}{mg:ZV}{F G H:Hp}{p:P}{Z:L2.St}{fr:ZG}
theorem Im{i:Nat}{s:Sl}(h:(qb fr p)[i]?=some s):(fr[i]?=some none/\s=.no)\/∃j,fr[i]?=some (some j)/\s=(p[j]?).getD .no:=by
 unfold qb at h;rw[Qv]at h;obtain⟨o,e1,e2⟩:=Yx.mp h;cases o with
 | none=>exact .inl ⟨e1,e2.symm⟩
 | some j=>exact .inr ⟨j,e1,e2.symm⟩
theorem M7{i j:Nat}{v:V}(h:fr[i]?=some (some j))(e:Z[j]?=some (some v)):(frees fr Z)[i]?=some (some v):=by
 unfold frees;rw[Qv,h];show some ((Z[j]?).bind id)=_;rw[e];rfl
open Classical in
noncomputable def M6(fr:ZG)(p:P)(Z:L2.St)(H G:Hp):Hp:=λa=>if ∃(j:Nat) (t:T),p[j]?=some (Sl.o t)/\Z[j]?=some (some (V.ref a))/\∀i:Nat,fr[i]?≠some (some j) then H a else G a
theorem B8{a:Addr}{j:Nat}{t:T}(h1:p[j]?=some (Sl.o t))(h2:Z[j]?=some (some (V.ref a)))(h3:∀i:Nat,fr[i]?≠some (some j)):M6 fr p Z H G a=H a:=if_pos ⟨j,t,h1,h2,h3⟩
theorem M5{a:Addr}(h:¬ ∃(j:Nat) (t:T),p[j]?=some (Sl.o t)/\Z[j]?=some (some (V.ref a))/\∀i:Nat,fr[i]?≠some (some j)):M6 fr p Z H G a=G a:=if_neg h
theorem dv(r:Rel K mg F G p Z H){a:Addr}{o:HO}(h:G a=some o):M6 fr p Z H G a=some o:=by
 refine(M5 λ⟨i,t,h1,h2,_⟩=>?_).trans h;obtain⟨b,h3,_,h4,_⟩:=r.ow i t h1;rw[h2]at h3;cases h3;rw[h]at h4;cases h4
theorem Zz6(r:Rel K mg F G p Z H)(inj:∀i1 i2 j:Nat,fr[i1]?=some (some j)->fr[i2]?=some (some j)->i1=i2){D:Addr}(hD:H D=none):Rel K mg F (upd (M6 fr p Z H G) D (.lst [])) (qb fr p) (frees fr Z) (upd H D (.lst [])):=by
 have s:Zn H (upd H D (.lst [])):=Zn.lay hD;have nD:∀{a:Addr} {o:HO},H a=some o->a≠D:=λh z=>by rw[z,hD]at h;cases h
 have own:∀{i:Nat} {t:T},(qb fr p)[i]?=some (Sl.o t)->∃j,fr[i]?=some (some j)/\p[j]?=some (Sl.o t):=λ{i t} h=>by
  rcases Im h with ⟨_,z⟩ | ⟨j,e1,e2⟩
  .cases z
  .refine⟨j,e1,?_⟩;cases q:p[j]? with
   | none=>rw[q]at e2;cases e2
   | some x=>rw[q]at e2;exact congrArg some e2.symm
 refine⟨⟨λa o e=>s a o (r.b.f a o e),λa o e=>?_,λa e=>?_,λT e=>let ⟨f1,g1,t1⟩:=r.b.t T e;⟨f1,by
   rw[Zz (t1.no hD).symm]
   exact(M5 λ⟨j,t,h1,h2,_⟩=>by
    obtain⟨b,h3,_,_,h4⟩:=r.ow j t h1;rw[h2]at h3;cases h3;exact h4.ne t1 rfl).trans g1,t1.same s⟩⟩,λi t e=>?_,λi t e=>?_,λi1 i2 t u a e1 e2 h1 h2=>?_,?_⟩
 .by_cases z:a=D
  .subst z;rw[Zx]at e ⊢;exact e
  .rw[Zz z]at e ⊢;by_cases h:∃(j:Nat) (t:T),p[j]?=some (Sl.o t)/\Z[j]?=some (some (V.ref a))/\∀i:Nat,fr[i]?≠some (some j)
   .obtain⟨j,t,g1,g2,g3⟩:=h;rw[B8 g1 g2 g3]at e;exact e
   .rw[M5 h]at e;exact r.b.g a o e
 .have ne:a≠D:=by
   cases q:F a with
   | none=>exact absurd q e
   | some o=>exact nD (r.b.f a o q)
  rw[Zz ne];refine(M5 λ⟨j,t,h1,h2,_⟩=>?_).trans (r.b.d a e);obtain⟨b,h3,h4,_⟩:=r.ow j t h1;rw[h2]at h3;cases h3;exact e h4
 .rcases Im e with ⟨_,z⟩ | ⟨j,e1,e2⟩
  .cases z
  .cases q:p[j]? with
   | none=>rw[q]at e2;cases e2
   | some x =>
    rw[q]at e2;cases(show Sl.f t=x from e2);obtain⟨v,h1,h2⟩:=r.fz j t q;exact⟨v,M7 e1 h1,IsT.up s.up (Le.refl F) t v h2⟩
 .obtain⟨j,e1,q⟩:=own e;obtain⟨a,h1,h2,h3,h4⟩:=r.ow j t q;obtain⟨o,ho⟩:=h4.some;refine⟨a,M7 e1 h1,h2,?_,h4.same s (Le.refl F)⟩;rw[Zz (nD ho)];refine(M5 λ⟨j',t',q1,q2,q3⟩=>?_).trans h3;have:=r.ap j' j t' t a q1 q q2 h1;subst this;exact q3 i e1
 .obtain⟨j1,f1,q1⟩:=own e1;obtain⟨j2,f2,q2⟩:=own e2;obtain⟨a1,k1,_⟩:=r.ow j1 t q1;obtain⟨a2,k2,_⟩:=r.ow j2 u q2;rw[M7 f1 k1]at h1;cases h1;rw[M7 f2 k2]at h2;cases h2;have:=r.ap j1 j2 t u a q1 q2 k1 k2;subst this;exact inj i1 i2 j1 f1 f2
 .unfold qb;rw[Yc,Jv]
theorem Rel.gset{D:Addr}{ys zs:ZQ}(r:Rel K mg F (upd G D (.lst ys)) p Z H):Rel K mg F (upd G D (.lst zs)) p Z (upd H D (.lst zs))/\Up K H (upd H D (.lst zs)):=by
 have hD:H D=some (.lst ys):=r.b.g D _ Zx
 have fD:F D=none:=by
  cases q:F D with
  | none=>rfl
  | some o=>have:=r.b.d D (by rw[q];exactλz=>nomatch z);rw[Zx]at this;cases this
 have u:Up K H (upd H D (.lst zs)):=S7 hD;refine⟨⟨⟨λa o e=>?_,λa o e=>?_,λa e=>?_,λT e=>let ⟨f1,g1,t1⟩:=r.b.t T e;⟨f1,by rw[Zz (t1.ne hD kj).symm]at g1 ⊢;exact g1,t1.upd hD kj⟩⟩,λi t e=>let ⟨v,h1,h2⟩:=r.fz i t e;⟨v,h1,IsT.up u (Le.refl F) t v h2⟩,λi t e=>?_,r.ap,r.ln⟩,u⟩
 .rw[Zz λz=>by rw[z,fD]at e;cases e];exact r.b.f a o e
 .by_cases z:a=D
  .subst z;rw[Zx]at e ⊢;exact e
  .rw[Zz z]at e ⊢;exact r.b.g a o (by rw[Zz z];exact e)
 .have ne:a≠D:=λz=>by rw[z]at e;exact e fD
  have:=r.b.d a e;rw[Zz ne]at this ⊢;exact this
 .obtain⟨a,h1,h2,h3,h4⟩:=r.ow i t e;have ne:a≠D:=λz=>by rw[z,Zx]at h3;cases h3
  exact⟨a,h1,h2,by rw[Zz ne]at h3 ⊢;exact h3,h4.up u (Le.refl F) (Zz ne)⟩
theorem t8{F2 H2:Hp}{q:P}{σ2:L2.St}{D:Addr}{ys:ZQ}(r:Rel K mg F G p Z H)(inj:∀i1 i2 j:Nat,fr[i1]?=some (some j)->fr[i2]?=some (some j)->i1=i2)(hj:∀i j:Nat,fr[i]?=some (some j)->j<p.length)(hD:H D=none)(l:Le F F2)(u:Up K H H2)
  (r2:Rel K mg F2 (upd (M6 fr p Z H G) D (.lst ys)) q σ2 H2) (hl:q.length=fr.length) (keep:∀i j:Nat,fr[i]?=some (some j)->σ2[i]?=(frees fr Z)[i]?):Rel K mg F2 G (back fr q p) Z H2/\F2 D=none/\G D=none/\∀(i:Nat) (t:T),(back fr q p)[i]?=some (Sl.o t)->Z[i]?≠some (some (V.ref D)):=by
 obtain⟨b1,b2,b3⟩:=C1 fr q p hl.symm inj;have nD:∀{a:Addr} {o:HO},H a=some o->a≠D:=λh z=>by rw[z,hD]at h;cases h
 have fD:F2 D=none:=by
  cases e:F2 D with
  | none=>rfl
  | some o=>have:=r2.b.d D (by rw[e];exactλz=>nomatch z);rw[Zx]at this;cases this
 have gD:G D=none:=by
  cases e:G D with
  | none=>rfl
  | some o=>have:=r.b.g D o e;rw[hD]at this;cases this
 have gN:∀{a:Addr},a≠D->upd (M6 fr p Z H G) D (.lst ys) a=none->G a=none:=λ{a} n h=>by
  rw[Zz n]at h;cases e:G a with
  | none=>rfl
  | some o=>rw[dv r e]at h;cases h
 have val:∀{i j:Nat} {v:V},fr[i]?=some (some j)->σ2[i]?=some (some v)->Z[j]?=some (some v):=λ{i j v} e h=>by
  rw[keep i j e]at h;unfold frees at h;rw[Qv,e]at h;have h:(Z[j]?).bind id=some v:=Je h;cases q:Z[j]? with
  | none=>rw[q]at h;cases h
  | some o=>rw[q]at h;exact congrArg some h
 have cas:∀j:Nat,(∃i:Nat,fr[i]?=some (some j))\/∀i:Nat,fr[i]?≠some (some j):=λj=>by
  by_cases h:∃i:Nat,fr[i]?=some (some j)
  .exact .inl h
  .exact .inr λi z=>h ⟨i,z⟩
 have own:∀{j:Nat} {t:T},(back fr q p)[j]?=some (Sl.o t)->∃a,Z[j]?=some (some (V.ref a))/\a≠D/\F2 a=none/\G a=none/\Rz K mg H2 F2 a t:=λ{j t} e=>by
  rcases cas j with ⟨i,f1⟩ | f1
  .rw[b3 i j f1 (hj i j f1)]at e;obtain⟨a,h1,h2,h3,h4⟩:=r2.ow i t e;have n:a≠D:=λz=>by rw[z,Zx]at h3;cases h3
   exact⟨a,val f1 h1,n,h2,gN n h3,h4⟩
  .rw[b2 j f1]at e;obtain⟨a,h1,h2,h3,h4⟩:=r.ow j t e;obtain⟨o,ho⟩:=h4.some;have n:=nD ho;have g1:upd (M6 fr p Z H G) D (.lst ys) a=some o:=by rw[Zz n,B8 e h1 f1];exact ho
   refine⟨a,h1,n,?_,h3,h4.up u l ((r2.b.g a o g1).trans ho.symm)⟩;cases z:F2 a with
   | none=>rfl
   | some x=>have:=r2.b.d a (by rw[z];exactλz=>nomatch z);rw[g1]at this;cases this
 refine⟨⟨⟨r2.b.f,λa o e=>r2.b.g a o (by rw[Zz (nD (r.b.g a o e))];exact dv r e),λa e=>?_,λT e=>⟨(r2.b.t T e).f,(r.b.t T e).g,(r2.b.t T e).h⟩⟩,λj t e=>?_,λj t e=>let ⟨a,h1,_,h2,h3,h4⟩:=own e;⟨a,h1,h2,h3,h4⟩,λj1 j2 t t' a e1 e2 h1 h2=>?_,by rw[b1];exact r.ln⟩,fD,gD,λi t e z=>?_⟩
 .have n:a≠D:=λz=>by rw[z]at e;exact e fD
  exact gN n (r2.b.d a e)
 .rcases cas j with ⟨i,f1⟩ | f1
  .rw[b3 i j f1 (hj i j f1)]at e;obtain⟨v,h1,h2⟩:=r2.fz i t e;exact⟨v,val f1 h1,h2⟩
  .rw[b2 j f1]at e;obtain⟨v,h1,h2⟩:=r.fz j t e;exact⟨v,h1,IsT.up u l t v h2⟩
 .rcases cas j1 with ⟨i1,f1⟩ | f1
  .rw[b3 i1 j1 f1 (hj i1 j1 f1)]at e1;obtain⟨a1,k1,_,g1,_⟩:=r2.ow i1 t e1;have:=val f1 k1;rw[h1]at this;cases this;rcases cas j2 with ⟨i2,f2⟩ | f2
   .rw[b3 i2 j2 f2 (hj i2 j2 f2)]at e2;obtain⟨a2,k2,_⟩:=r2.ow i2 t' e2;have:=val f2 k2;rw[h2]at this;cases this;have:=r2.ap i1 i2 t t' a e1 e2 k1 k2;subst this;rw[f1]at f2;cases f2;rfl
   .rw[b2 j2 f2]at e2;obtain⟨b,c1,_,_,c4⟩:=r.ow j2 t' e2;rw[h2]at c1;cases c1;obtain⟨o,ho⟩:=c4.some;rw[Zz (nD ho),B8 e2 h2 f2,ho]at g1;cases g1
  .rw[b2 j1 f1]at e1;rcases cas j2 with ⟨i2,f2⟩ | f2
   .rw[b3 i2 j2 f2 (hj i2 j2 f2)]at e2;obtain⟨a2,k2,_,g2,_⟩:=r2.ow i2 t' e2;have:=val f2 k2;rw[h2]at this;cases this;obtain⟨b,c1,_,_,c4⟩:=r.ow j1 t e1;rw[h1]at c1;cases c1;obtain⟨o,ho⟩:=c4.some;rw[Zz (nD ho),B8 e1 h1 f1,ho]at g2;cases g2
   .rw[b2 j2 f2]at e2;exact r.ap j1 j2 t t' a e1 e2 h1 h2
 .obtain⟨a,h1,n,_⟩:=own e;rw[h1]at z;cases z;exact n rfl
end
def LT(K:PySem.W.Frag)(mg:ZV)(w:W)(c:E):TT:=if isNil c=true then Hm else LB K mg w c
theorem dm{NX:ZD}{names:ZK}{ns:ZD}{fr:ZG}(h:Jy NX names ns fr=true)(nd:ns.Nodup):∀i1 i2 j:Nat,fr[i1]?=some (some j)->fr[i2]?=some (some j)->i1=i2:=λi1 i2 j e1 e2=>by
 obtain⟨x,a1,a2,_⟩:=U1 h e1;obtain⟨y,b1,b2,_⟩:=U1 h e2;rw[a2]at b2;cases b2;have h1:=(Rk.mp a1);have h2:=(Rk.mp b1);obtain⟨l1,g1⟩:=h1;obtain⟨l2,g2⟩:=h2;exact(List.getElem_inj nd).mp (g1.trans g2.symm)
section
variable{X:Cx}{w:W}{k:Nat}{N:ZD}{sc:ZK}
noncomputable def Zqt(w:W)(tg c el:E):T->P->Option (Option T×P):=λx s=>(asg tg x s).bind λs1=>(if isNil c=true then some (true,s1) else Ji (ev w c s1)).bind λb=>if b.1=true then (toT (ev w el b.2)).map λr=>(some r.1,r.2) else some (none,b.2)
theorem Io(c:Ctx X w k N sc){tg it cd el:E}{fr:ZG}{ns:ZD}{scope:Scope}(s2:Jy N scope.names ns fr=true)(nd:ns.Nodup)(ht:∀i∈Bn tg,fr[i]?=some none){Z:L2.St}{H:Hp}{Q:VK}(hσ:Z.length=N.length)(h:LE X.K X.mg w (.comp tg it cd el fr ns) Z H Q) :
  vz (LI X w it) fr (λ_ _ _=>LG X.K X.mg tg) (λ_ _ _=>LT X.K X.mg w cd) (λ_ _ _=>LE X.K X.mg w el) Z H λv H1=>∃H2,Mel X H1 H2/\Q v H2:=by
 obtain⟨F,G,p,r,p',rel,e,kq⟩:=h;have inj:=dm s2 nd;have frl:=M8 s2
 replace e:=(tq _ _ _ _ _ _).symm.trans e
 obtain⟨⟨xs,p1⟩,e1,e⟩:=ZI.mp e;obtain⟨⟨yz,qe⟩,e2,e⟩:=Yx.mp e;cases e;have e2:Dm (Zqt w tg cd el) xs [] (qb fr p1)=some (yz,qe):=e2;refine⟨F,G,p,xs,p1,rel,e1,λF1 H1 F' H' J l u Zo fz zl walk=>?_⟩;intro D fp sx hD;obtain⟨Yj,u',lr⟩:=fz.rel Zo
 have jl:∀i j:Nat,fr[i]?=some (some j)->j<p1.length:=λi j e=>by
  obtain⟨x,a1,a2,_⟩:=U1 s2 e;rw[Zo.ln,hσ];exact(Rk.mp a2).1
 let GD:ZQ->Hp:=λys=>upd (M6 fr p1 Z H' G) D (.lst ys)
 let Wt:Nat->Nat->ZQ->L2.St->Hp->Prop:=λi m ys σ2 H2=>m=xs.length-i/\i<=xs.length/\∃F2 q acc,Le F' F2/\Up X.K H' H2/\Rel X.K X.mg F2 (GD ys) q σ2 H2/\Zq X.K X.mg H2 F2 acc ys/\ys.length<=i/\Dm (Zqt w tg cd el) (xs.drop i) acc q=some (yz,qe)/\(∀i j:Nat,fr[i]?=some (some j)->σ2[i]?=(frees fr Z)[i]?)/\σ2.length=fr.length
 refine⟨Wt,⟨xs.length,rfl,B0 _,F',qb fr p1,[],Le.refl _,(Zn.lay hD).up,Zz6 Yj inj hD,rfl,Yk _,e2,λ_ _ _=>rfl,Jv fr Z⟩,?_⟩;rintro i m ys σ2 H2 ⟨rfl,hi',F2,q,acc,l2,u2,r2,ar,yl,e3,keep,sl⟩;have hD2:H2 D=some (.lst ys):=r2.b.g D _ Zx;refine⟨hD2,?_⟩;obtain⟨wk1,wk2⟩:=walk i F2 H2 l2 u2 r2.b.f;by_cases qg:i<xs.length
 .have et:xs[i]?=some xs[i]:=D4 qg;rw[List.drop_eq_getElem_cons qg]at e3;unfold Dm at e3;obtain⟨⟨o,q1⟩,e4,e5⟩:=ZI.mp e3;obtain⟨s3,e6,e7⟩:=ZI.mp (show (asg tg xs[i] q).bind _=some (o,q1) from e4);obtain⟨⟨b,s4⟩,e8,e9⟩:=ZI.mp e7;obtain⟨g1,g2⟩:=wk1 _ et;refine .inr ⟨g1,λys' σ' H'=>Wt (i+1) (xs.length-(i+1)) ys' σ' H',λys' σ' H' h=>⟨_,by omega,h⟩,λx H3 yd=>?_⟩;obtain⟨sm,ix⟩:=g2 x H3 yd;refine⟨F2,GD ys,q,xs[i],s3,r2.same sm,ix,e6,λσ3 r3 k3 n3=>?_⟩;have keep3:∀i j:Nat,fr[i]?=some (some j)->σ3[i]?=(frees fr Z)[i]?:=λa j ea=>(k3 a λm=>by rw[ht a m]at ea;cases ea).trans (keep a j ea);have sl3:σ3.length=fr.length:=n3.trans sl
  have elm:∀{F4 H4:Hp},b=true->Le F2 F4->Up X.K H3 H4->Rel X.K X.mg F4 (GD ys) s4 σ3 H4->LE X.K X.mg w el σ3 H4 λy H5=>H5 D=some (.lst ys)/\ys.length<sizeLine/\Wt (i+1) (xs.length-(i+1)) (ys++[y]) σ3 (upd H5 D (.lst (ys++[y]))):=λ{F4 H4} hb l4 u4 r4=>by
   rw[if_pos hb]at e9;obtain⟨⟨t',s5⟩,e10,e11⟩:=Yx.mp e9;cases e11;obtain⟨rr,e12,e13⟩:=W3 e10;refine⟨F4,GD ys,s4,rr,s5,r4,e12,λF5 H5 y l5 u5 r5 rs=>?_⟩;obtain⟨F6,l6,r6,it6⟩:=r5.thaw e13 rs;obtain⟨r7,u7⟩:=r6.gset (zs:=ys++[y]);refine⟨r6.b.g D _ Zx,by omega,rfl,qg,F6,s5,acc++[t'],(l2.trans l4).trans (l5.trans l6),u2.trans (sm.up.trans (u4.trans (u5.trans u7))),r7,?_,?_,e5,keep3,sl3⟩
   .exact(Zq.up (sm.up.trans (u4.trans (u5.trans u7))) (l4.trans (l5.trans l6)) _ _ ar).append (Zq.one (IsT.up u7 (Le.refl _) _ _ it6))
   .rw[Qw];show ys.length+1<=i+1;omega
  show (LT X.K X.mg w cd) σ3 H3 λok H4=>if ok=true then _ else _
  unfold LT;by_cases hn:isNil cd=true
  .rw[if_pos hn]at e8;cases e8;rw[if_pos hn];exact Zzx (B:=Wt (i+1) (xs.length-(i+1)) ys σ3 H3) (elm rfl (Le.refl _) (Up.refl _) r3)
  .rw[if_neg hn]at e8;rw[if_neg hn];refine⟨F2,GD ys,s3,b,s4,r3,e8,λF4 H4 l4 u4 r4=>?_⟩;cases b with
   | true =>
    exact Zzx (B:=Wt (i+1) (xs.length-(i+1)) ys σ3 H4) (elm rfl l4 u4 r4)
   | false =>
    cases e9;exact iteF ⟨rfl,qg,F4,s4,acc,l2.trans l4,u2.trans (sm.up.trans u4),r4,Zq.up (sm.up.trans u4) l4 _ _ ar,by omega,e5,keep3,sl3⟩
 .have ei:i=xs.length:=XH
  subst ei;rw[List.drop_length]at e3;cases e3;refine .inl ⟨wk2 rfl,?_⟩;obtain⟨ro,fD,gD,nD⟩:=t8 Yj inj jl hD l2 u2 r2 (by rw[r2.ln];exact sl) keep;obtain⟨F3,H3,l3,r3,ml,u3,lr3,n1,n2⟩:=fz.back l2 ro;refine⟨H3,ml,kq F3 H3 (.ref D) (l.trans l3) (u.trans (u'.trans (u2.trans u3))) r3 ⟨D,rfl,n1 D fD,gD,⟨ys,(n2 D fD).trans hD2,by omega,Zq.upR u3 lr3 _ _ ar⟩,nD⟩⟩
theorem vn(c:Ctx X w k N sc)(hsc:X.env.scope.names=sc){outer:Scope}(ho:outer.names=sc){tg it cd el:E}{fr:ZG}{ns:ZD}{elt t iter:Expr}{ifs:ZC}{scope:Scope}{pos:Pos}
  (hi:PI X t iter (LI X w it)) (s1:Ec outer scope=true) (s2:Jy N scope.names ns fr=true) (nd:ns.Nodup) (ht:∀i∈Bn tg,fr[i]?=some none)
  (hg:∀fp s H,PG (Z3 X scope ns fp s H) t (LG X.K X.mg tg)) (hc:∀fp s H,PTs (Z3 X scope ns fp s H) ifs (LT X.K X.mg w cd)) (he:∀fp s H,PE (Z3 X scope ns fp s H) elt (LE X.K X.mg w el))
  (hfold:∀x,foldedSetIterable iter X.env x=pure x):PE X (.ListComp elt [⟨t,iter,ifs,0⟩] scope pos) (LE X.K X.mg w (.comp tg it cd el fr ns)):=λXM s Z H Q I h =>
 PE.mel (ox (te:=λ_ _ _=>LE X.K X.mg w el) (tt:=λ_ _ _=>LT X.K X.mg w cd) (g:=λ_ _ _=>LG X.K X.mg tg) c.calm hi (NX:=N) (outer:=outer) ⟨c.nN,by rw[hsc,ho],s1,s2⟩ hg hc he hfold) XM s Z H Q I (Io c s2 nd ht (by rw[I.len,c.nN]) h)
end
def asName:Expr->Option Str:=je
noncomputable def O2(x:Expr):Option (ZC):=match Bz x with
 | .tup xs=>some xs
 | _=>none
noncomputable def O5(x:Expr):Option (ZC):=match Bz x with
 | .lst xs=>some xs
 | _=>none
noncomputable def Bt(op:BoolOp)(z:Expr):Option (Expr×Expr×ZC×Pos):=match Bz z with
 | .boo o (x::y::r) pos=>if o=op then some (x,y,r,pos) else none
 | _=>none
noncomputable def O4(z:Expr):Option Expr:=match Bz z with
 | .un o x=>if o=.Not then some x else none
 | _=>none
noncomputable def Zxw(z:Expr):Option (Expr×Expr×Expr):=match Bz z with
 | .ife c a b=>some (c,a,b)
 | _=>none
def Wa:Expr->Option (Str×ZC):=Qm
noncomputable def I9(z:Expr):Option (Str×Str×ZC):=match Bz z with
 | .callA o m ap xs cp=>(match je o with
  | some y=>if (ap.endLine==cp.line)=true then some (y,m,xs) else none
  | none=>none)
 | _=>none
noncomputable def Xz(z:Expr):Option (Expr×Expr×Expr×ZC×Scope):=match Bz z with
 | .lc elt [⟨t,iter,ifs,0⟩] scope=>some (elt,t,iter,ifs,scope)
 | _=>none
noncomputable def plainT:Expr->Bool
 | .UnaryOp .Not _ _=>false
 | .BoolOp _ _ _=>false
 | .IfExp _ _ _ _=>false
 | .Compare _ _ _ _=>false
 | _=>true
def Np:Expr->Bool
 | .Set _ _ _=>false
 | _=>true
noncomputable def Rq:E->Expr->Bool
 | .and a b,x=>match Bt .And x with
  | some (x0,y,r,pos)=>Rq a x0&&(if r.isEmpty then Rq b y else Rq b (.BoolOp .And (y::r) pos)&&(match b with
   | .and _ _=>true
   | _=>false))
  | none=>false
 | .or a b,x=>match Bt .Or x with
  | some (x0,y,r,pos)=>Rq a x0&&(if r.isEmpty then Rq b y else Rq b (.BoolOp .Or (y::r) pos)&&(match b with
   | .or _ _=>true
   | _=>false))
  | none=>false
 | .not a,x=>match O4 x with
  | some y=>Rq a y
  | none=>false
 | .tmp a,x=>Rq a x
 | .pr (.cm _) _,_=>true
 | .pr (.c2 _ _) _,_=>true
 | _,x=>plainT x
noncomputable def sg(fr:ZG)(tg:E):Bool:=(Bn tg).all λi=>fr[i]? == some none
mutual
noncomputable def rep:Bool->ZD->Scope->E->Expr->Bool
 | _,N,sc,.v i,x=>match asName x with
  | some y=>J2 N sc.names i y
  | none=>false
 | _,N,sc,.mv i,x=>match asName x with
  | some y=>J2 N sc.names i y
  | none=>false
 | _,_,_,.k t,x=>repK t x
 | _,_,_,.g _,_=>false
 | tp,N,sc,.tup es,x=>match O2 x with
  | some xs=>Jx es&&Uk tp N sc es xs
  | none=>false
 | tp,N,sc,.lst es,x=>match O5 x with
  | some xs=>Jx es&&Uk tp N sc es xs
  | none=>false
 | tp,N,sc,.pr q es,x=>match view sc.names q x with
  | some xs=>Jx es&&quiet q es&&Uk tp N sc es xs
  | none=>false
 | tp,N,sc,.and a b,x=>match Bt .And x with
  | some (x0,y,r,pos)=>rep tp N sc a x0&&(if r.isEmpty then rep tp N sc b y else rep tp N sc b (.BoolOp .And (y::r) pos))
  | none=>false
 | tp,N,sc,.or a b,x=>match Bt .Or x with
  | some (x0,y,r,pos)=>rep tp N sc a x0&&(if r.isEmpty then rep tp N sc b y else rep tp N sc b (.BoolOp .Or (y::r) pos))
  | none=>false
 | tp,N,sc,.not a,x=>match O4 x with
  | some y=>rep tp N sc a y
  | none=>false
 | tp,N,sc,.ite c a b,x=>match Zxw x with
  | some (z,x0,y)=>rep tp N sc c z&&Rq c z&&rep tp N sc a x0&&rep tp N sc b y
  | none=>false
 | tp,N,sc,.call f es,x=>match Wa x with
  | some (g,xs)=>f==g&&Cv sc.names g && !xs.isEmpty&&Uk tp N sc es xs
  | none=>false
 | _,_,_,.cal _ _,_=>false
 | tp,N,sc,.mt m i es,x=>match I9 x with
  | some (y,n,xs)=>n==mtN m&&J2 N sc.names i y&&Jx es&&Uk tp N sc es xs&&(match m with
   | .pop=>xs.isEmpty
   | _=>!xs.isEmpty&&decide (xs.length<30))
  | none=>false
 | tp,N,sc,.comp tg it c el fr ns,x=>match Xz x with
  | some (elt,t,iter,ifs,scope)=>tp&&Lb tp N sc t it iter&&Ec sc scope&&Jy N scope.names ns fr&&decide (ns.Nodup/\scope.names≠Mh)&&sg fr tg&&Np iter&&Rc ns scope.names tg t
   && (if isNil c then ifs.isEmpty else (match ifs with
    | [z]=>rep false ns scope c z&&Rq c z
    | _=>false))&&rep false ns scope el elt
  | none=>false
 | tp,N,sc,.tmp a,x=>rep tp N sc a x
 | _,_,_,_,_=>false
noncomputable def Lb:Bool->ZD->Scope->Expr->E->Expr->Bool
 | tp,N,sc,t,.itr q es,x=>match Wa x with
  | some (f,xs)=>f==ikN q&&Cv sc.names f&&ikOk q t&&decide (xs.length=ikL q)&&Jx es&&Uk tp N sc es xs
  | none=>false
 | tp,N,sc,_,.v i,x=>match asName x with
  | some y=>J2 N sc.names i y
  | none=>false
 | tp,N,sc,_,.pr q es,x=>match view sc.names q x with
  | some xs=>Jx es&&quiet q es&&Uk tp N sc es xs
  | none=>false
 | tp,N,sc,_,.call f es,x=>match Wa x with
  | some (g,xs)=>f==g&&Cv sc.names g && !xs.isEmpty&&Uk tp N sc es xs
  | none=>false
 | tp,N,sc,_,.lst es,x=>match O5 x with
  | some xs=>Jx es&&Uk tp N sc es xs
  | none=>false
 | tp,N,sc,_,.tup es,x=>match O2 x with
  | some xs=>Jx es&&Uk tp N sc es xs
  | none=>false
 | _,_,_,_,_,_=>false
noncomputable def Uk:Bool->ZD->Scope->E->ZC->Bool
 | _,_,_,.nil,[]=>true
 | tp,N,sc,.cons a r,x::xs=>noStar x&&(match a with
  | .io i=>(match asName x with
   | some y=>J2 N sc.names i y
   | none=>false)
  | _=>rep tp N sc a x)&&Uk tp N sc r xs
 | _,_,_,_,_=>false
end
theorem yy{tp:Bool}{N:ZD}{sc:Scope}{x:Expr}:∀i,rep tp N sc (.v i) x=(match asName x with
  | some y=>J2 N sc.names i y
  | none=>false):=λ_=>rfl
theorem ax{tp:Bool}{N:ZD}{sc:Scope}{x:Expr}:∀i,rep tp N sc (.mv i) x=(match asName x with
  | some y=>J2 N sc.names i y
  | none=>false):=λ_=>rfl
theorem yk{tp:Bool}{N:ZD}{sc:Scope}{x:Expr}:∀es,rep tp N sc (.tup es) x=(match O2 x with
  | some xs=>Jx es&&Uk tp N sc es xs
  | none=>false):=λ_=>rfl
theorem yf{tp:Bool}{N:ZD}{sc:Scope}{x:Expr}:∀es,rep tp N sc (.lst es) x=(match O5 x with
  | some xs=>Jx es&&Uk tp N sc es xs
  | none=>false):=λ_=>rfl
theorem Lg{tp:Bool}{N:ZD}{sc:Scope}{x:Expr}:∀q es,rep tp N sc (.pr q es) x=(match view sc.names q x with
  | some xs=>Jx es&&quiet q es&&Uk tp N sc es xs
  | none=>false):=λ_ _=>rfl
theorem Q3{tp:Bool}{N:ZD}{sc:Scope}{x:Expr}:∀a b,rep tp N sc (.and a b) x=(match Bt .And x with
  | some (x0,y,r,pos)=>rep tp N sc a x0&&(if r.isEmpty then rep tp N sc b y else rep tp N sc b (.BoolOp .And (y::r) pos))
  | none=>false):=λ_ _=>rfl
theorem Aj{tp:Bool}{N:ZD}{sc:Scope}{x:Expr}:∀a b,rep tp N sc (.or a b) x=(match Bt .Or x with
  | some (x0,y,r,pos)=>rep tp N sc a x0&&(if r.isEmpty then rep tp N sc b y else rep tp N sc b (.BoolOp .Or (y::r) pos))
  | none=>false):=λ_ _=>rfl
theorem Q2{tp:Bool}{N:ZD}{sc:Scope}{x:Expr}:∀a,rep tp N sc (.not a) x=(match O4 x with
  | some y=>rep tp N sc a y
  | none=>false):=λ_=>rfl
theorem yb{tp:Bool}{N:ZD}{sc:Scope}{x:Expr}:∀c a b,rep tp N sc (.ite c a b) x=(match Zxw x with
  | some (z,x0,y)=>rep tp N sc c z&&Rq c z&&rep tp N sc a x0&&rep tp N sc b y
  | none=>false):=λ_ _ _=>rfl
theorem Xo{tp:Bool}{N:ZD}{sc:Scope}{x:Expr}:∀f es,rep tp N sc (.call f es) x=(match Wa x with
  | some (g,xs)=>f==g&&Cv sc.names g && !xs.isEmpty&&Uk tp N sc es xs
  | none=>false):=λ_ _=>rfl
theorem aq{tp:Bool}{N:ZD}{sc:Scope}{x:Expr}:∀m i es,rep tp N sc (.mt m i es) x=(match I9 x with
  | some (y,n,xs)=>n==mtN m&&J2 N sc.names i y&&Jx es&&Uk tp N sc es xs&&(match m with
   | .pop=>xs.isEmpty
   | _=>!xs.isEmpty&&decide (xs.length<30))
  | none=>false):=λ_ _ _=>rfl
theorem R9{tp:Bool}{N:ZD}{sc:Scope}{x:Expr}:∀tg it c el fr ns,rep tp N sc (.comp tg it c el fr ns) x=(match Xz x with
  | some (elt,t,iter,ifs,scope)=>tp&&Lb tp N sc t it iter&&Ec sc scope&&Jy N scope.names ns fr&&decide (ns.Nodup/\scope.names≠Mh)&&sg fr tg&&Np iter&&Rc ns scope.names tg t
   && (if isNil c then ifs.isEmpty else (match ifs with
    | [z]=>rep false ns scope c z&&Rq c z
    | _=>false))&&rep false ns scope el elt
  | none=>false):=λ_ _ _ _ _ _=>rfl
theorem X2{tp:Bool}{N:ZD}{sc:Scope}{t x:Expr}:∀q es,Lb tp N sc t (.itr q es) x=(match Wa x with
  | some (f,xs)=>f==ikN q&&Cv sc.names f&&ikOk q t&&decide (xs.length=ikL q)&&Jx es&&Uk tp N sc es xs
  | none=>false):=λ_ _=>rfl
theorem El{tp:Bool}{N:ZD}{sc:Scope}{x:Expr}{xs:ZC}:∀a r,Uk tp N sc (.cons a r) (x::xs)=(noStar x&&(match a with
  | .io i=>(match asName x with
   | some y=>J2 N sc.names i y
   | none=>false)
  | _=>rep tp N sc a x)&&Uk tp N sc r xs):=λ_ _=>rfl
theorem Tn{x:Expr}{env:Env}(h:plainT x=true):∀whole,isTrue x env whole=(do let v <-whole;standAt x.pos;holding [v] (truthy v)):=by
 intro wh;cases x<;>first | rfl | cases h | (rename_i op _ _;cases op<;>first | rfl | cases h)
theorem J3{x:Expr}{env:Env}(h:Np x=true):∀v,foldedSetIterable x env v=pure v:=by
 intro v;cases x<;>first | rfl | cases h
theorem Ge{x:Expr}{y:Str}(h:asName x=some y):∃pos,x=.Name y pos:=W2 h
theorem cb{x:Expr}{y:ZC}(h:O2 x=some y):∃j pos,x=.Tuple y j pos:=by
 unfold O2 at h
 split at h
 .rename_i e;cases h;exact Z2 e
 .cases h
theorem cu{x:Expr}{y:ZC}(h:O5 x=some y):∃pos,x=.List y pos:=by
 unfold O5 at h
 split at h
 .rename_i e;cases h;exact Z2 e
 .cases h
theorem Nq{op:BoolOp}{x x0 y:Expr}{r:ZC}{pos:Pos}(h:Bt op x=some (x0,y,r,pos)):x=.BoolOp op (x0::y::r) pos:=by
 unfold Bt at h
 split at h
 .rename_i e'
  split at h
  .rename_i e;cases h;rw[<-e];exact Z2 e'
  .cases h
 .cases h
theorem O3{x y:Expr}(h:O4 x=some y):∃pos,x=.UnaryOp .Not y pos:=by
 unfold O4 at h
 split at h
 .rename_i e'
  split at h
  .rename_i e;cases h;rw[<-e];exact Z2 e'
  .cases h
 .cases h
theorem Zxj{x a b c:Expr}(h:Zxw x=some (c,a,b)):∃pos,x=.IfExp c a b pos:=by
 unfold Zxw at h
 split at h
 .rename_i e;cases h;exact Z2 e
 .cases h
theorem O7{x:Expr}{f:Str}{xs:ZC}(h:Wa x=some (f,xs)):∃p pos,x=.Call (.Name f p) xs [] pos:=Gs h
theorem cn{x:Expr}{y m:Str}{xs:ZC}(h:I9 x=some (y,m,xs)):∃p ap cp,x=.Call (.Attribute (.Name y p) m ap) xs [] cp/\(ap.endLine==cp.line)=true:=by
 unfold I9 at h
 split at h
 .rename_i e
  split at h
  .rename_i e'
   obtain⟨p,rfl⟩:=W2 e'
   split at h
   .rename_i z;cases h;exact⟨p,_,_,Z2 e,z⟩
   .cases h
  .cases h
 .cases h
theorem O6{x elt t iter:Expr}{ifs:ZC}{scope:Scope}(h:Xz x=some (elt,t,iter,ifs,scope)):∃pos,x=.ListComp elt [⟨t,iter,ifs,0⟩] scope pos:=by
 unfold Xz at h
 split at h
 .rename_i e;cases h;exact Z2 e
 .cases h
def Zqn:E->Bool
 | .and _ _=>true
 | .or _ _=>true
 | _=>false
def SE(w:W)(e:E):Prop:=∀(X:Cx) (k:Nat) (N:ZD) (sc:Scope) (tp:Bool) (x:Expr),Ctx X w k N sc.names->(tp=true->X.env.scope.names=sc.names)->rep tp N sc e x=true->PE X x (LE X.K X.mg w e)
def ST(w:W)(e:E):Prop:=∀(X:Cx) (k:Nat) (N:ZD) (sc:Scope) (tp:Bool) (x:Expr),Ctx X w k N sc.names->(tp=true->X.env.scope.names=sc.names)->rep tp N sc e x=true->Rq e x=true->PT X x (LB X.K X.mg w e)/\(Zqn e=true->PW X x (LB X.K X.mg w e))
def SR(w:W)(e:E):Prop:=∀(X:Cx) (k:Nat) (N:ZD) (sc:Scope) (tp m:Bool) (xs:ZC),Ctx X w k N sc.names->(tp=true->X.env.scope.names=sc.names)->Uk tp N sc e xs=true->Hs X w m e xs
def SI(w:W)(e:E):Prop:=∀(X:Cx) (k:Nat) (N:ZD) (sc:Scope) (tp:Bool) (t x:Expr),Ctx X w k N sc.names->(tp=true->X.env.scope.names=sc.names)->Lb tp N sc t e x=true->PI X t x (LI X w e)
section
variable{w:W}
theorem Yl{e:E}(h:SE w e)(ht:∀x,Rq e x=plainT x)(ha:Zqn e=false):ST w e:=λX k N sc tp x c ct hr ht'=>⟨Zxt (h X k N sc tp x c ct hr) (Tn (by rw[<-ht x];exact ht')),λz=>by rw[ha]at z;cases z⟩
theorem Vx{e:E}(h:∀tp N sc xs,Uk tp N sc e xs=false):SR w e:=λX k N sc tp m xs c ct hr=>by rw[h]at hr;cases hr
theorem V1{e:E}(h:∀tp N sc t x,Lb tp N sc t e x=false):SI w e:=λX k N sc tp t x c ct hr=>by rw[h]at hr;cases hr
theorem Hi{e:E}(h:∀tp N sc x,rep tp N sc e x=false):SE w e:=λX k N sc tp x c ct hr=>by rw[h]at hr;cases hr
theorem Hn{e:E}(h:∀tp N sc x,rep tp N sc e x=false):ST w e:=λX k N sc tp x c ct hr=>by rw[h]at hr;cases hr
theorem Qe{e:E}(h:SE w e)(hr:∀tp N sc t x,Lb tp N sc t e x=rep tp N sc e x):SI w e:=λX k N sc tp t x c ct h'=>vc (h X k N sc tp x c ct (by rw[<-hr];exact h'))
theorem se_v(i:Nat):SE w (.v i):=λX k N sc tp x c ct hr=>by
 replace hr:=(yy _).symm.trans hr
 split at hr
 .rename_i y hy;obtain⟨pos,rfl⟩:=Ge hy;exact snd_v c hr
 .cases hr
theorem Zxc(i:Nat):SE w (.mv i):=λX k N sc tp x c ct hr=>by
 replace hr:=(ax _).symm.trans hr
 split at hr
 .rename_i y hy;obtain⟨pos,rfl⟩:=Ge hy;exact snd_mv c hr
 .cases hr
theorem se_g(g:Str):SE w (.g g):=λX k N sc tp x c ct hr=>by cases hr
theorem se_k(t:T):SE w (.k t):=λX k N sc tp x c ct hr=>snd_k hr
theorem Ed{es:E}(ih:SR w es):SE w (.tup es):=λX k N sc tp x c ct hr=>by
 replace hr:=(yk _).symm.trans hr
 split at hr
 .rename_i xs hy
  obtain⟨j,pos,rfl⟩:=cb hy;rw[Y8]at hr;exact uq (ih X k N sc tp false xs c ct hr.2) hr.1
 .cases hr
theorem Et{es:E}(ih:SR w es):SE w (.lst es):=λX k N sc tp x c ct hr=>by
 replace hr:=(yf _).symm.trans hr
 split at hr
 .rename_i xs hy
  obtain⟨pos,rfl⟩:=cu hy;rw[Y8]at hr;exact uy (ih X k N sc tp false xs c ct hr.2) hr.1
 .cases hr
theorem v8{q:Pr}{es:E}(ih:SR w es):SE w (.pr q es):=λX k N sc tp x c ct hr=>by
 replace hr:=(Lg _ _).symm.trans hr
 split at hr
 .rename_i xs hy
  simp only[Y8]at hr;exact y9 c hy (ih X k N sc tp true xs c ct hr.2) hr.1.2
 .cases hr
theorem se_and{a b:E}(ha:SE w a)(hb:SE w b):SE w (.and a b):=λX k N sc tp x c ct hr=>by
 replace hr:=(Q3 _ _).symm.trans hr
 split at hr
 .rename_i x0 y r pos hy
  rw[Nq hy];rw[Y8]at hr;obtain⟨h1,h2⟩:=hr;refine snd_and (ha X k N sc tp x0 c ct h1) ?_
  split at h2
  .rename_i hr
   rw[List.isEmpty_iff.mp hr];exact gz (hb X k N sc tp y c ct h2)
  .exact hb X k N sc tp _ c ct h2
 .cases hr
theorem se_or{a b:E}(ha:SE w a)(hb:SE w b):SE w (.or a b):=λX k N sc tp x c ct hr=>by
 replace hr:=(Aj _ _).symm.trans hr
 split at hr
 .rename_i x0 y r pos hy
  rw[Nq hy];rw[Y8]at hr;obtain⟨h1,h2⟩:=hr;refine snd_or (ha X k N sc tp x0 c ct h1) ?_
  split at h2
  .rename_i hr
   rw[List.isEmpty_iff.mp hr];exact gz (hb X k N sc tp y c ct h2)
  .exact hb X k N sc tp _ c ct h2
 .cases hr
theorem se_not{a:E}(ha:SE w a):SE w (.not a):=λX k N sc tp x c ct hr=>by
 replace hr:=(Q2 _).symm.trans hr
 split at hr
 .rename_i y hy
  obtain⟨pos,rfl⟩:=O3 hy;exact uv (ha X k N sc tp y c ct hr)
 .cases hr
theorem v9{a b d:E}(hd:ST w d)(ha:SE w a)(hb:SE w b):SE w (.ite d a b):=λX k N sc tp x c ct hr=>by
 replace hr:=(yb _ _ _).symm.trans hr
 split at hr
 .rename_i z x0 y hy
  obtain⟨pos,rfl⟩:=Zxj hy;simp only[Y8]at hr;obtain⟨⟨⟨h1,h2⟩,h3⟩,h4⟩:=hr;exact ug (hd X k N sc tp z c ct h1 h2).1 (ha X k N sc tp x0 c ct h3) (hb X k N sc tp y c ct h4)
 .cases hr
theorem Lw{f:Str}{es:E}(ih:SR w es):SE w (.call f es):=λX k N sc tp x c ct hr=>by
 replace hr:=(Xo _ _).symm.trans hr
 split at hr
 .rename_i g xs hy
  obtain⟨p,pos,rfl⟩:=O7 hy;simp only[Y8,beq_iff_eq]at hr;obtain⟨⟨⟨rfl,h2⟩,h3⟩,h4⟩:=hr;cases xs with
  | nil=>cases h3
  | cons y ys=>exact vh c (ih X k N sc tp false _ c ct h4) h2
 .cases hr
theorem yx{i:Nat}{es:E}(ih:SR w es):SE w (.cal i es):=λX k N sc tp x c ct hr=>by cases hr
theorem se_tmp{a:E}(ha:SE w a):SE w (.tmp a):=λX k N sc tp x c ct hr=>uw (ha X k N sc tp x c ct hr)
theorem pk{a r:E}(ha:SE w a)(hr':SR w r):SR w (.cons a r):=λX k N sc tp m xs c ct hr=>by
 cases xs with
 | nil=>cases(show false=true from hr)
 | cons x xs =>
  replace hr:=(El _ _).symm.trans hr
  simp only[Y8]at hr;obtain⟨⟨h1,h2⟩,h3⟩:=hr;refine .cons ?_ h1 (hr' X k N sc tp m xs c ct h3)
  split at h2
  .rename_i i
   split at h2
   .rename_i y hy
    obtain⟨pos,rfl⟩:=Ge hy;intro XM s Z H Q I ⟨F,G,p,a',p',rel,e,kq⟩;unfold P1 at e;dsimp only at e
    split at e
    .rename_i hd
     cases e;unfold done at hd
     split at hd
     .rename_i t q
      obtain⟨v,h1,h2⟩:=rel.fz i t q;exact c.var ‹_› XM s Z H Q I ⟨v,h1,kq F H v (Le.refl F) (Up.refl H) rel h1⟩
     .rename_i t q
      obtain⟨a,h1,_⟩:=rel.ow i t q;exact c.var ‹_› XM s Z H Q I ⟨_,h1,kq F H _ (Le.refl F) (Up.refl H) rel h1⟩
     .cases hd
    .cases e
   .cases h2
  .rename_i n1
   by_cases hv:∃i,a=.v i
   .obtain⟨i,rfl⟩:=hv
    replace h2:=(yy _).symm.trans h2
    split at h2
    .rename_i y hy;obtain⟨pos,rfl⟩:=Ge hy;exact snd_hv c h2
    .cases h2
   .exact snd_hd (λi z=>n1 i z) (λi z=>hv ⟨i,z⟩) (ha X k N sc tp x c ct h2)
theorem Zx1{X:Cx}{e:E}{Z:L2.St}{H:Hp}{R:Bool->Hp->Prop}(h:LB X.K X.mg w e Z H R):LE X.K X.mg w e Z H λv H'=>W4 R v H':=by
 obtain⟨F,G,p,r,p',rel,e,kq⟩:=Zx0 h;exact⟨F,G,p,r,p',rel,e,λF' H' v l u Yj rs=>let ⟨b,e1,h1⟩:=kq F' H' v l u Yj rs;⟨b,e1,h1⟩⟩
end
section
variable{X:Cx}{w:W}{k:Nat}{N:ZD}{sc:ZK}
theorem cm_rd(c:Ctx X w k N sc){a b:E}{cm:Cm}{Z:L2.St}{H:Hp}{Q:VK}(h:LE X.K X.mg w (.pr (.cm cm) (.cons a (.cons b .nil))) Z H Q):tOp (rO X (compareOp (G7 cm))) (LH X.K X.mg w true a) (LH X.K X.mg w true b) Z H Q:=by
 obtain⟨F,G,p,r,p',rel,e,kq⟩:=h;obtain⟨as,ts,e1,e2,e3⟩:=Ic e;refine Wz e1 e2 rel λF2 H2 x y t1 t2 et l u Zs s1 s2=>?_;subst et;obtain⟨b,e4,rfl⟩:=Yx.mp e3;exactλXM s σ' v u' I rx ry=>N4 _ I Zs.b.f c.un rx ry s1 s2 e4 (kq F2 H2 _ l u Zs rfl)
theorem c2_rd(c:Ctx X w k N sc){a b d:E}{cm cm':Cm}{Z:L2.St}{H:Hp}{Q:VK}(h3:quiet (.c2 cm cm') (.cons a (.cons b (.cons d .nil)))=true)(h:LE X.K X.mg w (.pr (.c2 cm cm') (.cons a (.cons b (.cons d .nil)))) Z H Q) :
  Ej (rO X (compareOp (G7 cm))) (rO X (compareOp (G7 cm'))) (LH X.K X.mg w true a) (LH X.K X.mg w true b) (LH X.K X.mg w true d) Z H Q:=by
 obtain⟨F,G,p,r,p',rel,e,kq⟩:=h;obtain⟨as,ts,e1,e2,e3⟩:=Ic e;obtain⟨a',p1,as1,q1,q2,rfl⟩:=Ze e1;obtain⟨b',p2,as2,q3,q4,rfl⟩:=Ze q2;obtain⟨c',p3,as3,q5,q6,rfl⟩:=Ze q4;obtain⟨rfl,rfl⟩:=Vw q6;obtain⟨t1,r1,l1,l2,rfl⟩:=Zl e2;obtain⟨t2,r2,l3,l4,rfl⟩:=Zl l2;obtain⟨t3,r3,l5,l6,rfl⟩:=Zl l4;cases l6;have ep:=N5 _ h3 q4;subst ep;obtain⟨b1,c1,e3⟩:=ZI.mp e3;refine⟨F,G,p,a',p1,rel,q1,λF1 H1 x zc u1 az Gb=>⟨F1,G,p1,b',_,az,q3,λF2 H2 y Sn u2 Q0 Bi=>?_⟩⟩;have s1:=Q0.look l1 (Ar.up u2 Sn Gb);have s2:=Q0.look l3 Bi;refineλXM s σ' v u' I rx ry=>N4 _ I Q0.b.f c.un rx ry s1 s2 c1 ⟨b1,rfl,?_⟩;cases b1 with
 | false=>cases e3;exact kq F2 H2 _ (zc.trans Sn) (u1.trans u2) Q0 rfl
 | true =>
  obtain⟨b2,c2,rfl⟩:=Yx.mp e3;refine⟨F2,G,_,c',_,Q0,q5,λF3 H3 z i5 u3 Aq ar3=>?_⟩;exactλXM s σ' v u' I rx ry=>N4 _ I Aq.b.f c.un rx ry (Aq.look l3 (Ar.up u3 i5 Bi)) (Aq.look l5 ar3) c2 (kq F3 H3 _ ((zc.trans Sn).trans i5) ((u1.trans u2).trans u3) Aq rfl)
end
theorem rh{sc:ZK}{c:Cm}{x:Expr}{xs:ZC}(h:view sc (.cm c) x=some xs):∃a b pos,x=.Compare a [G7 c] [b] pos/\behindInMarks (G7 c) b=false/\xs=[a,b]:=by
 replace h:=wy (show vCm c x=some xs from h)
 obtain⟨a,op,b,p,rfl,h⟩:=h
 split at h
 .rename_i ho
  obtain⟨rfl,hm⟩:=ho;cases h;exact⟨_,_,_,rfl,hm,rfl⟩
 .cases h
theorem rp{sc:ZK}{c d:Cm}{x:Expr}{xs:ZC}(h:view sc (.c2 c d) x=some xs):∃a b e pos,x=.Compare a [G7 c,G7 d] [b,e] pos/\lastMarks [G7 c,G7 d] [b,e]=false/\xs=[a,b,e]:=by
 replace h:=wk (show vC2 c d x=some xs from h)
 obtain⟨a,op,Sf,b,e0,p,rfl,h⟩:=h
 split at h
 .rename_i ho
  obtain⟨rfl,rfl,hm⟩:=ho;cases h;exact⟨_,_,_,_,rfl,hm,rfl⟩
 .cases h
section
variable{w:W}
theorem st_pr{q:Pr}{es:E}(ih:SR w es):ST w (.pr q es):=λX k N sc tp x c ct hr ht=>by
 refine⟨?_,λz=>by cases z⟩;have hse:=v8 (q:=q) ih X k N sc tp x c ct hr;cases q with
 | cm cm =>
  replace hr:=(Lg _ _).symm.trans hr
  split at hr
  .rename_i xs hy
   simp only[Y8]at hr;obtain⟨a,b,pos,rfl,hm,rfl⟩:=rh hy;have hs:=ih X k N sc tp true _ c ct hr.2;cases hs with | cons ha _ t=>cases t with | cons hb _ t=>cases t with | nil =>
   exactλXM s Z H Q I h=>ag opr ha hb hm XM s Z H Q I (cm_rd c (Zx1 h))
  .cases hr
 | c2 cm cm' =>
  replace hr:=(Lg _ _).symm.trans hr
  split at hr
  .rename_i xs hy
   simp only[Y8]at hr;obtain⟨a,b,d,pos,rfl,hm,rfl⟩:=rp hy;have hs:=ih X k N sc tp true _ c ct hr.2;cases hs with | cons ha _ t=>cases t with | cons hb _ t=>cases t with | cons hc _ t=>cases t with | nil =>
   exactλXM s Z H Q I h=>y3 opr opr ha hb hc hm XM s Z H Q I (c2_rd c hr.1.2 (Zx1 h))
  .cases hr
 | _=>exact Zxt hse (Tn ht)
theorem st_and{a b:E}(ha:ST w a)(hb:ST w b):ST w (.and a b):=λX k N sc tp x c ct hr ht=>by
 have main:PW X x (LB X.K X.mg w (.and a b)):=by
  replace hr:=(Q3 _ _).symm.trans hr
  unfold Rq at ht
  split at hr
  .rename_i x0 y r pos hy
   rw[hy]at ht;rw[Nq hy];simp only[Y8]at hr ht;obtain⟨h1,h2⟩:=hr;obtain⟨t1,t2⟩:=ht;refine p6 (ha X k N sc tp x0 c ct h1 t1).1 ?_;by_cases hr:r.isEmpty=true
   .rw[if_pos hr]at h2 t2;rw[List.isEmpty_iff.mp hr];exact pw_and1 (hb X k N sc tp y c ct h2 t2).1
   .rw[if_neg hr]at h2 t2;rw[Y8]at t2;exact(hb X k N sc tp _ c ct h2 t2.1).2 (by cases b<;>first | rfl | cases t2.2)
  .cases hr
 exact⟨main.pt,λ_=>main⟩
theorem st_or{a b:E}(ha:ST w a)(hb:ST w b):ST w (.or a b):=λX k N sc tp x c ct hr ht=>by
 have main:PW X x (LB X.K X.mg w (.or a b)):=by
  replace hr:=(Aj _ _).symm.trans hr
  unfold Rq at ht
  split at hr
  .rename_i x0 y r pos hy
   rw[hy]at ht;rw[Nq hy];simp only[Y8]at hr ht;obtain⟨h1,h2⟩:=hr;obtain⟨t1,t2⟩:=ht;refine snt_or (ha X k N sc tp x0 c ct h1 t1).1 ?_;by_cases hr:r.isEmpty=true
   .rw[if_pos hr]at h2 t2;rw[List.isEmpty_iff.mp hr];exact pw_or1 (hb X k N sc tp y c ct h2 t2).1
   .rw[if_neg hr]at h2 t2;rw[Y8]at t2;exact(hb X k N sc tp _ c ct h2 t2.1).2 (by cases b<;>first | rfl | cases t2.2)
  .cases hr
 exact⟨main.pt,λ_=>main⟩
theorem st_not{a:E}(ha:ST w a):ST w (.not a):=λX k N sc tp x c ct hr ht=>by
 refine⟨?_,λz=>by cases z⟩
 replace hr:=(Q2 _).symm.trans hr
 unfold Rq at ht
 split at hr
 .rename_i y hy
  rw[hy]at ht;obtain⟨pos,rfl⟩:=O3 hy;exact p5 (ha X k N sc tp y c ct hr ht).1
 .cases hr
theorem st_tmp{a:E}(ha:ST w a):ST w (.tmp a):=λX k N sc tp x c ct hr ht=>by
 refine⟨?_,λz=>by cases z⟩;exact pe (ha X k N sc tp x c ct hr ht).1
theorem Zxn{m:Mt}{i:Nat}{es:E}(ih:SR w es):SE w (.mt m i es):=λX k N sc tp x c ct hr=>by
 replace hr:=(aq _ _ _).symm.trans hr
 split at hr
 .rename_i y n xs hy
  obtain⟨p0,ap,cp,rfl,Gx⟩:=cn hy;simp only[Y8,beq_iff_eq]at hr;obtain⟨⟨⟨⟨rfl,h2⟩,h3⟩,h4⟩,h5⟩:=hr;have hs:=ih X k N sc tp false xs c ct h4;have Li:=hs.star;intro XM s Z H Q I ⟨F,G,p,r,p',rel,e,kq⟩
  replace e:=(ev_mtQ _ _ _).symm.trans e
  split at e
  .rename_i ho
   obtain⟨a,e1,e⟩:=ZI.mp e;obtain⟨ts,e2,e⟩:=ZI.mp e
   split at e
   .rename_i t et
    obtain⟨⟨t',z⟩,e3,e⟩:=Yx.mp e;cases e;have nt:=T1 es hs e1 h3
    obtain⟨b,ts0,hp⟩:∃b:Addr,∃ts0,p[i]?=some (Sl.o (.lst ts0))/\Z[i]?=some (some (V.ref b)):=by
     unfold zj at ho
     split at ho
     .rename_i l q
      obtain⟨b,h1,_⟩:=rel.ow i _ q;exact⟨b,l,q,h1⟩
     .cases ho
    obtain⟨hp,hb⟩:=hp;obtain⟨b',k1,_,_,vs0,k4,_⟩:=rel.ow i _ hp;rw[hb]at k1;cases k1
    have fin:∀{F1 H1:Hp} {vs:ZQ},Le F F1->Up X.K H H1->Rel X.K X.mg F1 G a.2 Z H1->Zq X.K X.mg H1 F1 ts vs->rM X (mtI m) (.ref b) vs H1 Q:=λ{F1 H1 vs} l1 u1 Zo at'=>λXM s σ' v us I rx rs=>by
     cases rx;exact mt_run I Zo et hb rs at' e3 λF2 H2 v l2 u2=>kq F2 H2 v (l1.trans l2) (u1.trans u2)
    have lA:LA X.K X.mg w false es Z H λvs H1=>rM X (mtI m) (.ref b) vs H1 Q:=⟨F,G,p,a.1,a.2,rel,e1,λF1 H1 vs l1 u1 Zo ar=>fin l1 u1 Zo (Nw nt e2 ar)⟩;have ty:tyV X.K "list" (.ref b) H:=.inl ⟨rfl,vs0,.inl (.inl k4)⟩;have Gq:attributeBase (.Name y p0) (mtN m) X.env (eval (.Name y p0) X.env)=eval (.Name y p0) X.env:=rfl;cases xs with
    | nil =>
     cases hs;obtain⟨q1,q2⟩:=Vw e1;cases m<;>first | cases h5 | skip
     rw[q1]at e2;cases e2;rw[q2]at fin;exact pe_bm0 PySem.F.plainAttrs_list PySem.F.slot_list_pop PySem.F.type_list_pop mtr (c.var h2) Gq Gx XM s Z H Q I ⟨_,hb,ty,fin (Le.refl _) (Up.refl _) rel rfl⟩
    | cons x xr =>
     have hl:(x::xr).length<30:=by
      cases m<;>first | cases h5 | exact Dc (n6.mp h5).2
     have st:=Zu (es:=xr) (env:=X.env) (Li _ Yu);have sa:=Vq xr X.env cp λe m=>Li e (Y3 _ m);have fw:=L6 (env:=X.env) (cpos:=cp) Li hl;cases m with
     | append=>exact Q9 PySem.F.plainAttrs_list PySem.F.slot_list_append PySem.F.type_list_append mtr (c.var h2) hs.pa Gq fw Gx st sa XM s Z H Q I ⟨_,hb,ty,lA⟩
     | extend=>exact Q9 PySem.F.plainAttrs_list PySem.F.slot_list_extend PySem.F.type_list_extend mtr (c.var h2) hs.pa Gq fw Gx st sa XM s Z H Q I ⟨_,hb,ty,lA⟩
     | insert=>exact Q9 PySem.F.plainAttrs_list PySem.F.slot_list_insert PySem.F.type_list_insert mtr (c.var h2) hs.pa Gq fw Gx st sa XM s Z H Q I ⟨_,hb,ty,lA⟩
     | popAt=>exact Q9 PySem.F.plainAttrs_list PySem.F.slot_list_pop PySem.F.type_list_pop mtr (c.var h2) hs.pa Gq fw Gx st sa XM s Z H Q I ⟨_,hb,ty,lA⟩
     | pop=>cases h5
   .cases e
  .cases e
 .cases hr
theorem si_itr{q:Ik}{es:E}(ih:SR w es):SI w (.itr q es):=λX k N sc tp t x c ct hr=>by
 replace hr:=(X2 _ _).symm.trans hr
 split at hr
 .rename_i f xs hy
  obtain⟨p,pos,rfl⟩:=O7 hy;simp only[Y8]at hr;obtain⟨⟨⟨⟨⟨h1,h2⟩,h3⟩,h4⟩,h5⟩,h6⟩:=hr;exact uk c (ih X k N sc tp false xs c ct h6) h5 (by simp only[Y8];exact⟨⟨h1,h2⟩,h3⟩) (Dc h4)
 .cases hr
theorem Ctx.comp{X:Cx}{k:Nat}{N ns:ZD}{sc:ZK}(c:Ctx X w k N sc){scope outer:Scope}(s1:Ec outer scope=true)(nd:ns.Nodup/\scope.names≠Mh)(fp:ZU)(s:Shared)(H:Hp):Ctx (Z3 X scope ns fp s H) w k ns scope.names:=by
 refine⟨rfl,nd.1,λx kd e=>?_,c.calm,c.room,c.bn,c.fn,c.gl,rfl,λx e=>?_,λz=>absurd z nd.2⟩
 .have e2:(relabel scope X.env).names.lookup x=some (if (kd==NameKind.free&&X.env.scope.kind==.function&&X.env.kindOf x==some .cell)=true then NameKind.cell else kd):=by
   rw[Dw,Vm (f:=λn k=>if (k==NameKind.free&&X.env.scope.kind==.function&&X.env.kindOf n==some .cell)=true then NameKind.cell else k),e]
   rfl
  show (relabel scope X.env).names.lookup x=some kd\/(kd=NameKind.free/\(relabel scope X.env).names.lookup x=some NameKind.cell);rw[e2]
  split
  .rename_i h
   simp only[Y8,beq_iff_eq]at h;exact .inr ⟨h.1.1,rfl⟩
  .exact .inl rfl
 .have h1:=s1;unfold Ec at h1;simp only[Y8,decide_eq_true_eq,K8,Bool.or_eq_true]at h1;exact absurd rfl (h1.2 (x,.cell) (PySem.mem_of_lookup e)).1.1
theorem He{tg it cd el:E}{fr:ZG}{ns:ZD}(hit:SI w it)(L1:ST w cd)(hel:SE w el):SE w (.comp tg it cd el fr ns):=λX k N sc tp x c ct hr=>by
 replace hr:=(R9 _ _ _ _ _ _).symm.trans hr
 split at hr
 .rename_i elt t iter ifs scope hy
  obtain⟨pos,rfl⟩:=O6 hy;simp only[Y8]at hr;obtain⟨⟨⟨⟨⟨⟨⟨⟨⟨h1,h2⟩,h3⟩,h4⟩,h5⟩,h6⟩,h7⟩,h8⟩,h9⟩,h10⟩:=hr;have nd':=Dc h5;have nd:ns.Nodup:=nd'.1;have cc:=λfp s H=>c.comp (outer:=sc) h3 nd' fp s H;refine vn c (ct h1) rfl (hit X k N sc tp t iter c ct h2) h3 h4 nd (λi m=>?_) (λfp s H=>W9 (cc fp s H) tg h8) (λfp s H=>?_) (λfp s H=>hel _ k ns scope false elt (cc fp s H) (λz=>by cases z) h10) (J3 h7)
  .unfold sg at h6;rw[K8]at h6;exact eq_of_beq (h6 i m)
  .unfold LT;by_cases hn:isNil cd=true
   .rw[if_pos hn]at h9 ⊢;rw[List.isEmpty_iff.mp h9];exact Ad
   .rw[if_neg hn]at h9 ⊢
    split at h9
    .rw[Y8]at h9;exact Am (L1 _ k ns scope false _ (cc fp s H) (λz=>by cases z) h9.1 h9.2).1
    .cases h9
 .cases hr
theorem sr_nil:SR w .nil:=λX k N sc tp m xs c ct hr=>by
 cases xs with
 | nil=>exact .nil
 | cons _ _=>cases(show false=true from hr)
theorem U8:∀e:E,SE w e/\ST w e/\SR w e/\SI w e:=by
 intro e
 induction e with
 | v i=>exact⟨se_v i,Yl (se_v i) (λ_=>rfl) rfl,Vx λtp N sc xs=>rfl,Qe (se_v i) λtp N sc t x=>rfl⟩
 | mv i=>exact⟨Zxc i,Yl (Zxc i) (λ_=>rfl) rfl,Vx λtp N sc xs=>rfl,V1 λtp N sc t x=>rfl⟩
 | io i=>exact⟨Hi λtp N sc x=>rfl,Hn λtp N sc x=>rfl,Vx λtp N sc xs=>rfl,V1 λtp N sc t x=>rfl⟩
 | k t=>exact⟨se_k t,Yl (se_k t) (λ_=>rfl) rfl,Vx λtp N sc xs=>rfl,V1 λtp N sc t x=>rfl⟩
 | g x=>exact⟨se_g x,Yl (se_g x) (λ_=>rfl) rfl,Vx λtp N sc xs=>rfl,V1 λtp N sc t x=>rfl⟩
 | nil=>exact⟨Hi λtp N sc x=>rfl,Hn λtp N sc x=>rfl,sr_nil,V1 λtp N sc t x=>rfl⟩
 | cons a r ha hr=>exact⟨Hi λtp N sc x=>rfl,Hn λtp N sc x=>rfl,pk ha.1 hr.2.2.1,V1 λtp N sc t x=>rfl⟩
 | tup es ih=>exact⟨Ed ih.2.2.1,Yl (Ed ih.2.2.1) (λ_=>rfl) rfl,Vx λtp N sc xs=>rfl,Qe (Ed ih.2.2.1) λtp N sc t x=>rfl⟩
 | lst es ih=>exact⟨Et ih.2.2.1,Yl (Et ih.2.2.1) (λ_=>rfl) rfl,Vx λtp N sc xs=>rfl,Qe (Et ih.2.2.1) λtp N sc t x=>rfl⟩
 | pr q es ih=>exact⟨v8 ih.2.2.1,st_pr ih.2.2.1,Vx λtp N sc xs=>rfl,Qe (v8 ih.2.2.1) λtp N sc t x=>rfl⟩
 | and a b ha hb=>exact⟨se_and ha.1 hb.1,st_and ha.2.1 hb.2.1,Vx λtp N sc xs=>rfl,V1 λtp N sc t x=>rfl⟩
 | or a b ha hb=>exact⟨se_or ha.1 hb.1,st_or ha.2.1 hb.2.1,Vx λtp N sc xs=>rfl,V1 λtp N sc t x=>rfl⟩
 | not a ha=>exact⟨se_not ha.1,st_not ha.2.1,Vx λtp N sc xs=>rfl,V1 λtp N sc t x=>rfl⟩
 | ite d a b hd ha hb=>exact⟨v9 hd.2.1 ha.1 hb.1,Yl (v9 hd.2.1 ha.1 hb.1) (λ_=>rfl) rfl,Vx λtp N sc xs=>rfl,V1 λtp N sc t x=>rfl⟩
 | call f es ih=>exact⟨Lw ih.2.2.1,Yl (Lw ih.2.2.1) (λ_=>rfl) rfl,Vx λtp N sc xs=>rfl,Qe (Lw ih.2.2.1) λtp N sc t x=>rfl⟩
 | cal i es ih=>exact⟨yx ih.2.2.1,Yl (yx ih.2.2.1) (λ_=>rfl) rfl,Vx λtp N sc xs=>rfl,V1 λtp N sc t x=>rfl⟩
 | mt m i es ih=>exact⟨Zxn ih.2.2.1,Yl (Zxn ih.2.2.1) (λ_=>rfl) rfl,Vx λtp N sc xs=>rfl,V1 λtp N sc t x=>rfl⟩
 | comp tg it cd el fr ns htg hit L1 hel=>exact⟨He hit.2.2.2 L1.2.1 hel.1,Yl (He hit.2.2.2 L1.2.1 hel.1) (λ_=>rfl) rfl,Vx λtp N sc xs=>rfl,V1 λtp N sc t x=>rfl⟩
 | itr q es ih=>exact⟨Hi λtp N sc x=>rfl,Hn λtp N sc x=>rfl,Vx λtp N sc xs=>rfl,si_itr ih.2.2.1⟩
 | tmp a ha=>exact⟨se_tmp ha.1,st_tmp ha.2.1,Vx λtp N sc xs=>rfl,V1 λtp N sc t x=>rfl⟩
end
def Kp(pt:Nat->Bool)(Z σ':L2.St):Prop:=σ'.length=Z.length/\∀i,pt i=true->σ'[i]?=Z[i]?
theorem Kp.refl(pt:Nat->Bool)(Z:L2.St):Kp pt Z Z:=⟨rfl,λ_ _=>rfl⟩
theorem Kp.trans{pt:Nat->Bool}{Z σ1 σ2:L2.St}(a:Kp pt Z σ1)(b:Kp pt σ1 σ2):Kp pt Z σ2:=⟨b.1.trans a.1,λi h=>(b.2 i h).trans (a.2 i h)⟩
def Fo(K:W.Frag)(mg:ZV)(D:Ends)(F G:Hp)(p:P)(Z:L2.St)(H:Hp):Fl->Prop
 | .nx=>D.nx Z H
 | .bk=>D.bk Z H
 | .ct=>D.ct Z H
 | .rt r=>∀v,Res K mg F G p Z H r v->D.rt v H
inductive LS_I(K:PySem.W.Frag)(mg:ZV)(w:W)(pt:Nat->Bool)(s:S)(D:Ends)(Z:L2.St)(H:Hp):Prop
 | mk(F G p fl p')(Vz:Rel K mg F G p Z H)(Y9:ex w pt s p=some (fl,p'))(U5:∀F' H' σ',Le F F'->Up K H H'->Rel K mg F' G p' σ' H'->Kp pt Z σ'->Fo K mg D F' G p' σ' H' fl):LS_I K mg w pt s D Z H
def LS(K:PySem.W.Frag)(mg:ZV)(w:W)(pt:Nat->Bool)(s:S):TS:=λD Z H=>LS_I K mg w pt s D Z H
section
variable{X:Cx}{w:W}{k:Nat}{N:ZD}{sc:ZK}{pt:Nat->Bool}
theorem p9:Rw X [] (LS X.K X.mg w pt .nil):=λXM s Z H D I ⟨F,G,p,fl,p',rel,e,kq⟩=>by
 cases e;exact af XM s Z H D I (kq F H Z (Le.refl F) (Up.refl H) rel (Kp.refl pt Z))
theorem vt{a r:S}{st:Stmt}{rest:List Stmt}(ha:PS X st (LS X.K X.mg w pt a))(hr:Rw X rest (LS X.K X.mg w pt r)):Rw X (st::rest) (LS X.K X.mg w pt (.seq a r)):=λXM s Z H D I ⟨F,G,p,fl,p',rel,e,kq⟩=>by
 replace e:=(Zzl _ _).symm.trans e
 obtain⟨⟨f,q⟩,e1,e2⟩:=ZI.mp e;refine y4 ha hr XM s Z H D I ⟨F,G,p,f,q,rel,e1,λF1 H1 σ1 l1 u1 Zo k1=>?_⟩;cases f with
 | nx=>exact⟨F1,G,q,fl,p',Zo,e2,λF2 H2 σ2 l2 u2 Zs k2=>kq F2 H2 σ2 (l1.trans l2) (u1.trans u2) Zs (k1.trans k2)⟩
 | rt t=>cases e2;exact kq F1 H1 σ1 l1 u1 Zo k1
 | bk=>cases e2;exact kq F1 H1 σ1 l1 u1 Zo k1
 | ct=>cases e2;exact kq F1 H1 σ1 l1 u1 Zo k1
theorem p7{a:E}{x:Expr}{pos:Pos}(h:PE X x (LE X.K X.mg w a)):PS X (.Return (some x) pos) (LS X.K X.mg w pt (.ret a)):=λXM s Z H D I ⟨F,G,p,fl,p',rel,e,kq⟩=>by
 replace e:=(Zzr _).symm.trans e
 obtain⟨⟨r,q⟩,e1,e2⟩:=Yx.mp e;cases e2;exact ps_ret h XM s Z H D I ⟨F,G,p,r,q,rel,e1,λF1 H1 v l1 u1 Zo rs=>kq F1 H1 Z l1 u1 Zo (Kp.refl pt Z) v rs⟩
theorem vm{pos:Pos}:PS X (.Return none pos) (LS X.K X.mg w pt (.ret (.k .non))):=λXM s Z H D I ⟨F,G,p,fl,p',rel,e,kq⟩=>by
 cases e;exact ah XM s Z H D I (kq F H Z (Le.refl F) (Up.refl H) rel (Kp.refl pt Z) .non rfl)
noncomputable def Gp:Expr->Bool
 | .ListComp _ _ _ _=>false
 | .SetComp _ _ _ _=>false
 | .DictComp _ _ _ _ _=>false
 | _=>true
theorem Hc{x:Expr}{t:Option Expr}{ln:Nat}{env:Env}(h:Gp x=true):swapsWith x t ln env=pure false:=by
 cases x<;>first | rfl | cases h
def notName:Expr->Bool
 | .Name _ _=>false
 | _=>true
theorem Ht{x t:Expr}{ln:Nat}{env:Env}(h:notName t=true):swapsWith x (some t) ln env=pure false:=by
 cases x<;>first | rfl | (cases t<;>first | rfl | cases h)
theorem sns_ex{a:E}{x:Expr}{pos:Pos}(h:PE X x (LE X.K X.mg w a))(hc:Gp x=true):PS X (.Expr x pos) (LS X.K X.mg w pt (.ex a)):=λXM s Z H D I ⟨F,G,p,fl,p',rel,e,kq⟩=>by
 replace e:=(ex_exQ _).symm.trans e
 obtain⟨⟨r,q⟩,e1,e2⟩:=Yx.mp e;cases e2;exact au h (Hc hc) XM s Z H D I ⟨F,G,p,r,q,rel,e1,λF1 H1 v l1 u1 Zo rs=>kq F1 H1 Z l1 u1 Zo (Kp.refl pt Z)⟩
theorem kp_set{i:Nat}{Z:L2.St}{v:Option V}(h:¬ pt i=true):Kp pt Z (Z.set i v):=⟨XG ..,λj hj=>List.getElem?_set_ne λz=>h (by rw[z];exact hj)⟩
theorem v7{i:Nat}{a:E}{Z:L2.St}{H:Hp}{D:Ends}(hi:i<Z.length)(h:LS X.K X.mg w pt (.set i a) D Z H):LE X.K X.mg w a Z H λv H1=>D.nx (Z.set i (some v)) H1:=by
 obtain⟨F,G,p,fl,p',rel,e,kq⟩:=h
 replace e:=(Zzn _ _).symm.trans e
 split at e
 .cases e
 .rename_i hp
  obtain⟨⟨r,q⟩,e1,e2⟩:=Yx.mp e;cases e2;exact⟨F,G,p,r,q,rel,e1,λF1 H1 v l1 u1 Zo rs=>kq F1 H1 _ l1 u1 (Zo.bind hi rs) (kp_set hp)⟩
theorem Hh(c:Ctx X w k N sc){i:Nat}{a:E}{x:Expr}{y:Str}{pos pos':Pos}(hr:(N[i]? == some y&&locs sc y)=true)(h:PE X x (LE X.K X.mg w a))(hc:swapsWith x (some (.Name y pos')) pos.line X.env=pure false):PS X (.Assign [.Name y pos'] x pos) (LS X.K X.mg w pt (.set i a)):=λXM s Z H D I hs=>by
 rw[Y8,beq_iff_eq]at hr;obtain⟨l1,l2⟩:=c.loc hr.2;have hi:X.N[i]?=some y:=by rw[c.nN];exact hr.1
 exact ps_set (by rw[c.nN];exact c.nd) hi l1 h hc l2 XM s Z H D I (v7 (by rw[I.len];exact(Rk.mp hi).1) hs)
theorem uz{c:E}{a b:S}{z:Expr}{x y:List Stmt}{pos:Pos}(hc:PT X z (LB X.K X.mg w c))(ha:Rw X x (LS X.K X.mg w pt a))(hb:Rw X y (LS X.K X.mg w pt b)):PS X (.If z x y pos) (LS X.K X.mg w pt (.ite c a b)):=λXM s Z H D I ⟨F,G,p,fl,p',rel,e,kq⟩=>by
 replace e:=(Zzh _ _ _).symm.trans e
 obtain⟨⟨d,q⟩,e1,e2⟩:=ZI.mp e;refine ps_if hc ha hb XM s Z H D I ⟨F,G,p,d,q,rel,e1,λF1 H1 l1 u1 Zo=>?_⟩;cases d with
 | true=>exact Zzx (B:=LS X.K X.mg w pt b D Z H1) ⟨F1,G,q,fl,p',Zo,e2,λF2 H2 σ2 l2 u2=>kq F2 H2 σ2 (l1.trans l2) (u1.trans u2)⟩
 | false=>exact iteF (A:=LS X.K X.mg w pt a D Z H1) ⟨F1,G,q,fl,p',Zo,e2,λF2 H2 σ2 l2 u2=>kq F2 H2 σ2 (l1.trans l2) (u1.trans u2)⟩
end
theorem Kh{o kx:Expr}{pos:Pos}{env:Env}(h:Va kx=true):∀v,assign (.Subscript o kx pos) env v=(do
   let ov <-holding [v] (eval o env)
   let iv <-holding [v,ov] (eval kx env)
   standAt pos
   holding [v,ov,iv] (setItem ov iv v)
   release [v,ov,iv] []):=by
 intro v;cases kx<;>first | rfl | cases h
section
variable{X:Cx}{w:W}{k:Nat}{N:ZD}{sc:ZK}{pt:Nat->Bool}
theorem p8(c:Ctx X w k N sc){i:Nat}{kk a:E}{x kx:Expr}{y:Str}{pos pos' Ui:Pos}(hr:J2 N sc i y=true)(h:PE X x (LE X.K X.mg w a))(hk:PE X kx (LE X.K X.mg w kk))(hn:Va kx=true) :
  PS X (.Assign [.Subscript (.Name y pos') kx Ui] x pos) (LS X.K X.mg w pt (.put i kk a)):=λXM s Z H D I ⟨F,G,p,fl,p',rel,e,kq⟩=>by
 replace e:=(Zzs _ _ _).symm.trans e
 obtain⟨⟨t,q⟩,e1,e⟩:=ZI.mp e;dsimp only at e
 split at e
 .rename_i hd
  obtain⟨⟨kt,q2⟩,e2,e⟩:=ZI.mp e;dsimp only at e
  split at e
  .rename_i z ez
   obtain⟨z',e3,e⟩:=Yx.mp e;cases e;obtain⟨r,e4,e5⟩:=W3 e1;obtain⟨r2,e6,e7⟩:=W3 e2
   have slot:∀{F1 H1:Hp},Rel X.K X.mg F1 G q Z H1->∃v,Z[i]?=some (some v):=λ{F1 H1} Zo=>by
    unfold done at hd
    split at hd
    .rename_i u eu;obtain⟨v,h1,_⟩:=Zo.fz i u eu;exact⟨v,h1⟩
    .rename_i u eu;obtain⟨v,h1,_⟩:=Zo.ow i u eu;exact⟨_,h1⟩
    .cases hd
   unfold putAt at e3
   split at e3
   .obtain⟨j,e8,rfl⟩:=Yx.mp e3;refine ps_asg h (pg_sub (c.var hr) hk set_list (Kh hn)) (show swapsWith x (some (.Subscript (.Name y pos') kx Ui)) pos.line X.env=pure false from Ht rfl) ?_ rfl XM s Z H D I ⟨F,G,p,r,q,rel,e4,λF1 H1 v l1 u1 Zo rs=>?_⟩
    .unfold swappedStores;cases x<;>rfl
    obtain⟨F2,l2,Zs,hv⟩:=Zo.thaw e5 rs;obtain⟨v1,hv1⟩:=slot Zs;refine⟨v1,hv1,F2,G,q,r2,q2,Zs,e6,λF3 H3 vk l3 u3 Nl rs2=>?_⟩;obtain⟨F4,l4,X4,hvk⟩:=Nl.thaw e7 rs2;obtain⟨b,g1,g2,g3,ys,g4,g5,g6⟩:=X4.ow i _ ez;rw[hv1]at g1;cases g1;cases(show vk=_ from hvk);have hv4:=IsT.up u3 (l3.trans l4) _ _ hv;have u5:Up X.K H3 (upd H3 b (.lst (ys.set j v))):=S7 g4;obtain⟨u6,rel6⟩:=X4.mut (o:=.lst (ys.set j v)) (t':=.lst (_root_.List.set _ j t)) ez hv1 ⟨_,Zx,by rw[XG];exact g5,Zq.up u5 (Le.refl _) _ _ (g6.set j hv4)⟩;exact⟨b,ys,_,j,rfl,rfl,g4,by rw[<-g6.length];exact e8,kq F4 _ Z ((l1.trans l2).trans (l3.trans l4)) (u1.trans (u3.trans u6)) rel6 (Kp.refl pt Z)⟩
   .obtain⟨kv,e8,e9⟩:=ZI.mp e3
    split at e9
    .rename_i hz
     cases e9;have hu:X.A.units+1<cLine:=by have:=c.un;omega
     refine aa hu (c.var hr) hk h (Ht rfl) XM s Z H D I ⟨F,G,p,r,q,rel,e4,λF1 H1 v l1 u1 Zo rs=>?_⟩;obtain⟨F2,l2,Zs,hv⟩:=Zo.thaw e5 rs;obtain⟨v1,hv1⟩:=slot Zs;refine⟨v1,hv1,F2,G,q,r2,q2,Zs,e6,λF3 H3 vk l3 u3 Nl rs2=>?_⟩;obtain⟨F4,l4,X4,hvk⟩:=Nl.thaw e7 rs2;obtain⟨b,g1,g2,g3,ks,g4,g5,g6⟩:=X4.ow i _ ez;rw[hv1]at g1;cases g1;cases Mu (K:=X.K) (mg:=X.mg) (H:=H3) (F:=F4) e8 (Em X4.b hvk);have hv4:=IsT.up u3 (l3.trans l4) _ _ hv;have own:Rz X.K X.mg H3 F4 b (.dct _):=⟨ks,g4,g5,g6⟩;have u5:Up X.K H3 (upd H3 b (.dK (putK ks kv v))):=S8 own;have lk:=g6.length;have pl:=V3 ks kv v;obtain⟨u6,rel6⟩:=X4.mut (o:=.dK (putK ks kv v)) (t':=.dct (Yw _ kv t)) ez hv1 ⟨_,Zx,by omega,Zc.up u5 (Le.refl _) _ _ (Zc.put hv4 g6)⟩;exact⟨b,_,rfl,K6.k g4 XH,kq F4 _ Z ((l1.trans l2).trans (l3.trans l4)) (u1.trans (u3.trans u6)) rel6 (Kp.refl pt Z)⟩
    .cases e9
   .cases e3
  .cases e
 .cases e
end
theorem tn_of{pt:Nat->Bool}:∀(tg:E) (i:Nat),U7 pt tg=true->i∈Bn tg->pt i=false:=λtg=>by
 induction tg with
 | v i=>intro j h m;cases Nm.mp m;simpa [U7] using h
 | tup es ih=>intro j h m;exact ih j h m
 | cons a r ha hr=>intro j h m;simp only[U7,Y8]at h;rcases qj.mp m with m | m;exact ha j h.1 m;exact hr j h.2 m
 | _=>intro j h m;exact absurd m Ve
section
variable{X:Cx}{w:W}{k:Nat}{N:ZD}{sc:ZK}{pt:Nat->Bool}
theorem Frz.fo{F F' G H H' F2 H2:Hp}{p2:P}{σ2:L2.St}{D:Ends}{fl:Fl}(z:Frz X F H F' H')(l:Le F' F2)(r:Rel X.K X.mg F2 G p2 σ2 H2)(kq:∀F3 H3,Le F F3->Up X.K H2 H3->Rel X.K X.mg F3 G p2 σ2 H3->Fo X.K X.mg D F3 G p2 σ2 H3 fl):Fo X.K X.mg (bf X D) F2 G p2 σ2 H2 fl:=by
 obtain⟨F3,H3,l3,r3,ml,u3,lr,n1,n2⟩:=z.back l r;have h:=kq F3 H3 l3 u3 r3;cases fl with
 | nx=>exact⟨H3,ml,h⟩
 | bk=>exact⟨H3,ml,h⟩
 | ct=>exact⟨H3,ml,h⟩
 | rt rr =>
  intro v rs;refine⟨H3,ml,h v ?_⟩;cases rr with
  | no=>exact rs
  | f t=>exact IsT.upR u3 lr t v rs
  | o t =>
   obtain⟨a,rfl,g1,g2,g3,g4⟩:=rs;refine⟨a,rfl,n1 a g1,g2,?_,g4⟩;cases t with
   | lst ts=>obtain⟨vs,k1,k2,k3⟩:=g3;exact⟨vs,(n2 a g1).trans k1,k2,Zq.upR u3 lr _ _ k3⟩
   | dct ts=>obtain⟨vs,k1,k2,k3⟩:=g3;exact⟨vs,(n2 a g1).trans k1,k2,Zc.upR u3 lr _ _ k3⟩
   | _=>exact g3.elim
theorem vd(c:Ctx X w k N sc){tg it:E}{b:S}{t iter:Expr}{body:List Stmt}{pos:Pos}(hi:PI X t iter (LI X w it))(hg:Rc N sc tg t=true)(hb:Rw X body (LS X.K X.mg w pt b))(hs:Np iter=true):PS X (.For t iter body [] pos) (LS X.K X.mg w pt (.loop tg it b)):=λXM s Z H D I ⟨F,G,p,fl,p',rel,e,kq⟩=>by
 replace e:=(de _ _ _).symm.trans e
 split at e
 .rename_i hp
  obtain⟨⟨xs,p1⟩,e1,e2⟩:=ZI.mp e;dsimp only at e2;refine PS.mel (ps_for (by rw[c.xe];exact PassesOwn.never) c.calm hi (W9 c tg hg) hb (J3 hs)) XM s Z H D I ⟨F,G,p,xs,p1,rel,e1,λF1 H1 F' H' J l u Zo fz zl walk=>?_⟩;obtain⟨Yj,u',lr⟩:=fz.rel Zo
  let Wt:Nat->Nat->L2.St->Hp->Prop:=λi m σ2 H2=>m=xs.length-i/\i<=xs.length/\∃F2 q,Le F' F2/\Up X.K H' H2/\Rel X.K X.mg F2 G q σ2 H2/\Kp pt Z σ2/\Bw (λx s=>(asg tg x s).bind λs1=>ex w pt b s1) (xs.drop i) q=some (fl,p')
  refine⟨Wt,⟨xs.length,rfl,B0 _,F',p1,Le.refl _,Up.refl _,Yj,Kp.refl pt Z,e2⟩,?_⟩;rintro i m σ2 H2 ⟨rfl,hi',F2,q,l2,u2,r2,kp,e3⟩;obtain⟨wk1,wk2⟩:=walk i F2 H2 l2 u2 r2.b.f;by_cases qg:i<xs.length
  .have et:xs[i]?=some xs[i]:=D4 qg;rw[List.drop_eq_getElem_cons qg]at e3;unfold Bw at e3;obtain⟨⟨f,q1⟩,e4,e5⟩:=ZI.mp e3;obtain⟨s3,e6,e7⟩:=ZI.mp (show (asg tg xs[i] q).bind _=some (f,q1) from e4);obtain⟨g1,g2⟩:=wk1 _ et;refine .inr ⟨g1,λσ' H'=>Wt (i+1) (xs.length-(i+1)) σ' H',λσ' H' h=>⟨_,by omega,h⟩,λx H3 yd=>?_⟩;obtain⟨sm,ix⟩:=g2 x H3 yd;refine⟨F2,G,q,xs[i],s3,r2.same sm,ix,e6,λσ3 r3 k3 n3=>?_⟩;have kp3:Kp pt σ2 σ3:=⟨n3,λj hj=>k3 j λm=>by rw[tn_of tg j hp m]at hj;cases hj⟩;refine⟨F2,G,s3,f,q1,r3,e7,λF4 H4 σ4 l4 u4 r4 k4=>?_⟩;have kk:=kp.trans (kp3.trans k4);have uu:=u2.trans (sm.up.trans u4)
   have out:∀{fl':Fl},fl=fl'->q1=p'->Fo X.K X.mg (bf X D) F4 G q1 σ4 H4 fl':=λ{fl'} ef ep=>by
    subst ef ep;exact fz.fo (l2.trans l4) r4 λF5 H5 l5 u5 r5=>kq F5 H5 σ4 (l.trans l5) (u.trans (u'.trans (uu.trans u5))) r5 kk
   cases f with
   | nx=>exact⟨rfl,qg,F4,q1,l2.trans l4,uu,r4,kk,e5⟩
   | ct=>exact⟨rfl,qg,F4,q1,l2.trans l4,uu,r4,kk,e5⟩
   | bk=>cases e5;exact out rfl rfl
   | rt r=>cases e5;exact out rfl rfl
  .have ei:i=xs.length:=XH
   subst ei;rw[List.drop_length]at e3;cases e3;exact .inl ⟨wk2 rfl,fz.fo (fl:=.nx) l2 r2 λF5 H5 l5 u5 r5=>kq F5 H5 σ2 (l.trans l5) (u.trans (u'.trans (u2.trans u5))) r5 kp⟩
 .cases e
theorem sns_wh(c:Ctx X w k N sc){cd:E}{b:S}{z:Expr}{body:List Stmt}{pos:Pos}(hc:PT X z (LB X.K X.mg w cd))(hb:Rw X body (LS X.K X.mg w pt b)):PS X (.While z body [] pos) (LS X.K X.mg w pt (.wh cd b)):=λXM s Z H D I ⟨F,G,p,fl,p',rel,e,kq⟩=>by
 replace e:=(ex_whQ _ _).symm.trans e
 refine y6 (by rw[c.xe];exact PassesOwn.never) hc hb XM s Z H D I ?_
 let Wt:Nat->L2.St->Hp->Prop:=λm σ2 H2=>∃F2 q,Le F F2/\Up X.K H H2/\Rel X.K X.mg F2 G q σ2 H2/\Kp pt Z σ2/\Bj (λs=>Ji (ev w cd s)) (λs=>ex w pt b s) m q=some (fl,p')
 refine⟨Wt,⟨1000000,F,p,Le.refl _,Up.refl _,rel,Kp.refl pt Z,e⟩,?_⟩;rintro m σ2 H2 ⟨F2,q,l2,u2,r2,kp,e3⟩;cases m with
 | zero=>cases e3
 | succ m =>
  unfold Bj at e3;obtain⟨⟨d,q1⟩,e4,e5⟩:=ZI.mp e3;refine⟨F2,G,q,d,q1,r2,e4,λF3 H3 l3 u3 r3=>?_⟩;cases d with
  | false =>
   cases e5;exact iteF (kq F3 H3 σ2 (l2.trans l3) (u2.trans u3) r3 kp)
  | true =>
   obtain⟨⟨f,q2⟩,e6,e7⟩:=ZI.mp (show (ex w pt b q1).bind _=some (fl,p') from e5);refine Zzx (B:=D.nx σ2 H3) ⟨λσ' H'=>Wt m σ' H',λσ' H' h=>⟨m,Nat.lt_succ_self m,h⟩,F3,G,q1,f,q2,r3,e6,λF4 H4 σ4 l4 u4 r4 k4=>?_⟩;have kk:=kp.trans k4;have uu:=u2.trans (u3.trans u4);have ll:=l2.trans (l3.trans l4);cases f with
   | nx=>exact⟨F4,q2,ll,uu,r4,kk,e7⟩
   | ct=>exact⟨F4,q2,ll,uu,r4,kk,e7⟩
   | bk=>cases e7;exact kq F4 H4 σ4 ll uu r4 kk
   | rt r=>cases e7;exact kq F4 H4 σ4 ll uu r4 kk
end
def Iz:E->Bool
 | .comp _ _ _ _ _ _=>true
 | _=>false
inductive ShS where
 | ret(x:Option Expr) | ex(x:Expr) | asg(t x:Expr) | ite(z:Expr)(a b:List Stmt) | loop(t it:Expr)(b:List Stmt) | wh(z:Expr)(b:List Stmt) | pass | brk | cont | non
noncomputable def shA:ZC->Expr->ShS
 | [],_=>.non
 | t::r,x=>match r with
  | []=>.asg t x
  | _::_=>.non
def shL(t it:Expr)(b:List Stmt):List Stmt->ShS
 | []=>.loop t it b
 | _::_=>.non
def shW(z:Expr)(b:List Stmt):List Stmt->ShS
 | []=>.wh z b
 | _::_=>.non
noncomputable def Sk:Stmt->ShS
 | .Return x _=>.ret x
 | .Expr x _=>.ex x
 | .Assign ts x _=>shA ts x
 | .If z a b _=>.ite z a b
 | .For t it b e _=>shL t it b e
 | .While z b e _=>shW z b e
 | .Pass _=>.pass
 | .Break _=>.brk
 | .Continue _=>.cont
 | _=>.non
def ShSI:ShS->Stmt->Prop
 | .ret x,s=>∃p,s=.Return x p
 | .ex x,s=>∃p,s=.Expr x p
 | .asg t x,s=>∃p,s=.Assign [t] x p
 | .ite z a b,s=>∃p,s=.If z a b p
 | .loop t it b,s=>∃p,s=.For t it b [] p
 | .wh z b,s=>∃p,s=.While z b [] p
 | .pass,s=>∃p,s=.Pass p
 | .brk,s=>∃p,s=.Break p
 | .cont,s=>∃p,s=.Continue p
 | .non,_=>True
theorem uh(s:Stmt):ShSI (Sk s) s:=by
 cases s
 case Assign ts x p=>cases ts with
  | nil=>trivial
  | cons t r=>cases r with
   | nil=>exact⟨_,rfl⟩
   | cons _ _=>trivial
 case For t it b e p=>cases e with
  | nil=>exact⟨_,rfl⟩
  | cons _ _=>trivial
 case While z b e p=>cases e with
  | nil=>exact⟨_,rfl⟩
  | cons _ _=>trivial
 all_goals first | exact⟨_,rfl⟩ | exact True.intro
theorem Dl{s:Stmt}{h:ShS}(e:Sk s=h):ShSI h s:=e ▸ uh s
def E8:E->Bool
 | .k t=>match t with
  | .non=>true
  | _=>false
 | _=>false
theorem z6{a:E}(h:E8 a=true):a=.k .non:=by
 cases a with
 | k t=>cases t with
  | non=>rfl
  | _=>cases h
 | _=>cases h
noncomputable def fm(t:Expr):Option Str:=match Bz t with
 | .name y=>some y
 | _=>none
theorem A0{t:Expr}{y:Str}(h:fm t=some y):∃p,t=.Name y p:=by
 unfold fm at h
 split at h
 .rename_i e
  cases h;exact Z2 e
 .cases h
noncomputable def ue(t:Expr):Option (Str×Expr):=match Bz t with
 | .sub o k=>(fm o).map (·,k)
 | _=>none
theorem uo{t k:Expr}{y:Str}(h:ue t=some (y,k)):∃q p,t=.Subscript (.Name y q) k p:=by
 unfold ue at h
 split at h
 .rename_i e
  obtain⟨p,rfl⟩:=Z2 e;obtain⟨z,e1,e2⟩:=Yx.mp h;cases e2;obtain⟨q,rfl⟩:=A0 e1;exact⟨q,p,rfl⟩
 .cases h
mutual
noncomputable def repS(N:ZD)(sc:Scope):S->Stmt->Bool
 | .ret a,st=>match Sk st with
  | .ret x=>(match x with
   | some x=>rep true N sc a x
   | none=>E8 a)
  | _=>false
 | .ex a,st=>match Sk st with
  | .ex x=>rep true N sc a x&&Gp x
  | _=>false
 | .set i a,st=>match Sk st with
  | .asg t x=>(match fm t with
   | some y=>N[i]? == some y&&locs sc.names y&&rep true N sc a x&&(Gp x || Iz a)
   | none=>false)
  | _=>false
 | .put i k a,st=>match Sk st with
  | .asg t x=>(match ue t with
   | some q=>J2 N sc.names i q.1&&rep true N sc a x&&rep true N sc k q.2&&Va q.2
   | none=>false)
  | _=>false
 | .ite c a b,st=>match Sk st with
  | .ite z x y=>rep true N sc c z&&Rq c z&&Ja N sc a x&&Ja N sc b y
  | _=>false
 | .loop tg it b,st=>match Sk st with
  | .loop t iter body=>Lb true N sc t it iter&&Rc N sc.names tg t&&Ja N sc b body&&Np iter
  | _=>false
 | .wh c b,st=>match Sk st with
  | .wh z body=>rep true N sc c z&&Rq c z&&Ja N sc b body
  | _=>false
 | _,_=>false
noncomputable def Ja(N:ZD)(sc:Scope):S->List Stmt->Bool
 | .nil,[]=>true
 | .seq a r,st::rest=>repS N sc a st&&Ja N sc r rest
 | _,_=>false
end
theorem Xe{N:ZD}{sc:Scope}{st:Stmt}:∀a,repS N sc (.ret a) st=(match Sk st with
  | .ret x=>(match x with
   | some x=>rep true N sc a x
   | none=>E8 a)
  | _=>false):=λ_=>rfl
theorem yc{N:ZD}{sc:Scope}{st:Stmt}:∀a,repS N sc (.ex a) st=(match Sk st with
  | .ex x=>rep true N sc a x&&Gp x
  | _=>false):=λ_=>rfl
theorem Xi{N:ZD}{sc:Scope}{st:Stmt}:∀i a,repS N sc (.set i a) st=(match Sk st with
  | .asg t x=>(match fm t with
   | some y=>N[i]? == some y&&locs sc.names y&&rep true N sc a x&&(Gp x || Iz a)
   | none=>false)
  | _=>false):=λ_ _=>rfl
theorem X0{N:ZD}{sc:Scope}{st:Stmt}:∀i k a,repS N sc (.put i k a) st=(match Sk st with
  | .asg t x=>(match ue t with
   | some q=>J2 N sc.names i q.1&&rep true N sc a x&&rep true N sc k q.2&&Va q.2
   | none=>false)
  | _=>false):=λ_ _ _=>rfl
theorem X1{N:ZD}{sc:Scope}{st:Stmt}:∀c a b,repS N sc (.ite c a b) st=(match Sk st with
  | .ite z x y=>rep true N sc c z&&Rq c z&&Ja N sc a x&&Ja N sc b y
  | _=>false):=λ_ _ _=>rfl
theorem Er{N:ZD}{sc:Scope}{st:Stmt}:∀tg it b,repS N sc (.loop tg it b) st=(match Sk st with
  | .loop t iter body=>Lb true N sc t it iter&&Rc N sc.names tg t&&Ja N sc b body&&Np iter
  | _=>false):=λ_ _ _=>rfl
theorem yt{N:ZD}{sc:Scope}{st:Stmt}:∀c b,repS N sc (.wh c b) st=(match Sk st with
  | .wh z body=>rep true N sc c z&&Rq c z&&Ja N sc b body
  | _=>false):=λ_ _=>rfl
theorem X3{N:ZD}{sc:Scope}{st:Stmt}{rest:List Stmt}:∀a r,Ja N sc (.seq a r) (st::rest)=(repS N sc a st&&Ja N sc r rest):=λ_ _=>rfl
section
variable{X:Cx}{w:W}{k:Nat}{N:ZD}{sc:Scope}{pt:Nat->Bool}
theorem Xc{elt:Expr}{gs:List Comprehension}{scope:Scope}{pos p:Pos}{t:Str}{ln:Nat}{env:Env}:swapsWith (.ListComp elt gs scope pos) (some (.Name t p)) ln env=pure (env.blockKind==.function&&env.kindOf t==some .local&&p.line==pos.line && !(scope.names.any λ(n,k)=>n==t&&(k==.local || k==.cell))):=rfl
theorem vb(c:Ctx X w k N sc.names)(ct:X.env.scope.names=sc.names){i:Nat}{tg it cd el:E}{fr:ZG}{ns:ZD}{x:Expr}{y:Str}{pos pos':Pos}(hr:(N[i]? == some y&&locs sc.names y)=true)(hx:rep true N sc (.comp tg it cd el fr ns) x=true):PS X (.Assign [.Name y pos'] x pos) (LS X.K X.mg w pt (.set i (.comp tg it cd el fr ns))):=by
 have hse:=(U8 (w:=w) (.comp tg it cd el fr ns)).1 X k N sc true x c (λ_=>ct) hx
 have hsw:swapsWith x (some (.Name y pos')) pos.line X.env=pure false\/swapsWith x (some (.Name y pos')) pos.line X.env=pure true:=by
  cases x<;>first | exact .inl rfl | skip
  all_goals (first | (rw[Xc];rename_i sc' pp;cases(X.env.blockKind==.function&&X.env.kindOf y==some .local&&pos'.line==pp.line && !(sc'.names.any λ(n,k)=>n==y&&(k==.local || k==.cell)))<;>first | exact .inl rfl | exact .inr rfl) | skip)
  all_goals cases(show false=true from hx)
 rcases hsw with hsw | hsw
 .exact Hh c hr hse hsw
 .replace hx:=(R9 _ _ _ _ _ _).symm.trans hx
  split at hx
  .rename_i elt t iter ifs scope hy
   obtain⟨pos3,rfl⟩:=O6 hy;simp only[Y8]at hx;obtain⟨⟨⟨⟨⟨⟨⟨⟨⟨h1,h2⟩,h3⟩,h4⟩,h5⟩,h6⟩,h7⟩,h8⟩,h9⟩,h10⟩:=hx;have nd':=Dc h5;have nd:ns.Nodup:=nd'.1;have cc:=λfp s H=>c.comp (outer:=sc) h3 nd' fp s H
   have ht:∀i∈Bn tg,fr[i]?=some none:=λi m=>by
    unfold sg at h6;rw[K8]at h6;exact eq_of_beq (h6 i m)
   have hc:∀fp s H,PTs (Z3 X scope ns fp s H) ifs (LT X.K X.mg w cd):=λfp s H=>by
    unfold LT;by_cases hn:isNil cd=true
    .rw[if_pos hn]at h9 ⊢;rw[List.isEmpty_iff.mp h9];exact Ad
    .rw[if_neg hn]at h9 ⊢
     split at h9
     .rw[Y8]at h9;exact Am ((U8 (w:=w) cd).2.1 _ k ns scope false _ (cc fp s H) (λz=>by cases z) h9.1 h9.2).1
     .cases h9
   rw[Y8,beq_iff_eq]at hr;obtain⟨l1,l2⟩:=c.loc hr.2;have hi:X.N[i]?=some y:=by rw[c.nN];exact hr.1
   intro XM s Z H D I hs;have hl:i<Z.length:=by rw[I.len];exact(Rk.mp hi).1
   exact PS.mel (Ep (te:=λ_ _ _=>LE X.K X.mg w el) (tt:=λ_ _ _=>LT X.K X.mg w cd) (g:=λ_ _ _=>LG X.K X.mg tg) (by rw[c.nN];exact c.nd) hi l1 c.calm ((U8 (w:=w) it).2.2.2 X k N sc true t iter c (λ_=>ct) h2) (NX:=N) (outer:=sc) ⟨c.nN,ct,h3,h4⟩ (λfp s H=>W9 (cc fp s H) tg h8) hc (λfp s H=>(U8 (w:=w) el).1 _ k ns scope false elt (cc fp s H) (λz=>by cases z) h10) hsw (J3 h7) l2) XM s Z H D I
    (Io c h4 nd ht (by rw[I.len,c.nN]) (v7 hl hs))
  .cases hx
theorem ux(c:Ctx X w k N sc.names)(ct:X.env.scope.names=sc.names):∀s:S,(∀st,repS N sc s st=true->PS X st (LS X.K X.mg w pt s))/\∀sts,Ja N sc s sts=true->Rw X sts (LS X.K X.mg w pt s):=by
 have E:=λ(e:E) (x:Expr) (h:rep true N sc e x=true)=>(U8 (w:=w) e).1 X k N sc true x c (λ_=>ct) h;have Tt:=λ(e:PV.E) (x:Expr) (h:rep true N sc e x=true) (t:Rq e x=true)=>((U8 (w:=w) e).2.1 X k N sc true x c (λ_=>ct) h t).1;have It:=λ(e:PV.E) (t x:Expr) (h:Lb true N sc t e x=true)=>(U8 (w:=w) e).2.2.2 X k N sc true t x c (λ_=>ct) h;have nb:∀{s:S},(∀sts,Ja N sc s sts=false)->∀sts,Ja N sc s sts=true->Rw X sts (LS X.K X.mg w pt s):=λh sts z=>by rw[h]at z;cases z
 have ns:∀{s:S},(∀st,repS N sc s st=false)->∀st,repS N sc s st=true->PS X st (LS X.K X.mg w pt s):=λh sts z=>by rw[h]at z;cases z
 intro s
 induction s with
 | nil =>
  refine⟨ns λst=>rfl,λsts h=>?_⟩;cases sts with
  | nil=>exact p9
  | cons _ _=>cases(show false=true from h)
 | seq a r ha hr =>
  refine⟨ns λst=>rfl,λsts h=>?_⟩;cases sts with
  | nil=>cases(show false=true from h)
  | cons st rest =>
   replace h:=(X3 _ _).symm.trans h
   rw[Y8]at h;exact vt (ha.1 st h.1) (hr.2 rest h.2)
 | ret a =>
  refine⟨λst h=>?_,nb λsts=>rfl⟩
  replace h:=(Xe _).symm.trans h
  split at h
  .rename_i e
   obtain⟨p,rfl⟩:=Dl e
   split at h
   .exact p7 (E a _ h)
   .rw[z6 h];exact vm
  .cases h
 | ex a =>
  refine⟨λst h=>?_,nb λsts=>rfl⟩
  replace h:=(yc _).symm.trans h
  split at h
  .rename_i e
   obtain⟨p,rfl⟩:=Dl e;rw[Y8]at h;exact sns_ex (E a _ h.1) h.2
  .cases h
 | set i a =>
  refine⟨λst h=>?_,nb λsts=>rfl⟩
  replace h:=(Xi _ _).symm.trans h
  split at h
  .rename_i e
   obtain⟨p,rfl⟩:=Dl e
   split at h
   .rename_i e
    obtain⟨p,rfl⟩:=A0 e;simp only[Y8]at h;obtain⟨⟨⟨h1,h2⟩,h3⟩,h4⟩:=h;have h12:=n6.mpr ⟨h1,h2⟩;rw[Bool.or_eq_true]at h4;rcases h4 with h4 | h4
    .exact Hh c h12 (E a _ h3) (Hc h4)
    .cases a<;>first | exact vb c ct h12 h3 | cases h4
   .cases h
  .cases h
 | unp tg a=>exact⟨λst h=>(by cases h),nb λsts=>rfl⟩
 | put i kk a =>
  refine⟨λst h=>?_,nb λsts=>rfl⟩
  replace h:=(X0 _ _ _).symm.trans h
  split at h
  .rename_i e
   obtain⟨p,rfl⟩:=Dl e
   split at h
   .rename_i e
    obtain⟨q,p,rfl⟩:=uo e;simp only[Y8]at h;obtain⟨⟨⟨h1,h2⟩,h3⟩,h4⟩:=h;exact p8 c h1 (E a _ h2) (E kk _ h3) h4
   .cases h
  .cases h
 | ite cd a b ha hb =>
  refine⟨λst h=>?_,nb λsts=>rfl⟩
  replace h:=(X1 _ _ _).symm.trans h
  split at h
  .rename_i e
   obtain⟨p,rfl⟩:=Dl e;simp only[Y8]at h;obtain⟨⟨⟨h1,h2⟩,h3⟩,h4⟩:=h;exact uz (Tt cd _ h1 h2) (ha.2 _ h3) (hb.2 _ h4)
  .cases h
 | loop tg it b hb =>
  refine⟨λst h=>?_,nb λsts=>rfl⟩
  replace h:=(Er _ _ _).symm.trans h
  split at h
  .rename_i e
   obtain⟨p,rfl⟩:=Dl e;simp only[Y8]at h;obtain⟨⟨⟨h1,h2⟩,h3⟩,h4⟩:=h;exact vd c (It it _ _ h1) h2 (hb.2 _ h3) h4
  .cases h
 | wh cd b hb =>
  refine⟨λst h=>?_,nb λsts=>rfl⟩
  replace h:=(yt _ _).symm.trans h
  split at h
  .rename_i e
   obtain⟨p,rfl⟩:=Dl e;simp only[Y8]at h;obtain⟨⟨h1,h2⟩,h3⟩:=h;exact sns_wh c (Tt cd _ h1 h2) (hb.2 _ h3)
  .cases h
 | pass=>exact⟨λst h=>(by cases h),nb λsts=>rfl⟩
 | brk=>exact⟨λst h=>(by cases h),nb λsts=>rfl⟩
 | cont=>exact⟨λst h=>(by cases h),nb λsts=>rfl⟩
end
noncomputable def Vu(as:List Sl)(i:Nat):Bool:=match as[i]? with
 | some (.o _)=>true
 | _=>false
noncomputable def leftT:Sl->T
 | .o t=>t
 | _=>.fn ""
noncomputable def Um:List Sl->P->Option (ZZ)
 | [],_=>some []
 | .o _::r,x::q=>(Um r q).map (leftT x::·)
 | .f _::r,_::q=>Um r q
 | .no::r,_::q=>Um r q
 | _,_=>none
noncomputable def fin(as:List Sl)(r:Sl)(p:P):Option (Sl×ZZ):=(Um as p).map λts=>(r,ts)
structure Df where
 n:Nat
 ar:Nat
 code:S
noncomputable def Rt(d:Df)(w:W)(as:List Sl):Option (Sl×ZZ):=if as.length=d.ar then (ex w (Vu as) d.code (as++List.replicate (d.n-d.ar) .no)).bind λq=>match q.1 with
  | .rt r=>fin as r q.2
  | .nx=>fin as (.f .non) q.2
  | _=>none
 else none
theorem gp{as:List Sl}:∀{p:P} {ts:ZZ},Um as p=some ts->(∀(j:Nat) (s:Sl),(Rx as ts)[j]?=some s->(as[j]?=some s/\∀u,s≠.o u)\/(∃t u,s=.o t/\as[j]?=some (.o u)/\p[j]?=some (.o t))\/s=.no)/\(Rx as ts).length=as.length:=by
  induction as with
  | nil=>intro p ts e;cases e;exact⟨λj s h=>by simp[Rx]at h,rfl⟩
  | cons a r ih =>
    intro p ts e;cases p with
    | nil=>cases a<;>cases e
    | cons x q =>
      have same:∀{b:Sl} {us:ZZ},Um r q=some us->(∀u,b≠.o u)->(∀(j:Nat) (s:Sl),(b::Rx r us)[j]?=some s->((b::r)[j]?=some s/\∀u,s≠.o u)\/(∃t u,s=.o t/\(b::r)[j]?=some (.o u)/\(x::q)[j]?=some (.o t))\/s=.no)/\(b::Rx r us).length=(b::r).length:=λ{b us} e nb=>by
        obtain⟨h2,h3⟩:=ih e;refine⟨λj s h=>?_,by rw[B9,B9,h3]⟩;cases j with
        | zero=>cases(Je h);exact .inl ⟨rfl,nb⟩
        | succ j=>exact h2 j s h
      cases a with
      | no => have eu : Rx (.no :: r) ts=.no :: Rx r ts := by cases ts<;>rfl
              rw[eu];exact same e λu z=>nomatch z
      | f y => have eu : Rx (.f y :: r) ts=.f y :: Rx r ts := by cases ts<;>rfl
               rw[eu];exact same e λu z=>nomatch z
      | o y =>
        obtain⟨ts',e1,rfl⟩:=Yx.mp (show (Um r q).map _=some ts from e);obtain⟨h2,h3⟩:=ih e1;refine⟨λj s h=>?_,by show (Rx r ts').length+1=r.length+1;rw[h3]⟩;cases j with
        | succ j=>exact h2 j s h
        | zero =>
          have h:s=mkO (leftT x):=(Je h).symm;subst h;cases x with
          | no=>exact .inr (.inr rfl)
          | f t=>exact .inr (.inr rfl)
          | o t=>cases t with
            | fn z=>exact .inr (.inr rfl)
            | _=>exact .inr (.inl ⟨_,y,rfl,rfl,rfl⟩)
section
variable{K:W.Frag}{mg:ZV}{F G H:Hp}
theorem Xl{as:List Sl}{vs:ZQ}{n:Nat}{N:ZD}(r:Rel K mg F G as (vs.map some) H)(hn:N.length=n)(hl:vs.length<=n):Rel K mg F G (as++List.replicate (n-as.length) Sl.no) (L2.start N vs) H:=by
 have al:as.length=vs.length:=by have:=r.ln;rw[Yc]at this;exact this
 have old:∀{i:Nat} {s:Sl},(as++List.replicate (n-as.length) Sl.no)[i]?=some s->s≠.no->as[i]?=some s/\i<vs.length:=λ{i s} h ne=>by
  rw[List.getElem?_append]at h
  split at h
  .rename_i hi;exact⟨h,by omega⟩
  .rw[List.getElem?_replicate]at h
   split at h
   .cases h;exact absurd rfl ne
   .cases h
 have st:∀{i:Nat},i<vs.length->(L2.start N vs)[i]?=(vs.map some)[i]?:=λ{i} h=>by
  unfold L2.start;rw[G0l (by rw[Yc];exact h)]
 refine⟨r.b,λi t e=>?_,λi t e=>?_,λi j t u a e1 e2 h1 h2=>?_,?_⟩
 .obtain⟨e,hi⟩:=old e λz=>nomatch z;rw[st hi];exact r.fz i t e
 .obtain⟨e,hi⟩:=old e λz=>nomatch z;rw[st hi];exact r.ow i t e
 .obtain⟨e1,i1⟩:=old e1 λz=>nomatch z;obtain⟨e2,i2⟩:=old e2 λz=>nomatch z;rw[st i1]at h1;rw[st i2]at h2;exact r.ap i j t u a e1 e2 h1 h2
 .unfold L2.start;rw[Qw,Qw,List.length_replicate,List.length_replicate,Yc,al,hn]
theorem Ih{F' H':Hp}{as:List Sl}{vs:ZQ}{ts:ZZ}{p':P}{σ0 σ':L2.St}{rr:Sl}{v:V}(r:Rel K mg F G as (vs.map some) H)(hσ:∀i:Nat,i<vs.length->σ0[i]?=(vs.map some)[i]?)(eo:Um as p'=some ts)(l:Le F F')(u:Up K H H')(r':Rel K mg F' G p' σ' H')(kp:Kp (Vu as) σ0 σ')(rs:Res K mg F' G p' σ' H' rr v) :
  Rel K mg F' G (Rx as ts) (vs.map some) H'/\Res K mg F' G (Rx as ts) (vs.map some) H' rr v:=by
 obtain⟨o2,o3⟩:=gp eo;have al:as.length=vs.length:=by have:=r.ln;rw[Yc]at this;exact this
 have own:∀{j:Nat} {t:T},(Rx as ts)[j]?=some (Sl.o t)->p'[j]?=some (Sl.o t)/\σ'[j]?=(vs.map some)[j]?/\∃u,as[j]?=some (Sl.o u):=λ{j t} h=>by
  rcases o2 j _ h with ⟨_,a2⟩ | ⟨t',u',a1,a2,a3⟩ | z
  .exact absurd rfl (a2 t)
  .cases a1;have hj:j<vs.length:=by rw[<-al];exact(Rk.mp a2).1
   exact⟨a3,(kp.2 j (by unfold Vu;rw[a2])).trans (hσ j hj),u',a2⟩
  .cases z
 refine⟨⟨r'.b,λj t e=>?_,λj t e=>?_,λi j t t' a e1 e2 h1 h2=>?_,by rw[o3];exact r.ln⟩,?_⟩
 .rcases o2 j _ e with ⟨a1,_⟩ | ⟨_,_,z,_⟩ | z
  .obtain⟨v,h1,h2⟩:=r.fz j t a1;exact⟨v,h1,IsT.up u l t v h2⟩
  .cases z
  .cases z
 .obtain⟨a1,a2,_⟩:=own e;rw[<-a2];exact r'.ow j t a1
 .obtain⟨a1,a2,_⟩:=own e1;obtain⟨b1,b2,_⟩:=own e2;rw[<-a2]at h1;rw[<-b2]at h2;exact r'.ap i j t t' a a1 b1 h1 h2
 .cases rr with
  | no=>exact rs
  | f t=>exact rs
  | o t =>
   obtain⟨a,rfl,h1,h2,h3,h4⟩:=rs;refine⟨a,rfl,h1,h2,h3,λj u e z=>?_⟩;obtain⟨a1,a2,_⟩:=own e;rw[<-a2]at z;exact h4 j u a1 z
end
structure LamW(K:W.Frag)(mg:ZV)(c T:Addr):Prop where
 c:∀h,K.In h->W.CodeHd h c T
 bi:∀h,K.In h->h.BuiltinsAt mg T
 ne:mainGlobals≠T
structure K4(K:W.Frag)(x qual:Str)(st:Stmt)(f:Addr)(fd:FuncData)(R:Value->Prop):Prop where
 ex:∃(oc:Value) (od:ZP) (kV doc pm:Value) (an:ZP) (cdv ct:Value) (osl:ZF),R cdv /\
  fd=W.fnOf x qual (Y5 st) (Z7 st) (Zw st) .none kV doc pm an cdv ct/\K.lookup f=some ⟨oc,od,.func fd,osl⟩/\W.codeIn K cdv qual=true
 kp:W.keepIn K (.ref f)=true
theorem K4.ok{P:Program}{w:World}{K:W.Frag}{mg:ZV}{base:Heap}{R:Value->Prop}{x qual:Str}{st:Stmt}{f:Addr}{fd:FuncData}{N ps:ZD}{k:Nat}{sp:Sp}(F:K4 K x qual st f fd R)(S:Jt N ps (Zw st))(len:∀vs H Q E,sp vs H Q E->vs.length=ps.length)
  (P4:∀(cdv:Value) (A:Around) (outer:List Env) (s:Shared) (H:Hp) (vs:ZQ) (Q:VK) (E:XK),R cdv->Uc k (A.deeper (envOfC qual (Zw st) s.heap.objs.size f cdv))->sp vs H Q E ->
   ∃t,Rw (Ov n4 P w K mg base N qual (Zw st) f cdv A outer s H E).nox (Z7 st) t/\t { nx:=λ_ H'=>Q .non H',rt:=Q } (start N vs) H):Dq P w K mg base n4 (k+1) f fd ps sp:=by
 obtain⟨oc,od,kV,doc,pm,an,cdv,ct,osl,rc,rfl,lk,L1⟩:=F.ex;refine Zqv lk L1 S len λA outer s H vs Q E hr hsp=>?_;obtain⟨t,h,q⟩:=P4 cdv A outer s H vs Q E rc hr hsp;exact⟨t,h.nox,q⟩
def LamF(K:W.Frag)(mg:ZV)(qual:Str)(sc:Scope)(R:Value->Prop):Prop:=sc.names=Mh->∀T,Rf=some T->(∀(L f:Addr) (v:Value),(envOfC qual sc L f v).qual++Str.ofString "<lambda>"=T.q)/\∀v,R v->∃c,v=.ref c/\LamW K mg c T.P
theorem P7{P:Program}{wd:World}{K:PySem.W.Frag}{mg:ZV}{base:Heap}{w:W}{x qual:Str}{st:Stmt}{f:Addr}{fd:FuncData}{N ps:ZD}{k:Nat}{d:Df}{R:Value->Prop}(F:K4 K x qual st f fd R)(lm:LamF K mg qual (Zw st) R)(S:Jt N ps (Zw st))(hn:N.length=d.n)(ha:ps.length=d.ar)(hle:ps.length<=N.length)(hrep:Ja N (Zw st) d.code (Z7 st)=true)
  (bn:∀x∈U3,mg x=none) (fn:∀f as r,w.C f as=some r->∃ps,as.length=ps.length/\Fn P wd K mg base k f ps (spC K mg ps.length (w.C f))) (gl:∀x t,w.gl x=some t->∃v u,mg x=some u/\RelV v u/\∀H F,IsT K mg H F t v) :
  Dq P wd K mg base n4 (k+1) f fd ps (spC K mg ps.length (Rt d w)):=by
 refine F.ok S (λvs H Q E h=>h.1) λcdv A outer s H vs Q E rc hr h=>?_;obtain⟨hv,F0,G,as,r,ec,rel,kq⟩:=h;unfold Rt at ec
 split at ec
 .rename_i hal
  obtain⟨⟨fl,p'⟩,e1,e2⟩:=ZI.mp ec;have c:Ctx (Ov n4 P wd K mg base N qual (Zw st) f cdv A outer s H E).nox w k N (Zw st).names:=⟨rfl,S.nd,λy kd e=>.inl e,rfl,hr,bn,fn,gl,rfl,λ_ _=>rfl,λz T e=>let ⟨a1,a2⟩:=lm z T e;let ⟨c1,ec,lw⟩:=a2 cdv rc;⟨⟨⟨c1,ec,lw.c⟩,lw.bi,lw.ne⟩,a1 _ _ _⟩⟩;refine⟨LS K mg w (Vu as) d.code,(ux (sc:=Zw st) (pt:=Vu as) c rfl d.code).2 _ hrep,F0,G,_,fl,p',Xl rel hn (by rw[hv];omega),by rw[hal];exact e1,λF' H' σ' l u Yj kp=>?_⟩
  have hσ:∀i:Nat,i<vs.length->(L2.start N vs)[i]?=(vs.map some)[i]?:=λi h=>by
   unfold L2.start;rw[G0l (by rw[Yc];exact h)]
  cases fl with
  | nx =>
   obtain⟨ts,e3,e4⟩:=Yx.mp (show (Um as p').map _=some r from e2);cases e4;obtain⟨g1,g2⟩:=Ih (v:=.non) (rr:=.f .non) rel hσ e3 l u Yj kp rfl;exact kq F' H' .non l u g1 g2
  | rt rr =>
   obtain⟨ts,e3,e4⟩:=Yx.mp (show (Um as p').map _=some r from e2);cases e4;intro v rs;obtain⟨g1,g2⟩:=Ih rel hσ e3 l u Yj kp rs;exact kq F' H' v l u g1 g2
  | bk=>cases e2
  | ct=>cases e2
 .cases ec
def wF(d:Df)(w:W)(as:List Sl)(Q:Sl×ZZ->Prop):Prop:=if as.length=d.ar then wS w (Vu as) d.code (as++List.replicate (d.n-d.ar) .no) ⟨λp=>on (fin as (.f .non) p) Q,λr p=>on (fin as r p) Q,λ_=>False,λ_=>False⟩ else False
theorem jm{d:Df}{w:W}{as:List Sl}{Q:Sl×ZZ->Prop}(h:wF d w as Q):∃x,Rt d w as=some x/\Q x:=by
 unfold wF at h
 split at h
 .rename_i ha
  obtain⟨f,p',e,h⟩:=wS_ex w (Vu as) d.code _ _ h;unfold Rt;rw[if_pos ha,e];cases f with
  | nx=>exact Yg h
  | rt r=>exact Yg h
  | bk=>exact h.elim
  | ct=>exact h.elim
 .exact h.elim
noncomputable def Cn(tab:Str->Option Df)(gl:Str->Option T):Nat->Cs
 | 0=>λ_ _=>none
 | n+1=>λf as=>(tab f).bind λd=>Rt d ⟨Cn tab gl n,gl⟩ as
structure Gc(K:W.Frag)(mg:ZV)(f:Str)(d:Df):Prop where
 ex:∃st a fd N ps R,K4 K f f st a fd R/\LamF K mg f (Zw st) R/\mg f=some (.ref a)/\Jt N ps (Zw st)/\N.length=d.n/\ps.length=d.ar/\ps.length<=N.length/\Ja N (Zw st) d.code (Z7 st)=true/\Binds K fd ps []
theorem knot{P:Program}{wd:World}{K:W.Frag}{mg:ZV}{base:Heap}{tab:Str->Option Df}{gl:Str->Option T}(bn:∀x∈U3,mg x=none)(ft:∀f d,tab f=some d->Gc K mg f d)(hg:∀x t,gl x=some t->∃v u,mg x=some u/\RelV v u/\∀H F,IsT K mg H F t v) :
  ∀n f as r,Cn tab gl n f as=some r->∃ps,as.length=ps.length/\Fn P wd K mg base n f ps (spC K mg ps.length (Cn tab gl n f))
 | 0,f,as,r,h=>by cases h
 | n+1,f,as,r,h=>by
  obtain⟨d,e1,e2⟩:=ZI.mp (show (tab f).bind _=some r from h);obtain⟨st,a,fd,N,ps,R,F,lm,hm,S,hn,ha,hle,hrep,hb⟩:=(ft f d e1).ex
  have ec:Cn tab gl (n+1) f=Rt d ⟨Cn tab gl n,gl⟩:=by
   funext as
   show (tab f).bind _=_;rw[e1]
   rfl
  refine⟨ps,?_,a,fd,?_,hb,F.kp,hm⟩
  .unfold Rt at e2
   split at e2
   .rename_i q;rw[ha];exact q
   .cases e2
  .rw[ec];exact P7 F lm S hn ha hle hrep bn (knot bn ft hg n) hg
end PV
namespace PV
open PySem
abbrev Za(a:E):E:=.cons a .nil
abbrev Zk(a b:E):E:=.cons a (.cons b .nil)
abbrev Ju(a b c:E):E:=.cons a (.cons b (.cons c .nil))
abbrev Ax(a b c d:E):E:=.cons a (.cons b (.cons c (.cons d .nil)))
abbrev ki(i:Int):E:=.k (.int i)
abbrev ks(x:Str):E:=.k (.str x)
abbrev Zv(a b:E):E:=.pr .ix (.cons a (.cons b .nil))
noncomputable abbrev Y4(a b:E):E:=.pr (.cm .eq) (.cons a (.cons b .nil))
abbrev Dg(a b:E):E:=.pr (.op .add) (.cons a (.cons b .nil))
abbrev Ba(a:E):E:=.pr .len (.cons a .nil)
abbrev Y0(a:S):S:=.seq a .nil
end PV
namespace PV
open PySem PySem.Spec PyProof.Rows L2
theorem iz{Z:Type}{o:Option Z}{Q Q':Z->Prop}(h:on o Q)(q:∀x,Q x->Q' x):on o Q':=by
 obtain⟨a,e,h⟩:=Yg h;rw[e];exact q a h
theorem S2{body:T->P->(Option T->P->Prop)->Prop}(I:ZZ->ZZ->P->Prop)(st:∀x r acc p K,I (x::r) acc p->(∀y p',I r (acc++[y]) p'->K (some y) p')->(∀p',I r acc p'->K none p')->body x p K) :
  ∀(xs acc:ZZ) (p:P) (Q:ZZ->P->Prop),I xs acc p->(∀acc p,I [] acc p->Q acc p)->Uu body xs acc p Q
 | [],acc,p,Q,h,q=>q acc p h
 | x::r,acc,p,Q,h,q=>st x r acc p _ h (λy p' h'=>S2 I st r (acc++[y]) p' Q h' q) λp' h'=>S2 I st r acc p' Q h' q
theorem jb{body:T->P->En->Prop}(I:ZZ->P->Prop)(B:P->Prop)(R:Sl->P->Prop)
  (st:∀x r p (D:En),I (x::r) p->(∀q,I r q->D.nx q)->(∀q,I r q->D.ct q)->(∀q,B q->D.bk q)->(∀s q,R s q->D.rt s q)->body x p D) :
  ∀(xs:ZZ) (p:P) (D:En),I xs p->(∀q,I [] q->D.nx q)->(∀q,B q->D.nx q)->(∀s q,R s q->D.rt s q)->Rg body xs p D
 | [],p,D,h,q,_,_=>q p h
 | x::r,p,D,h,q,b,t=>st x r p _ h (λp' h'=>jb I B R st r p' D h' q b t) (λp' h'=>jb I B R st r p' D h' q b t) b t
theorem Us{body:T->P->En->Prop}{xs:ZZ}{p:P}{D:En}(I:ZZ->P->Prop)(h:I xs p)(st:∀x r p (D:En),I (x::r) p->(∀q,I r q->D.nx q)->(∀q,I r q->D.ct q)->body x p D)(q:∀q,I [] q->D.nx q):Rg body xs p D :=
 jb I (λ_=>False) (λ_ _=>False) (λx r p D h n c _ _=>st x r p D h n c) xs p D h q (λ_ z=>z.elim) λ_ _ z=>z.elim
theorem Uy{body:T->P->(Option T->P->Prop)->Prop}{xs:ZZ}{p:P}{Q:ZZ->P->Prop}(I:ZZ->ZZ->P->Prop)(h:I xs [] p)(st:∀x r acc p K,I (x::r) acc p->(∀y p',I r (acc++[y]) p'->K (some y) p')->(∀p',I r acc p'->K none p')->body x p K)(q:∀acc p,I [] acc p->Q acc p):Uu body xs [] p Q :=
 S2 I st xs [] p Q h q
theorem wWhI{test:P->(Bool->P->Prop)->Prop}{body:P->En->Prop}(I:Nat->P->Prop){D:En}
  (st:∀m p (K:Bool->P->Prop),I m p->(∀q,(∀D':En,(∀m' q',m'<m->I m' q'->D'.nx q')->(∀m' q',m'<m->I m' q'->D'.ct q')->(∀q',D.nx q'->D'.bk q')->(∀s q',D.rt s q'->D'.rt s q')->body q D')->K true q)->(∀q,D.nx q->K false q)->test p K) :
  ∀(m n:Nat) (p:P),m<n->I m p->wWh test body n p D:=by
 intro m
 induction m using Nat.strongRecOn with
 | ind m ih =>
  intro n p h i
  match n,h with
  | n+1,h =>
   refine st m p _ i (λq g=>?_) λq g=>?_
   .show if (true:Bool)=true then _ else _
    rw[if_pos rfl];exact g _ (λm' q' l i'=>ih m' l n q' XH i') (λm' q' l i'=>ih m' l n q' XH i') (λ_ z=>z) λ_ _ z=>z
   .show if (false:Bool)=true then _ else _
    rw[if_neg (λz=>nomatch z)];exact g
theorem Zqm{tab:Str->Option Df}{gl:Str->Option T}{n:Nat}{f:Str}{as:List Sl}{Q:Sl×ZZ->Prop}{d:Df}(e:tab f=some d)(h:wF d ⟨Cn tab gl n,gl⟩ as Q):on (Cn tab gl (n+1) f as) Q:=by
 obtain⟨x,h1,h2⟩:=jm h;exact Z4 (a:=x) (by show (tab f).bind _=_;rw[e];exact h1) h2
theorem C5(a:Int):∀zs:ZL,Gm (.int a) (zs.map .int)=some (zs.any λz=>decide (z=a))
 | []=>rfl
 | z::zs=>by
  show (Gm (.int a) (zs.map .int)).map (decide (z=a) || ·)=_;rw[C5 a zs];rfl
theorem Ij(a:Int)(zs:ZL):inT (.int a) (.lst (zs.map .int))=some (zs.any λz=>decide (z=a)):=C5 a zs
theorem strs_map:∀ss:ZD,Mj (ss.map .str)=some ss
 | []=>rfl
 | s::ss=>by show (Mj (ss.map .str)).map (s::·)=_;rw[strs_map ss];rfl
theorem ints_map:∀ss:ZL,V4 (ss.map .int)=some ss
 | []=>rfl
 | s::ss=>by show (V4 (ss.map .int)).map (s::·)=_;rw[ints_map ss];rfl
theorem z8(s:Str)(ss:ZD):V4 ((s::ss).map .str)=none:=rfl
theorem srt_strs(ss:ZD)(h:ss.length<64):W6 (ss.map .str)=some ((SRT.G2 ss).map .str):=by
 unfold W6;rw[if_pos (by rw[Yc];exact h)];cases ss with
 | nil=>rfl
 | cons s ss=>rw[z8,strs_map];rfl
theorem C2{Z:Type}{xs:List Z}{i:Int}(h0:0<=i)(h1:i<xs.length):∃x,C3 xs i=some x/\xs[i.toNat]?=some x/\x∈xs:=by
 have hj:i.toNat<xs.length:=XH
 refine⟨xs[i.toNat],?_,D4 hj,G0e hj⟩;unfold C3 Sr;rw[if_pos h0,if_pos h1];exact D4 hj
theorem ixP{ts:ZZ}{r:Int}{Q:Sl->Prop}(h0:0<=r)(h1:r<ts.length)(q:∀x,ts[r.toNat]?=some x->x∈ts->Q (.f x)):on ((A7 (.lst ts) (.int r)).map Sl.f) Q:=by
 obtain⟨x,hx,e,mx⟩:=C2 h0 h1;exact Z4 (a:=Sl.f x) (by show (C3 _ _).map _=_;rw[hx];rfl) (q x e mx)
theorem sIx_nn{n:Nat}{d:Nat}{i:Int}(h0:0<=i)(h1:i<=n):HT.Yh n d (some i)=i.toNat:=by
 obtain⟨k,rfl⟩:=Int.eq_ofNat_of_zero_le h0;rw[HT.Lv,XF];omega
theorem cut_to{ts:ZZ}{i:Int}(h0:0<=i)(h1:i<=ts.length):G6 ts none (some i)=ts.take i.toNat:=by
 unfold G6;rw[sIx_nn h0 h1];show (ts.drop 0).take (i.toNat-0)=_;simp
theorem Zzz{a:T}{l:ZZ}:(A7 (.tup (a::l)) (.int 0)).map Sl.f=some (.f a):=by
 show (C3 _ _).map _=_;unfold C3 Sr;rw[if_pos XH,if_pos (by rw[B9];omega)]
 rfl
theorem ixE{ts:ZZ}{r:Int}{x:T}(e:C3 ts r=some x):(A7 (.lst ts) (.int r)).map Sl.f=some (.f x):=by show (C3 ts r).map _=_;rw[e];rfl
theorem ixDE{XD:ZX}{k:Str}{x:T}(e:Zg XD (.inr k)=some x):(A7 (.dct XD) (.str k)).map Sl.f=some (.f x):=by show (Zg XD (.inr k)).map _=_;rw[e];rfl
theorem popP{ts:ZZ}{i:Int}{Q:T×T->Prop}(h0:0<=i)(h1:i<ts.length)(q:∀x,ts[i.toNat]?=some x->x∈ts->Q (.lst (ts.eraseIdx i.toNat),x)):on (ib .popAt (.lst ts) [.int i]) Q:=by
 have hj:i.toNat<ts.length:=XH
 refine Z4 (a:=(.lst (ts.eraseIdx i.toNat),ts[i.toNat])) ?_ (q _ (D4 hj) (G0e hj));show (Sr ts.length i).bind _=_;unfold Sr;rw[if_pos h0,if_pos h1];show (ts[i.toNat]?).map _=_;rw[D4 hj]
 rfl
theorem Lc{a:Int}{zs:ZL}{Q:Sl->Prop}(q:Q (.f (.bl (!(zs.any λz=>decide (z=a)))))):on ((Cd .notin (.int a) (.lst (zs.map .int))).map λr=>Sl.f (.bl r)) Q:=Z4 (by show ((inT _ _).map not).map _=_;rw[Ij];rfl) q
theorem c6{zs:ZL}{a:Int}(h:(!(zs.any λz=>decide (z=a)))=true):∀z∈zs,z≠a:=λz m e=>by
 have:(zs.any λz=>decide (z=a))=true:=XX.mpr ⟨z,m,Gn e⟩;rw[this]at h;cases h
theorem ixHd{a:T}{l:ZZ}{Q:Sl->Prop}(q:Q (.f a)):on ((A7 (.tup (a::l)) (.int 0)).map Sl.f) Q:=Z4 Zzz q
theorem Na{ts:ZZ}{r:Int}{x:T}{Q:Sl->Prop}(e:C3 ts r=some x)(q:Q (.f x)):on ((A7 (.lst ts) (.int r)).map Sl.f) Q:=Z4 (ixE e) q
theorem Jw{XD:ZX}{k:Str}{x:T}{Q:Sl->Prop}(e:Zg XD (.inr k)=some x)(q:Q (.f x)):on ((A7 (.dct XD) (.str k)).map Sl.f) Q:=Z4 (ixDE e) q
theorem Ya{d:Df}{w:W}{as:List Sl}{Q:Sl×ZZ->Prop}(ha:as.length=d.ar)(h:∀D:En,(∀r p,on (fin as r p) Q->D.rt r p)->(∀p,on (fin as (.f .non) p) Q->D.nx p)->wS w (Vu as) d.code (as++List.replicate (d.n-d.ar) .no) D):wF d w as Q:=by
 unfold wF;rw[if_pos ha];exact h _ (λ_ _ z=>z) λ_ z=>z
theorem srtP{ts us:ZZ}{Q:Sl->Prop}(e:Xp ts=some us)(q:Q (.o (.lst us))):on ((Xp ts).map λus=>Sl.o (.lst us)) Q:=Z4 (by rw[e];rfl) q
theorem Hl{ts us:ZZ}{Q:Sl->Prop}(e:W6 ts=some us)(q:Q (.o (.lst us))):on ((W6 ts).map λus=>Sl.o (.lst us)) Q:=Z4 (by rw[e];rfl) q
theorem rngP{m:Int}{Q:ZZ->Prop}(h0:-1000000<=m)(h1:m<=1000000)(q:Q ((List.range m.toNat).map λk=>T.int (k:Nat))):on (rngT (.int m)) Q:=by
 refine Z4 (a:=(List.range m.toNat).map λk=>T.int (k:Nat)) ?_ q;show (if -1000000<=m/\m<=1000000 then some ((List.range m.toNat).map λk=>T.int (k:Nat)) else none)=_;rw[if_pos ⟨h0,h1⟩]
theorem Z9{C:Cs}{f:Str}{as:List Sl}{Q Q':Sl×ZZ->Prop}(h:on (C f as) Q)(q:∀x,Q x->Q' x):on (C f as) Q':=iz h q
theorem boolP'{b:Bool}{K:Bool->Prop}(h:b=true->K true)(h':b=false->K false):K b:=by
 cases b with
 | true=>exact h rfl
 | false=>exact h' rfl
theorem ifS{c:Prop}[Decidable c]{Z:Type}{a:Z}{o:Option Z}{Q:Z->Prop}(h:c)(q:Q a):on (if c then some a else o) Q:=by rw[if_pos h];exact q
theorem addLP{a b:ZZ}{Q:Sl->Prop}(h:a.length+b.length<=sizeLine)(q:Q (.o (.lst (a++b)))):on (opT .add (.lst a) (.lst b)) Q:=ifS h q
theorem Sq{a b:Str}{Q:Sl->Prop}(h:a.length+b.length<=sizeLine)(q:Q (.f (.str (a++b)))):on (opT .add (.str a) (.str b)) Q:=ifS h q
theorem whS{w:W}{pt:Nat->Bool}{c:E}{b r:S}{p:P}{D:En}(h:wWh (λs K=>wE w c s λr q=>zv r λb=>K b q) (λs D=>wS w pt b s D) 1000000 p ⟨λq=>wS w pt r q D,D.rt,D.bk,D.ct⟩):wS w pt (.seq (.wh c b) r) p D:=h
theorem yn{p:P}{i:Nat}{t:T}(h:p[i]?=some (.o t)\/p[i]?=some (.f t)):read p i=some (t,p.set i (.f t)):=by
 rcases h with h | h
 .unfold read;rw[h]
 .have e:p.set i (.f t)=p:=by
   refine List.ext_getElem? λj=>?_;by_cases z:i=j
   .subst z;rw[List.getElem?_set_self (Rk.mp h).1,h]
   .rw[List.getElem?_set_ne z]
  unfold read;rw[h,e]
def OF(s:Sl)(t:T):Prop:=s=.o t\/s=.f t
theorem Ay{p:P}{i:Nat}{s:Sl}{t:T}{Q:T×P->Prop}(h:OF s t)(e:p[i]?=some s)(q:Q (t,p.set i (.f t))):on (read p i) Q:=by
 refine Z4 (yn ?_) q;rcases h with rfl | rfl
 .exact .inl e
 .exact .inr e
theorem Uh{body:T->P->(Option T->P->Prop)->Prop}{xs:ZZ}{p:P}{Q:ZZ->P->Prop}(g:T->T)(St:P->Prop)(h0:St p)(st:∀x∈xs,∀p K,St p->(∀p',St p'->K (some (g x)) p')->body x p K)(q:∀p,St p->Q (xs.map g) p):Uu body xs [] p Q:=by
 refine Uy (λr acc p=>St p/\(∀x∈r,x∈xs)/\acc++r.map g=xs.map g) ⟨h0,λ_ m=>m,rfl⟩ (λx r acc p K hi ky _=>?_) λacc p hi=>?_
 .obtain⟨h1,h2,h3⟩:=hi;exact st x (h2 x Yu) p K h1 λp' h'=>ky _ p' ⟨h',λy m=>h2 y (Y3 _ m),by rw[XQ];exact h3⟩
 .obtain⟨h1,_,h3⟩:=hi;rw[List.map_nil,XJ]at h3;rw[h3];exact q p h1
theorem S4{body:T->P->(Option T->P->Prop)->Prop}{xs:ZZ}{p:P}{Q:ZZ->P->Prop}(g:T->Option T)(St:P->Prop)(h0:St p)(st:∀x∈xs,∀p K,St p->(∀p',St p'->K (g x) p')->body x p K)(q:∀p,St p->Q (xs.filterMap g) p):Uu body xs [] p Q:=by
 refine Uy (λr acc p=>St p/\(∀x∈r,x∈xs)/\acc++r.filterMap g=xs.filterMap g) ⟨h0,λ_ m=>m,rfl⟩ (λx r acc p K hi ky kn=>?_) λacc p hi=>?_
 .obtain⟨h1,h2,h3⟩:=hi;refine st x (h2 x Yu) p K h1 λp' h'=>?_;cases e:g x with
  | some y=>exact ky y p' ⟨h',λy m=>h2 y (Y3 _ m),by rw[XQ];rw[List.filterMap_cons_some e]at h3;exact h3⟩
  | none=>exact kn p' ⟨h',λy m=>h2 y (Y3 _ m),by rw[List.filterMap_cons_none e]at h3;exact h3⟩
 .obtain⟨h1,_,h3⟩:=hi;rw[List.filterMap_nil,XJ]at h3;rw[h3];exact q p h1
mutual
def okT(n:Nat):T->Prop
 | .int i=>i.natAbs<=10 ^ 19
 | .str x=>∀c∈x.cps.toList,c<16 ^ 8
 | .tup ts=>ts.length<=n/\okTs n ts
 | .lst _=>False
 | .dct _=>False
 | .fn _=>False
 | .non=>True
 | .bl _=>True
def okTs(n:Nat):ZZ->Prop
 | []=>True
 | t::r=>okT n t/\okTs n r
end
mutual
noncomputable def wtT:T->Nat
 | .int _=>70
 | .str x=>x.length
 | .tup ts=>rn ts
 | .lst _=>0
 | .dct _=>0
 | .fn _=>0
 | .non=>0
 | .bl _=>0
noncomputable def rn:ZZ->Nat
 | []=>0
 | t::r=>wtT t+1+rn r
end
mutual
noncomputable def dpT:T->Nat
 | .tup ts=>Zz1 ts+1
 | _=>0
noncomputable def Zz1:ZZ->Nat
 | []=>0
 | t::r=>max (dpT t) (Zz1 r)
end
theorem Iq{i:Int}(h:i.natAbs<=10 ^ 19):(if i==0 then 0 else i.natAbs.log2+1)<=70/\i.natAbs.log2<1920:=by
 have:i.natAbs.log2<64:=by
  by_cases z:i.natAbs=0
  .rw[z];decide
  .exact(Nat.log2_lt z).mpr (N0o h XA)
 exact⟨by split<;>omega,by omega⟩
theorem lenS(s:String):(Str.ofString s).length=s.toList.length:=by
 rw[Str.ofString_eq_toList];simp[Str.length]
theorem z9{i:Int}(h:i.natAbs<=10 ^ 19):(PyData.shown (.int i)).length<=30:=by
 show (Str.ofString (toString i)).length<=30;have hb:i.natAbs<10 ^ 20:=N0o h XA;rw[lenS];have hd:(Nat.toDigits 10 i.natAbs).length<=20:=(Nat.length_toDigits_le_iff XA XA).mpr hb;cases i with
 | ofNat n =>
  show (Nat.repr n).toList.length<=30;rw[Nat.toList_repr];exact D0 hd XA
 | negSucc n =>
  show ("-" ++ Nat.repr (n+1)).toList.length<=30;rw[String.toList_append,Qw,Nat.toList_repr];have hd:(Nat.toDigits 10 (n+1)).length<=20:=hd;show 1+_<=30;omega
structure Shn(n:Nat)(t:T)(x:PyData):Prop where
 e:toPy t=some x
 s:x.showable=true
 l:x.leavesShort 30=true
 w:x.weight<=wtT t
 d:x.depth=dpT t
mutual
theorem Ap(n:Nat):∀t:T,okT n t->∃x,Shn n t x
 | .int i,h=>⟨.int i,rfl,Gn (Iq h).2,Gn (z9 h),(Iq h).1,rfl⟩
 | .str x,h=>⟨.str x,rfl,rfl,K8.mpr λc m=>Gn (h c m),Yk _,rfl⟩
 | .non,_=>⟨.none,rfl,rfl,rfl,Yk _,rfl⟩
 | .bl b,_=>⟨.bool b,rfl,rfl,rfl,Yk _,rfl⟩
 | .fn _,h=>h.elim
 | .tup ts,h=>by
  obtain⟨xs,a,b,c,d,e⟩:=Pw n ts h.2;exact⟨.tuple xs,by show (Dj ts).map _=_;rw[a];rfl,b,c,d,by show PyData.depthAll xs+1=_;rw[e];rfl⟩
 | .lst _,h=>h.elim
 | .dct _,h=>h.elim
theorem Pw(n:Nat):∀ts:ZZ,okTs n ts->∃xs,Dj ts=some xs/\PyData.showableAll xs=true/\PyData.leavesShortAll 30 xs=true/\PyData.weightAll xs<=rn ts/\PyData.depthAll xs=Zz1 ts
 | [],_=>⟨[],rfl,rfl,rfl,Yk _,rfl⟩
 | t::ts,h=>by
  obtain⟨x,a1,b1,c1,d1,e1⟩:=Ap n t h.1;obtain⟨xs,a,b,c,d,e⟩:=Pw n ts h.2;refine⟨x::xs,by show (toPy t).bind _=_;rw[a1];show (Dj ts).map _=_;rw[a];rfl,by show (x.showable&&_)=true;rw[b1,b];rfl,by show (x.leavesShort 30&&_)=true;rw[c1,c];rfl,?_,?_⟩
  .show x.weight+1+PyData.weightAll xs<=wtT t+1+rn ts;omega
  .show max x.depth (PyData.depthAll xs)=max (dpT t) (Zz1 ts);rw[e1,e]
end
theorem rpT_ok{n:Nat}{t:T}(h:okT n t)(hw:wtT t<=400000)(hd:dpT t<=100):∃z,rpT t=some z:=by
 obtain⟨x,e,s,l,w,d⟩:=Ap n t h;have:=PyData.shown_le 30 XA x l;refine⟨x.shown,?_⟩;unfold rpT;rw[e];show (if _ then _ else _)=_;rw[if_pos ⟨s,by rw[sizeLine_eq];omega,by rw[d];exact hd⟩]
end PV
namespace PV
open PySem PySem.Spec PyProof.Rows L2 SRT
theorem le_int{a b:Int}:(!decide (b<a))=decide (a<=b):=by
 by_cases h:a<=b
 .rw[Gn h,Gr XH];rfl
 .rw[Gr h,Gn XH];rfl
theorem cz(a b:Int):Cd .le (.int a) (.int b)=some (decide (a<=b)):=by
 show some (!decide (b<a))=_;rw[le_int]
theorem c2P{a b c:Int}{Q:Sl->Prop}(q:Q (.f (.bl (decide (a<=b)&&decide (b<=c))))):on (Ld (.c2 .le .le) [.int a,.int b,.int c]) Q:=by
 refine Z4 ?_ q;show ((Cd .le (.int a) (.int b)).bind λr=>if r=true then (Cd .le (.int b) (.int c)).map λr=>Sl.f (.bl r) else some (Sl.f (.bl false)))=_;rw[cz,cz];show (if decide (a<=b)=true then some (Sl.f (.bl (decide (b<=c)))) else _)=_;by_cases h:a<=b
 .rw[Gn h];rfl
 .rw[Gr h];rfl
theorem lenP{x:Str}{Q:Sl->Prop}(h:x.length<=sizeLine)(q:Q (.f (.int x.length))):on (Ld .len [.str x]) Q:=by
 have e:ie (.str x)=some x.length:=if_pos h;refine Z4 ?_ q;show ((ie (.str x)).bind λa=>some (a:Int)).map (λn=>Sl.f (.int n))=_;rw[e]
 rfl
theorem Py{b:Bool}(h:(!b)=true):b=false:=by
 cases b with
 | true=>cases h
 | false=>rfl
theorem Ae{b:Bool}(h:(!b)=false):b=true:=by
 cases b with
 | true=>rfl
 | false=>cases h
end PV
namespace PV
open PySem PySem.Spec PyProof.Rows L2
def vg(K:W.Frag):Sp:=λvs H Q _=>∃(a:Addr) (ns:ZL),vs=[.ref a]/\V0 K H a (ns.map V.int)/\ns.length<=63/\(∀T,Rf=some T->Tb T H)/\∀H',Q (.bl true) H'
noncomputable def notList:Value->Bool
 | .type n=>!decide (n="list")
 | _=>true
noncomputable def E2(K:W.Frag):Bool:=K.all λp=>notList p.2.cls
theorem lookup_mem{Z:Type}{a:Addr}{o:Z}:∀{K:List (Addr×Z)},K.lookup a=some o->∃b,(b,o)∈K
 | [],h=>by cases h
 | (b,o')::K,h=>by
  rw[List.lookup_cons]at h
  split at h
  .cases h;exact⟨b,Yu⟩
  .obtain⟨c,m⟩:=lookup_mem h;exact⟨c,Y3 _ m⟩
theorem rd_of{K:W.Frag}{H:Hp}{a:Addr}{vs:ZQ}(hK:E2 K=true)(h:V0 K H a vs):Rd H a (.lst vs):=by
 rcases h with h | ⟨o,XT,n,lk,hc,_⟩
 .exact h
 .obtain⟨b,m⟩:=lookup_mem lk;have:=K8.mp hK _ m;rw[show ((b,o):Addr×Obj).2.cls=.type "list" from hc]at this;cases this
theorem Wi{K:W.Frag}{mg:ZV}{H F:Hp}:∀zs:ZL,Zq K mg H F (zs.map .int) (zs.map .int)
 | []=>rfl
 | z::zs=>⟨_,_,rfl,rfl,Wi zs⟩
theorem i7{K:W.Frag}{mg:ZV}{c:List Sl->Option (Sl×ZZ)}(hK:E2 K=true)(hc:∀zs:ZL,zs.length<=63->c [.f (.lst (zs.map .int))]=some (.f (.bl true),[])):∀vs H Q E,vg K vs H Q E->spC K mg 1 c vs H Q E:=by
 intro vs H Q E h;obtain⟨a,ns,rfl,hS,hl,ht,hq⟩:=h;have rd:=rd_of hK hS;have sl:=sizeLine_eq;refine⟨rfl,λb=>if b=a then H a else none,λ_=>none,_,_,hc ns hl,⟨⟨λb o e=>?_,λ_ _ z=>(nomatch z),λ_ _=>rfl,λT e=>⟨if_neg λz=>?_,rfl,ht T e⟩⟩,λi t e=>?_,λi t e=>?_,λi j t u b e _ _ _=>?_,rfl⟩,λF' H' v l u r rs=>?_⟩
 .split at e
  .rename_i z;rw[z];exact e
  .cases e
 .obtain⟨ps,hp,_⟩:=ht T e;rw[z]at hp;rcases rd with r | ⟨o,r⟩<;>rw[hp]at r<;>cases r
 .match i,e with
  | 0,e =>
   cases e;refine⟨.ref a,rfl,a,ns.map .int,rfl,?_,by rw[Yc];omega,Wi ns⟩;rcases rd with h | ⟨o,h⟩
   .exact .inl (by show (if a=a then H a else none)=_;rw[if_pos rfl];exact h)
   .exact .inr ⟨o,by show (if a=a then H a else none)=_;rw[if_pos rfl];exact h⟩
  | i+1,e=>simp at e
 .match i,e with
  | 0,e=>cases e
  | i+1,e=>simp at e
 .match i,e with
  | 0,e=>cases e
  | i+1,e=>simp at e
 .have:v=.bl true:=rs;rw[this];exact hq H'
theorem funR{K:W.Frag}{x qual:Str}{st:Stmt}{f:Addr}{fd:FuncData}(F:Fun K x qual st f fd):K4 K x qual st f fd λ_=>True:=let ⟨oc,od,kV,doc,pm,an,cdv,ct,osl,h⟩:=F.ex;⟨⟨oc,od,kV,doc,pm,an,cdv,ct,osl,trivial,h⟩,F.kp⟩
structure FA(K:W.Frag)(x:Str)(st:Stmt)(f:Addr)(fd:FuncData):Prop where
 a:W.nsIn K mainGlobals x=some (some (.ref f))
 F:Fun K x x st f fd
noncomputable def chk(N:ZD)(d:Df)(st:Stmt):Bool :=
 (match (Zw st).kind with | .function=>true | _=>false)&&(!(Zw st).isCoroutine&&(!(Zw st).isGenerator&&(decide N.Nodup&&(decide (N.take (N.take d.ar).length=N.take d.ar)&&(((N.take d.ar).all λx=>decide ((Zw st).names.lookup x=some .local) || decide ((Zw st).names.lookup x=some .cell))&&(((Zw st).names.all λy=>!decide (y.2=.free))&&(decide (N.length=d.n)&&(decide ((N.take d.ar).length=d.ar)&&(decide ((N.take d.ar).length<=N.length)&&Ja N (Zw st) d.code (Z7 st))))))))))
theorem Kk{N:ZD}{d:Df}{st:Stmt}(h:chk N d st=true):Jt N (N.take d.ar) (Zw st)/\N.length=d.n/\(N.take d.ar).length=d.ar/\(N.take d.ar).length<=N.length/\Ja N (Zw st) d.code (Z7 st)=true:=by
 unfold chk at h;simp only[Y8,decide_eq_true_eq]at h;obtain⟨h1,h2,h3,h4,h5,h6,h7,h8,h9,h10,h11⟩:=h;refine⟨⟨?_,by simpa using h2,by simpa using h3,h4,h5,λx m=>?_,λy m=>?_⟩,h8,h9,h10,h11⟩
 .split at h1
  .assumption
  .cases h1
 .have:=K8.mp h6 x m;simpa using this
 .have:=K8.mp h7 y m;simpa using this
theorem FA.fc{K:W.Frag}{mg:ZV}{h:Heap}{x:Str}{st:Stmt}{f:Addr}{fd:FuncData}{d:Df}{N:ZD}(A:FA K x st f fd)(X:K.In h)(G:h.Ns mainGlobals mg)(hc:chk N d st=true)(hx:(Zw st).names≠Mh)
  (hb:∀(kV doc pm:Value) (an:ZP) (cdv ct:Value) (us:ZM),us.length=(N.take d.ar).length->bindArgs (W.fnOf x x (Y5 st) (Z7 st) (Zw st) .none kV doc pm an cdv ct) ⟨us,[]⟩=pure ((N.take d.ar).zip us)):Gc K mg x d :=
 let ⟨S,hn,ha,hl,hr⟩:=Kk hc
 ⟨⟨st,f,fd,N,N.take d.ar,λ_=>True,(funR A.F),λz=>absurd z hx,W.mg_of X G A.a,S,hn,ha,hl,hr,A.F.binds hb⟩⟩
def FC(x:Str)(st:Stmt)(d:Df):Prop:=∀{K:W.Frag} {mg:ZV} {h:Heap} {f:Addr} {fd:FuncData},K.In h->h.Ns mainGlobals mg->FA K x st f fd->Gc K mg x d
theorem tab_of{K:W.Frag}{mg:ZV}{L:List (Str×Df)}(h:∀p∈L,Gc K mg p.1 p.2)(f:Str)(d:Df)(e:((L.find? λp=>decide (p.1=f)).map (·.2))=some d):Gc K mg f d:=by
 obtain⟨p,hp,rfl⟩:=Yx.mp e;have t:=List.find?_some hp;have this:p.1=f:=Dc t;have q:=h p (List.mem_of_find?_eq_some hp);rw[this]at q;exact q
theorem usS{n:Nat}{us:ZM}(h:us.length=n+1):∃a r,us=a::r/\r.length=n:=by
 cases us with
 | nil=>cases h
 | cons a r=>exact⟨a,r,rfl,Nat.succ.inj h⟩
theorem us0{us:ZM}(h:us.length=0):us=[]:=List.eq_nil_of_length_eq_zero h
theorem qv{us:ZM}(h:us.length=1):∃a,us=[a]:=by
 obtain⟨a,r,rfl,g⟩:=usS h;cases us0 g;exact⟨a,rfl⟩
theorem Hw{us:ZM}(h:us.length=2):∃a b,us=[a,b]:=by
 obtain⟨a,r,rfl,g⟩:=usS h;obtain⟨b,rfl⟩:=qv g;exact⟨a,b,rfl⟩
theorem us3{us:ZM}(h:us.length=3):∃a b c,us=[a,b,c]:=by
 obtain⟨a,r,rfl,g⟩:=usS h;obtain⟨b,c,rfl⟩:=Hw g;exact⟨a,b,c,rfl⟩
theorem us4{us:ZM}(h:us.length=4):∃a b c d,us=[a,b,c,d]:=by
 obtain⟨a,r,rfl,g⟩:=usS h;obtain⟨b,c,d,rfl⟩:=us3 g;exact⟨a,b,c,d,rfl⟩
def Only2(H:Hp)(tp:Addr)(ps:ZN):Prop:=∀b,H b=none\/(∃o xs,H b=some (.frz o (.lst xs)))\/(b=tp/\H b=some (.tbl ps))
theorem cv{P:Program}{w:World}{K:W.Frag}{mg mb:ZV}{k:Nat}{fa a tp:Addr}{fd:FuncData}{x:Str}{sp:Sp}{s₁:Shared}{vs:ZM}{ns:ZL}{ps:ZN}
  (KX:K.In s₁.heap) (lg:s₁.heap.Ns mainGlobals mg) (hb:s₁.heap.Ns builtinsNs mb) (hbb:∀x:Str,x ≠ "__name__" -> mb x=bootBuiltins x) (hlim:s₁.heap.NoLimit) (hg:s₁.gens=#[])
  (ha:s₁.heap.get? a=some { cls:=.type "list",data:=.seq vs.toArray }) (hi:IntsAre vs ns) (hl:ns.length<=sizeLine) (hr:Uc k callerA)
  (hT:s₁.heap.get? tp=some { cls:=.none,data:=.fields ps }) (hKT:K.lookup tp=none) (hCT:isCodeTable s₁.heap tp)
  (F:∀base:Heap,K.In base->base.Ns mainGlobals mg->Dq P w K mg base n4 k fa fd [x] sp) (hbind:∀(s:Shared) (u:Value),BindsTo s fd ⟨[u],[]⟩ [(x,u)])
  (hsp:∀H:Hp,H tp=some (.tbl ps)->V0 K H a (ns.map V.int)->sp [.ref a] H (λv _=>v=.bl true) λ_ _ _=>False) :
  codeAny (model P w) callerA (.call (.ref fa) ⟨[.ref a],[]⟩) (λr s'=>r=.ok (.ret (.bool true))/\OldK s₁.heap s'.heap/\s'.os=s₁.os/\AllBare s'.gens) s₁:=by
 have rv:=Nd hi;have lenV:=hi.length
 have nat':tp≠a:=λz=>by
  rw[z,ha]at hT;cases hT
 have core:∀H:Hp,Only2 H tp ps->H tp=some (.tbl ps)->V0 K H a (ns.map V.int)->D3 P w H s₁.heap->(∀b,H b≠none->b=a\/b=tp)->(H a≠none->K.lookup a=none) ->
   codeAny (model P w) callerA (.call (.ref fa) ⟨[.ref a],[]⟩) (λr s'=>r=.ok (.ret (.bool true))/\OldK s₁.heap s'.heap/\s'.os=s₁.os/\AllBare s'.gens) s₁:=by
  intro H hO hP hS hok hA hK
  have off:∀{b:Addr} {o:Obj} {es:Array DictEntry} {ep:Nat},s₁.heap.get? b=some o->o.data=.dict es ep->H b=none:=λ{b o es ep} e d=>by
   cases q:H b with
   | none=>rfl
   | some u =>
    rcases hA b (by rw[q];simp) with z | z
    .rw[z,ha]at e;cases e;cases d
    .rw[z,hT]at e;cases e;cases d
  have nsK:∀{b:Addr} {m:ZV},s₁.heap.Ns b m->(Po s₁.heap H).Ns b m:=λ{b m} ⟨o,es,ep,e,d,r⟩=>⟨o,es,ep,Pa e (off e d),d,r⟩
  have hKb:K.In (Po s₁.heap H):=λb o e=>Pa (KX b o e) (by
   cases q:H b with
   | none=>rfl
   | some u =>
    rcases hA b (by rw[q];simp) with z | z
    .subst z;rw[hK (by rw[q];simp)]at e;cases e
    .rw[z,hKT]at e;cases e)
  have hM:Mod K mg (Po s₁.heap H):=⟨hKb,nsK lg,⟨mb,nsK hb,hbb⟩,let ⟨mc,h1,h2⟩:=hlim;⟨mc,nsK h1,h2⟩⟩;have e0:K5 P w K mg (Po s₁.heap H) callerA [] s₁ H:=⟨rfl,hM,λb o e=>iq e,Nat.le_of_eq (xw _ _),trivial,λb hb=>absurd (show b∈([]:ZU) from hb) XI,hok,.of_eq hg⟩;refine codeAny_mono ((F _ hKb (nsK lg)).run callerA [] s₁ H ⟨[.ref a],[]⟩ [.ref a] [.ref a] _ _ hr e0 (hbind s₁ (.ref a)) (.cons rfl .nil) (hsp H hP hS)) λr s' h=>?_;cases r with
  | error e=>exact False.elim h
  | ok fl =>
   cases fl with
   | next=>exact False.elim h
   | brk=>exact False.elim h
   | cont=>exact False.elim h
   | ret u =>
    obtain⟨v,H',os,bare,un,hok',r',q⟩:=h;have q':v=.bl true:=q;subst q';obtain rfl:u=Value.bool true:=r'
    have keep:∀b o,b≠tp->s₁.heap.get? b=some o->s'.heap.get? b=some o:=λb o nb e=>by
     cases q:H b with
     | none=>exact un.keep b o e q (by intro z;exact absurd (show b∈([]:ZU) from z) XI) XI
     | some u =>
      rcases hO b with z | ⟨ob,xs,z⟩ | ⟨z,_⟩
      .rw[q]at z;cases z
      .have z2:=un.frzs b ob _ z;obtain⟨e1,_⟩:=hok b _ z;obtain⟨e2,_⟩:=hok' b _ z2;rw[e]at e1;cases e1;exact e2
      .exact absurd z nb
    obtain⟨more,eM⟩:=un.tbls tp ps hP;have gM:s'.heap.get? tp=some { cls:=.none,data:=.fields (ps++more) }:=hok' tp _ eM;refine⟨rfl,⟨λb o e=>?_,λb o e=>?_⟩,os,bare⟩
    .by_cases z:b=tp
     .subst z;rw[hT]at e;cases e;exact .inr (.inl ⟨hCT,rfl,ps,more,rfl,gM⟩)
     .exact .inl (keep b o z e)
    .by_cases z:b=tp
     .exact⟨_,by rw[z];exact gM⟩
     .exact⟨o,keep b o z e⟩
 cases hk:K.lookup a with
 | some o =>
  have e:=KX a o hk;rw[ha]at e;cases e;refine core (λb=>if b=tp then some (.tbl ps) else none) (λb=>?_) (if_pos rfl) (.inr ⟨_,vs.toArray,_,hk,rfl,rfl,rfl,by rw[Jh,lenV];exact hl,by simpa using rv⟩) (λb u z=>?_) (λb z=>?_) λz=>absurd (if_neg nat'.symm) z
  .by_cases z:b=tp
   .exact .inr (.inr ⟨z,if_pos z⟩)
   .exact .inl (if_neg z)
  .by_cases q:b=tp
   .have z':=(if_pos q).symm.trans z;cases z';subst q;exact hT
   .have z':=(if_neg q).symm.trans z;cases z'
  .by_cases q:b=tp
   .exact .inr q
   .exact absurd (if_neg q) z
 | none =>
  have hAt:∀b,(if b=tp then some (HO.tbl ps) else if b=a then some (.frz { cls:=.type "list",data:=.seq vs.toArray } (.lst (ns.map V.int))) else none:Option HO)=(if b=tp then some (HO.tbl ps) else if b=a then some (.frz { cls:=.type "list",data:=.seq vs.toArray } (.lst (ns.map V.int))) else none):=λ_=>rfl;refine core (λb=>if b=tp then some (.tbl ps) else if b=a then some (.frz { cls:=.type "list",data:=.seq vs.toArray } (.lst (ns.map V.int))) else none) (λb=>?_) (if_pos rfl) (.inl (.inr ⟨{ cls:=.type "list",data:=.seq vs.toArray },(if_neg nat'.symm).trans (if_pos rfl)⟩)) (λb u z=>?_) (λb z=>?_) λ_=>hk
  .by_cases z:b=tp
   .exact .inr (.inr ⟨z,if_pos z⟩)
   .by_cases hb:b=a
    .exact .inr (.inl ⟨_,_,(if_neg z).trans (if_pos hb)⟩)
    .exact .inl ((if_neg z).trans (if_neg hb))
  .by_cases q:b=tp
   .have z':=(if_pos q).symm.trans z;cases z';subst q;exact hT
   .by_cases hb:b=a
    .have z':=((if_neg q).trans (if_pos hb)).symm.trans z;cases z';subst hb;exact⟨ha,by rw[Yc];exact hl,vs,_,rv,ha⟩
    .have z':=((if_neg q).trans (if_neg hb)).symm.trans z;cases z'
  .by_cases q:b=tp
   .exact .inr q
   .by_cases hb:b=a
    .exact .inl hb
    .exact absurd ((if_neg q).trans (if_neg hb)) z
theorem m4{K:W.Frag}{tp:Addr}{o:Obj}{h:Heap}(no:K.lookup tp=none)(X:W.Frag.In ((tp,o)::K) h):K.In h/\h.get? tp=some o:=by
 refine⟨λa b e=>X a b ?_,X tp o (by simp[List.lookup])⟩
 have n:(a==tp)=false:=by
  rw[qd];intro z;rw[z,no]at e;cases e
 rw[List.lookup_cons,n];exact e
noncomputable def Gi(K:W.Frag)(c p:Addr):Bool:=match K.lookup c with
 | some ⟨.type t,_,.fields vs,_⟩=>t == "code" && !(c==p)&&(match (vs[11]?:ZT),vs.getD 11 .none,vs.getD 18 .none,vs.getD 7 .none,vs.getD 9 .none,vs.getD 10 .none with
  | some (Value.ref q),Value.ref q',.str _ _,.int _ _,.bool _,.int _ _=>q==p&&q'==p
  | _,_,_,_,_,_=>false)
 | _=>false
theorem Wl{K:W.Frag}{c p:Addr}(e:Gi K c p=true){h:Heap}(X:K.In h):W.CodeHd h c p:=by
 unfold Gi at e
 split at e
 .rename_i t d vs sl lk
  simp only[Y8,Bool.not_eq_true',qd,ne_eq]at e;obtain⟨⟨e1,e2⟩,e3⟩:=e
  split at e3
  .rename_i q q' f1 t1 f2 t2 b f3 t3 h1 h2 h3 h4 h5 h6
   simp only[Y8,beq_iff_eq]at e3;obtain⟨rfl,rfl⟩:=e3;exact⟨_,vs,_,_,_,_,_,_,_,X c _ lk,by rw[eq_of_beq e1],rfl,h1,h2,h3,h4,h5,h6,e2⟩
  .cases e3
 .cases e
theorem Kv{K:W.Frag}{c p:Addr}(e:Gi K c p=true){h:Heap}(X:K.In h):isCodeTable h p:=by
 obtain⟨o,vs,_,_,_,_,_,_,_,h1,h2,h3,h4,_⟩:=Wl e X;exact⟨c,o,vs,h1,h2,h3,h4⟩
noncomputable def Zxz(K:W.Frag)(bm p:Addr):Bool:=match K.lookup bm with
 | some ⟨.type t,some d,.plain,_⟩=>t == "module" && d==builtinsNs && !(bm==builtinsNs) && !(bm==mainGlobals) && !(bm==p)
 | _=>false
theorem blt_of{K:W.Frag}{mg:ZV}{bm p:Addr}(e:Zxz K bm p=true)(hm:mg "__builtins__"=some (.ref bm)){h:Heap}(X:K.In h):h.BuiltinsAt mg p:=by
 unfold Zxz at e
 split at e
 .rename_i t d sl lk
  simp only[Y8,Bool.not_eq_true',qd,ne_eq,beq_iff_eq]at e;obtain⟨⟨⟨⟨e1,e2⟩,e3⟩,e4⟩,e5⟩:=e;exact⟨bm,_,hm,e3,e4,e5,X bm _ lk,by rw[e1],by rw[e2],rfl⟩
 .cases e
structure FAL(K:W.Frag)(x:Str)(st:Stmt)(f:Addr)(fd:FuncData)(c:Addr):Prop where
 a:W.nsIn K mainGlobals x=some (some (.ref f))
 F:K4 K x x st f fd λv=>v=.ref c
theorem Zzt{K:W.Frag}{x qual:Str}{st:Stmt}{f c:Addr}{oc:Value}{od an:ZP}{osl:ZF}{kV doc pm ct:Value}(l:K.lookup f=some ⟨oc,od,.func (W.fnOf x qual (Y5 st) (Z7 st) (Zw st) .none kV doc pm an (.ref c) ct),osl⟩)
  (h:W.codeIn K (.ref c) qual=true) (k:W.keepIn K (.ref f)=true):K4 K x qual st f (W.fnOf x qual (Y5 st) (Z7 st) (Zw st) .none kV doc pm an (.ref c) ct) λv=>v=.ref c:=⟨⟨oc,od,kV,doc,pm,an,.ref c,ct,osl,rfl,rfl,l,h⟩,k⟩
theorem FAL.fc{K:W.Frag}{mg:ZV}{h:Heap}{x:Str}{st:Stmt}{f c:Addr}{fd:FuncData}{d:Df}{N:ZD}{T0:TP}(A:FAL K x st f fd c)(X:K.In h)(G:h.Ns mainGlobals mg)(hc:chk N d st=true)(eT:Rf=some T0)(hq:∀(L f:Addr) (v:Value),(envOfC x (Zw st) L f v).qual++Str.ofString "<lambda>"=T0.q)(lw:LamW K mg c T0.P)
  (hb:∀(kV doc pm:Value) (an:ZP) (cdv ct:Value) (us:ZM),us.length=(N.take d.ar).length->bindArgs (W.fnOf x x (Y5 st) (Z7 st) (Zw st) .none kV doc pm an cdv ct) ⟨us,[]⟩=pure ((N.take d.ar).zip us)):Gc K mg x d :=
 let ⟨S,hn,ha,hl,hr⟩:=Kk hc
 ⟨⟨st,f,fd,N,N.take d.ar,_,A.F,λ_ T e=>by rw[eT]at e;cases e;exact⟨hq,λv r=>⟨c,r,lw⟩⟩,W.mg_of X G A.a,S,hn,ha,hl,hr,(let ⟨oc,od,kV,doc,pm,an,cdv,ct,osl,_,r⟩:=A.F.ex;(⟨⟨oc,od,kV,doc,pm,an,cdv,ct,osl,r⟩,A.F.kp⟩:Fun K x x st f fd)).binds hb⟩⟩
theorem walkPT{l:W.OpenLaw}{q:Program}{loose:ZD}{XP:(ZV)->Heap->Prop}{YP:World->Heap->Prop}{d:DefRec}{K:Params->W.Frag}{k:Nat}{T0:TP}(eT:Rf=some T0)(hn:l.most=some 63)(hdf:d.params.defaults=[])(hr:Uc k callerA)
  (hY:∀(w:World) (h:Heap),YP w h->(K w.params).In h/\h.get? T0.P=some { cls:=.none,data:=.fields #[] }) (hK:∀p,(K p).lookup T0.P=none) (hC:∀(w:World) (h:Heap),(K w.params).In h->isCodeTable h T0.P)
  (F:∀(w:World) (mg:ZV) (fa:Addr) (h:Heap),(K w.params).In h->h.Ns mainGlobals mg->mg d.name=some (.ref fa) ->
   ∃fd:FuncData,(∀(s:Shared) (u:Value),BindsTo s fd ⟨[u],[]⟩ [("_law_script",u)])/\∀base:Heap,(K w.params).In base->base.Ns mainGlobals mg->Dq l.prog w (K w.params) mg base n4 k fa fd ["_law_script"] (vg (K w.params))) :
  W.WalkO q loose XP YP l.row.toRowW d [] (λf vs=>PySem.call f vs):=by
 refine Att.O0 hn hdf λw s₀ s₁ mg mb fa o pm cd doc a vs ns G Y ho hd L1 hmg hobj hints hlen hg=>?_;obtain⟨KX,hT⟩:=hY w _ Y;obtain⟨fd,hb,hF⟩:=F w mg fa _ KX G.T.g hmg;exact cv KX G.T.g G.T.b G.T.builtins G.T.nolimit hg hobj hints (D0 hlen XA) hr hT (hK _) (hC w _ KX) hF hb λH hP hS=>⟨a,ns,rfl,hS,hlen,λT e=>(by rw[eT]at e;cases e;exact⟨#[],hP,trivial,.inl rfl⟩),λ_=>rfl⟩
end PV
namespace K38
open PySem PySem.Spec PyProof.Rows L2 PV
def Nx:S:=(Y0 (.ret (.pr (.cm .ne) (Zk (Zv (.v 0) (ki 3)) (.tup .nil)))))
def Yt:Df:=⟨1,1,Nx⟩
def x9:S:=(Y0 (.ret (.pr .get1 (Zk (Zv (.v 0) (ki 1)) (.v 1)))))
def Ga:Df:=⟨2,2,x9⟩
noncomputable def Ro:S:=(.seq (.set 2 (Zv (.call "leasts_of" (Za (.v 0))) (.v 1)))
   (.seq (.ret (.ite (.pr (.cm .is) (Zk (.v 2) (.k .non))) (.k .non) (Zv (.v 2) (ki 1))))
   .nil))
def Vv:Df:=⟨3,2,Ro⟩
noncomputable def Ot:S:=(.seq (.set 1 (.pr .dict (Za (.comp (.v 0) (Zv (.v 0) (ki 1)) .nil (.tup (Zk (.v 0) (.k .non))) [none] ["name"]))))
   (.seq (.loop (.v 2) (.itr .rng (Za (Ba (Zv (.v 0) (ki 1)))))
    (Y0 (.set 1 (.pr .dict (Za (.comp (.v 0) (Zv (.v 0) (ki 1)) .nil (.tup (Zk (.v 0) (.call "least_by" (Zk (.call "form_of" (Zk (.v 2) (.v 0))) (.v 1))))) [none,some 1,some 0] ["name","leasts","make"]))))))
   (.seq (.ret (.mv 1))
   .nil)))
def V5:Df:=⟨3,1,Ot⟩
noncomputable def Kt:S:=(.seq (.set 2 (Zv (.v 0) (ki 0)))
   (.seq (.ite (Y4 (.v 2) (ks "whole"))
    (Y0 (.ret (.tup (Zk (ki 1) (Zv (.v 0) (ki 1))))))
    .nil)
   (.seq (.ite (Y4 (.v 2) (ks "truth"))
    (Y0 (.ret (.tup (Zk (ki 1) (.k (.bl false))))))
    .nil)
   (.seq (.ite (Y4 (.v 2) (ks "text"))
    (Y0 (.ret (.tup (Zk (ki 1) (ks "")))))
    .nil)
   (.seq (.ite (Y4 (.v 2) (ks "record"))
    (Y0 (.ret (.call "least_record" (Zk (Zv (.v 0) (ki 1)) (.v 1)))))
    .nil)
   (.seq (.ite (Y4 (.v 2) (ks "choice"))
    (Y0 (.ret (.call "least_choice" (Zk (Zv (.v 0) (ki 1)) (.v 1)))))
    .nil)
   (.seq (.ret (.tup (Zk (ki 1) (.tup .nil))))
   .nil)))))))
def Jk:Df:=⟨3,2,Kt⟩
noncomputable def Ce:S:=(.seq (.set 2 (.comp (.v 0) (.v 0) .nil (.ite (.call "may_be_left_out" (Za (.v 0))) (.tup (Zk (ki 0) (Zv (Zv (.v 0) (ki 3)) (ki 0)))) (Zv (.v 1) (Zv (.v 0) (ki 2)))) [none,some 1] ["field","leasts"]))
   (.seq (.ite (.pr (.cm .isin) (Zk (.k .non) (.v 2)))
    (Y0 (.ret (.k .non)))
    .nil)
   (.seq (.ret (.tup (Zk (Dg (ki 1) (.pr .sum (Za (.comp (.v 0) (.v 2) .nil (Zv (.v 0) (ki 0)) [none] ["part"])))) (.tup (Zk (.pr .tuple (Za (.comp (.v 0) (.v 2) .nil (Zv (.v 0) (ki 1)) [none] ["part"]))) (.tup .nil))))))
   .nil)))
def Y6:Df:=⟨3,2,Ce⟩
noncomputable def C0:S:=(.seq (.set 2 (.comp (.v 0) (.v 0) (.pr (.cm .isnt) (Zk (Zv (.v 1) (Zv (.v 0) (ki 2))) (.k .non))) (.tup (Ju (Zv (Zv (.v 1) (Zv (.v 0) (ki 2))) (ki 0)) (Zv (.v 0) (ki 0)) (Zv (.v 0) (ki 2)))) [none,some 1] ["arm","leasts"]))
   (.seq (.ite (Y4 (Ba (.v 2)) (ki 0))
    (Y0 (.ret (.k .non)))
    .nil)
   (.seq (.set 3 (.pr .min (Za (.v 2))))
   (.seq (.ret (.tup (Zk (Dg (ki 1) (Zv (.v 3) (ki 0))) (.tup (Ju (ks "arm") (Zv (.v 3) (ki 1)) (Zv (Zv (.v 1) (Zv (.v 3) (ki 2))) (ki 1)))))))
   .nil))))
def Y7:Df:=⟨4,2,C0⟩
noncomputable def Kn:S:=(Y0 (.ret (.lst (Ax (.pr (.sl false true) (Zk (.v 0) (ki 63))) (ki 0) (ki 0) (ki 0)))))
def Jf:Df:=⟨1,1,Kn⟩
noncomputable def Jd:S:=(.seq (.set 2 (Zv (.v 0) (ki 0)))
   (.seq (.set 3 (Zv (.v 0) (ki 1)))
   (.seq (.put 0 (ki 1) (Dg (.v 3) (ki 1)))
   (.seq (.wh (.and (Y4 (Zv (.v 0) (ki 2)) (ki 0)) (.pr (.cm .lt) (Zk (Zv (.v 0) (ki 3)) (Ba (.v 2)))))
    (.seq (.ite (.pr (.cm .ge) (Zk (.pr .abs (Za (Zv (.v 2) (Zv (.v 0) (ki 3))))) (.pr (.op .pow) (Zk (ki 10) (ki 18)))))
    (Y0 (.put 0 (ki 2) (.pr .abs (Za (Zv (.v 2) (Zv (.v 0) (ki 3)))))))
    .nil)
   (.seq (.put 0 (ki 3) (Dg (Zv (.v 0) (ki 3)) (ki 1)))
   .nil)))
   (.seq (.ite (.pr (.cm .gt) (Zk (Zv (.v 0) (ki 2)) (ki 0)))
    (.seq (.set 4 (Zv (.v 0) (ki 2)))
   (.seq (.put 0 (ki 2) (.pr (.op .fdiv) (Zk (.v 4) (.v 1))))
   (.seq (.ret (.pr (.op .mod) (Zk (.v 4) (.v 1))))
   .nil)))
    .nil)
   (.seq (.set 5 (ki 0))
   (.seq (.ite (.pr (.cm .gt) (Zk (Ba (.v 2)) (ki 0)))
    (Y0 (.set 5 (Zv (.v 2) (.pr (.op .mod) (Zk (.v 3) (Ba (.v 2)))))))
    .nil)
   (.seq (.set 6 (.pr (.op .mod) (Zk (.pr (.op .mul) (Zk (Dg (.pr (.op .mod) (Zk (.v 5) (ki 1000003))) (ki 1)) (Dg (Dg (.pr (.op .mul) (Zk (.pr (.op .mod) (Zk (.v 3) (ki 997))) (ki 7919))) (ki 104729)) (.v 3)))) (ki 1000033))))
   (.seq (.set 6 (.pr (.op .mod) (Zk (Dg (Dg (.pr (.op .mul) (Zk (.v 6) (.v 6))) (.pr (.op .mul) (Zk (ki 3) (.v 6)))) (.v 3)) (ki 999983))))
   (.seq (.ret (.pr (.op .mod) (Zk (.pr (.op .mod) (Zk (.pr (.op .mul) (Zk (.v 6) (ki 48271))) (ki 65537))) (.v 1))))
   .nil))))))))))
def Jm:Df:=⟨7,2,Jd⟩
noncomputable def Ol:S:=(.seq (.ite (Y4 (Zv (.v 0) (ki 0)) (ks "record"))
    (.seq (.set 2 (.comp (.v 0) (Zv (.v 0) (ki 1)) (Y4 (Zv (.v 0) (ki 3)) (.tup .nil)) (.pr .get2 (Ju (.v 1) (Zv (.v 0) (ki 2)) (ki 0))) [none,some 1] ["_law_field","_law_prices_here"]))
   (.seq (.ret (.ite (.pr (.cm .isin) (Zk (ki 0) (.v 2))) (ki 0) (Dg (ki 1) (.pr .sum (Za (.v 2))))))
   .nil))
    .nil)
   (.seq (.ite (Y4 (Zv (.v 0) (ki 0)) (ks "choice"))
    (.seq (.set 2 (.comp (.v 0) (Zv (.v 0) (ki 1)) (.pr (.cm .isin) (Zk (Zv (.v 0) (ki 2)) (.v 1))) (Zv (.v 1) (Zv (.v 0) (ki 2))) [none,some 1] ["_law_arm","_law_prices_here"]))
   (.seq (.ret (.ite (Y4 (.v 2) (.lst .nil)) (ki 0) (Dg (ki 1) (.pr .min (Za (.v 2))))))
   .nil))
    .nil)
   (.seq (.ret (ki 1))
   .nil)))
def V7:Df:=⟨3,2,Ol⟩
noncomputable def Fc:S:=(.seq (.set 1 (.pr .dnew .nil))
   (.seq (.loop (.v 2) (.itr .rng (Za (Ba (Zv (.v 0) (ki 1)))))
    (Y0 (.loop (.v 3) (.pr .sorted (Za (Zv (.v 0) (ki 1))))
    (.seq (.set 4 (.call "_law_price" (Zk (Zv (Zv (.v 0) (ki 1)) (.v 3)) (.io 1))))
   (.seq (.ite (.pr (.cm .gt) (Zk (.v 4) (ki 0)))
    (Y0 (.put 1 (.v 3) (.pr .min (Zk (.v 4) (.pr .get2 (Ju (.v 1) (.v 3) (.v 4)))))))
    .nil)
   .nil)))))
   (.seq (.ret (.mv 1))
   .nil)))
def Vl:Df:=⟨5,1,Fc⟩
noncomputable def Bd:S:=(.seq (.ite (.pr (.cm .gt) (Zk (.tmp (.pr .max (Za (Dg (.lst (Za (ki 0))) (.pr .lvals (Za (.call "_law_prices" (Za (.tup (Zk (.v 0) (.v 1))))))))))) (ki 100)))
    (Y0 (.loop (.v 2) (.pr .sorted (Za (.v 1)))
    (Y0 (.ite (Y4 (Zv (Zv (.v 1) (.v 2)) (ki 0)) (ks "record"))
    (Y0 (.put 1 (.v 2) (.tup (Ju (ks "record") (.pr (.sl false true) (Zk (Zv (Zv (.v 1) (.v 2)) (ki 1)) (ki 1))) (Zv (Zv (.v 1) (.v 2)) (ki 2))))))
    .nil))))
    .nil)
   (.seq (.ret (.tup (Zk (.v 0) (.v 1))))
   .nil))
def Ux:Df:=⟨3,2,Bd⟩
noncomputable def Kc:S:=(Y0 (.ret (.pr (.join "") (Za (.comp (.v 0) (.pr .str (Za (.v 0))) .nil (Zv (ks "abcdefghij") (.pr .int (Za (.v 0)))) [none] ["_law_sign"])))))
def Jg:Df:=⟨1,1,Kc⟩
noncomputable def Oa:S:=(.seq (.set 1 (.lst (.cons (ks "a") (.cons (ks "ab") (.cons (ks "abc") (.cons (ks "form") (.cons (ks "row") (.cons (ks "text") (.cons (ks "must") (.cons (ks "none") (.cons (ks "b") (.cons (ks "map") .nil))))))))))))
   (.seq (.set 2 (.call "_law_draw" (Zk (.io 0) (ki 10))))
   (.seq (.ret (.comp (.v 0) (.itr .rng (Za (ki 8))) .nil (Zv (.v 1) (.pr (.op .mod) (Zk (Dg (.v 2) (.v 0)) (ki 10)))) [none,some 1,some 2] ["_law_k","_law_pool","_law_turn"]))
   .nil)))
def Uz:Df:=⟨3,1,Oa⟩
noncomputable def Oh:S:=(.seq (.ite (Y4 (.v 1) (ks "whole"))
    (.seq (.set 2 (Zv (.lst (.cons (ki 0) (.cons (ki 1) (.cons (.pr .neg (Za (ki 2))) (.cons (ki 7) (.cons (.pr .neg (Za (.pr (.op .pow) (Zk (ki 10) (ki 18))))) .nil)))))) (.call "_law_draw" (Zk (.io 0) (ki 5)))))
   (.seq (.ret (.tup (Ju (ks "whole") (.v 2) (.pr .min (Zk (.pr (.op .pow) (Zk (ki 10) (ki 18))) (Dg (.v 2) (Zv (.lst (Ax (ki 0) (ki 1) (ki 5) (.pr (.op .pow) (Zk (ki 10) (ki 18))))) (.call "_law_draw" (Zk (.io 0) (ki 4))))))))))
   .nil))
    .nil)
   (.seq (.ret (.ite (Y4 (.v 1) (ks "text")) (.tup (Zk (.v 1) (Zv (.lst (Ax (ki 0) (ki 1) (ki 3) (ki 200))) (.call "_law_draw" (Zk (.io 0) (ki 4)))))) (.tup (Za (.v 1)))))
   .nil))
def V8:Df:=⟨3,2,Oh⟩
noncomputable def R1:S:=(.seq (.ite (.or (.pr (.cm .isin) (Zk (Zv (.v 1) (ki 0)) (.tup (Zk (ks "record") (ks "choice"))))) (Y4 (.call "_law_draw" (Zk (.io 0) (ki 2))) (ki 0)))
    (Y0 (.ret (.tup .nil)))
    .nil)
   (.seq (.ite (Y4 (Zv (.v 1) (ki 0)) (ks "whole"))
    (Y0 (.ret (.tup (Za (Zv (.v 1) (Dg (ki 1) (.call "_law_draw" (Zk (.io 0) (ki 2)))))))))
    .nil)
   (.seq (.ite (Y4 (Zv (.v 1) (ki 0)) (ks "text"))
    (Y0 (.ret (.tup (Za (.pr (.op .mul) (Zk (Zv (ks "ab") (.call "_law_draw" (Zk (.io 0) (ki 2)))) (.pr .min (Zk (Zv (.v 1) (ki 1)) (.call "_law_draw" (Zk (.io 0) (ki 3)))))))))))
    .nil)
   (.seq (.ret (.ite (Y4 (Zv (.v 1) (ki 0)) (ks "truth")) (.tup (Za (Y4 (.call "_law_draw" (Zk (.io 0) (ki 2))) (ki 1)))) (.tup (Za (.tup .nil)))))
   .nil))))
def Vg:Df:=⟨2,2,R1⟩
noncomputable def R0:S:=(.seq (.set 1 (.comp (.v 0) (.lst (.cons (ki 1) (.cons (ki 2) (.cons (ki 9) (.cons (ki 10) (.cons (ki 99) (.cons (ki 100) (.cons (ki 999) .nil)))))))) (Y4 (.call "_law_draw" (Zk (.io 1) (ki 2))) (ki 0)) (.v 0) [none,some 0] XR))
   (.seq (.ret (.ite (Y4 (.call "_law_draw" (Zk (.io 0) (ki 8))) (ki 0)) (.pr (.sl false true) (Zk (.v 1) (ki 8))) (.pr (.sl false true) (Zk (.v 1) (ki 3)))))
   .nil))
def Vk:Df:=⟨2,1,R0⟩
noncomputable def Ou:S:=(.seq (.set 4 (.lst .nil))
   (.seq (.loop (.v 5) (.call "_law_numbers" (Za (.io 0)))
    (.seq (.set 6 (Zv (.v 1) (.call "_law_draw" (Zk (.io 0) (Ba (.v 1))))))
   (.seq (.set 7 (.tup (Ju (.v 5) (Dg (Zv (.lst (Zk (ks "f") (ks "g"))) (.call "_law_draw" (Zk (.io 0) (ki 2)))) (.call "_law_word" (Za (.v 5)))) (.v 6))))
   (.seq (.ite (Y4 (.v 3) (ks "record"))
    (Y0 (.set 7 (Dg (.v 7) (.tup (Za (.call "_law_default" (Zk (.io 0) (.pr .get2 (Ju (.v 2) (.v 6) (.pr .tup1 (Za (.v 3))))))))))))
    .nil)
   (.seq (.ex (.mt .append 4 (Za (.v 7))))
   .nil)))))
   (.seq (.ret (.pr .tuple (Za (.v 4))))
   .nil)))
def V9:Df:=⟨8,4,Ou⟩
noncomputable def Ft:S:=(.seq (.set 2 (.comp (.v 0) (.v 1) .nil (Zv (.v 0) (ki 0)) [none] XS))
   (.seq (.ret (.pr .tuple (Za (.comp (.v 0) (.lst (Ax (ki 2) (ki 3) (ki 10) (ki 998))) (.and (.pr (.cm .notin) (Zk (.v 0) (.v 1))) (Y4 (.call "_law_draw" (Zk (.io 2) (ki 4))) (ki 0))) (.v 0) [none,some 2,some 0] ["_law_number","_law_mine","_law_tape_here"]))))
   .nil))
def Vn:Df:=⟨3,2,Ft⟩
noncomputable def Kl:S:=(.seq (.set 1 (.pr (.sl false true) (Zk (.call "_law_names" (Za (.io 0))) (Zv (.lst (.cons (ki 1) (.cons (ki 2) (.cons (ki 3) (.cons (ki 3) (.cons (ki 4) (.cons (ki 5) (.cons (ki 6) (.cons (ki 8) .nil))))))))) (.call "_law_draw" (Zk (.io 0) (ki 8)))))))
   (.seq (.set 2 (.lst (.cons (ks "record") (.cons (ks "choice") (.cons (ks "row") (.cons (ks "whole") (.cons (ks "text") (.cons (ks "record") (.cons (ks "map") (.cons (ks "truth") (.cons (ks "choice") (.cons (ks "record") .nil))))))))))))
   (.seq (.set 3 (.comp (.v 0) (.v 1) .nil (Zv (.v 1) (.call "_law_draw" (Zk (.io 2) (ki 10)))) [none,some 2,some 0] ["_law_name","_law_sorts","_law_tape_here"]))
   (.seq (.set 4 (.pr .dnew .nil))
   (.seq (.loop (.tup (Zk (.v 5) (.v 6))) (.itr .zip (Zk (.v 1) (.v 3)))
    (.seq (.ite (.pr (.cm .isin) (Zk (.v 6) (.tup (Ju (ks "whole") (ks "truth") (ks "text")))))
    (Y0 (.put 4 (.v 5) (.call "_law_plain" (Zk (.io 0) (.v 6)))))
    .nil)
   (.seq (.ite (.pr (.cm .isin) (Zk (.v 6) (.tup (Zk (ks "row") (ks "map")))))
    (Y0 (.put 4 (.v 5) (.tup (Ju (.v 6) (Zv (.v 1) (.call "_law_draw" (Zk (.io 0) (Ba (.v 1))))) (Zv (.lst (Ax (ki 0) (ki 1) (ki 2) (ki 20))) (.call "_law_draw" (Zk (.io 0) (ki 4))))))))
    .nil)
   .nil)))
   (.seq (.set 7 (.pr .dict (Za (.v 4))))
   (.seq (.loop (.tup (Zk (.v 5) (.v 6))) (.itr .zip (Zk (.v 1) (.v 3)))
    (.seq (.ite (.pr (.cm .isin) (Zk (.v 6) (.tup (Zk (ks "record") (ks "choice")))))
    (.seq (.set 8 (.call "_law_parts" (Ax (.io 0) (.v 1) (.v 4) (.v 6))))
   (.seq (.put 7 (.v 5) (.tup (Ju (.v 6) (.v 8) (.call "_law_struck" (Zk (.io 0) (.v 8))))))
   .nil))
    .nil)
   (.seq (.ite (Y4 (.v 6) (ks "choice"))
    (Y0 (.put 7 (.v 5) (Dg (Zv (.v 7) (.v 5)) (.tup (Za (Y4 (.call "_law_draw" (Zk (.io 0) (ki 2))) (ki 1)))))))
    .nil)
   .nil)))
   (.seq (.ret (.call "_law_light" (Zk (Zv (.v 1) (.call "_law_draw" (Zk (.io 0) (Ba (.v 1))))) (.io 7))))
   .nil))))))))
def Jb:Df:=⟨9,1,Kl⟩
noncomputable def G8:S:=(Y0 (.ret (.pr .max (Zk (.v 2) (.pr .min (Zk (.v 3) (Dg (.v 1) (Zv (.lst (Ax (ki 1) (.pr .neg (Za (ki 1))) (ki 0) (ki 2))) (.call "_law_draw" (Zk (.io 0) (ki 4)))))))))))
def Yz:Df:=⟨4,4,G8⟩
noncomputable def Zy:S:=(.seq (.ite (Y4 (Zv (.v 2) (ki 0)) (ks "whole"))
    (.seq (.set 3 (.comp (.v 0) (.pr (.sl true false) (Zk (.v 2) (ki 1))) .nil (.call "_law_number_turned" (Ax (.io 1) (.v 0) (.pr .neg (Za (.pr (.op .pow) (Zk (ki 10) (ki 18))))) (.pr (.op .pow) (Zk (ki 10) (ki 18))))) [none,some 0] XR))
   (.seq (.ret (.tup (Ju (ks "whole") (.pr .min (Za (.v 3))) (.pr .max (Za (.v 3))))))
   .nil))
    .nil)
   (.seq (.ite (Y4 (Zv (.v 2) (ki 0)) (ks "text"))
    (Y0 (.ret (.tup (Zk (ks "text") (.call "_law_number_turned" (Ax (.io 0) (Zv (.v 2) (ki 1)) (ki 0) (ki 200)))))))
    .nil)
   (.seq (.ite (Y4 (Zv (.v 2) (ki 0)) (ks "truth"))
    (Y0 (.ret (Zv (.lst (Ju (.v 2) (.tup (Ju (ks "whole") (ki 0) (ki 1))) (.tup (Ju (ks "whole") (ki 0) (ki 2))))) (.call "_law_draw" (Zk (.io 0) (ki 3))))))
    .nil)
   (.seq (.ite (.pr (.cm .isin) (Zk (Zv (.v 2) (ki 0)) (.tup (Zk (ks "row") (ks "map")))))
    (.seq (.set 4 (Zv (.lst (Zk (Zv (.v 2) (ki 1)) (Zv (.v 1) (.call "_law_draw" (Zk (.io 0) (Ba (.v 1))))))) (.pr .int (Za (Y4 (.call "_law_draw" (Zk (.io 0) (ki 3))) (ki 0))))))
   (.seq (.ret (.tup (Ju (Zv (.v 2) (ki 0)) (.v 4) (.call "_law_number_turned" (Ax (.io 0) (Zv (.v 2) (ki 2)) (ki 0) (ki 20))))))
   .nil))
    .nil)
   (.seq (.set 5 (.pr .list (Za (Zv (.v 2) (ki 1)))))
   (.seq (.set 6 (.call "_law_draw" (Zk (.io 0) (Dg (Ba (.v 5)) (ki 1)))))
   (.seq (.set 7 (.call "_law_draw" (Zk (.io 0) (ki 4))))
   (.seq (.ite (.and (Y4 (.v 7) (ki 0)) (.pr (.cm .lt) (Zk (.v 6) (Ba (.v 5)))))
    (Y0 (.ex (.mt .popAt 5 (Za (.v 6)))))
    (Y0 (.ite (.and (.pr (.cm .lt) (Zk (.v 7) (ki 3))) (.pr (.cm .lt) (Zk (.v 6) (Ba (.v 5)))))
    (.seq (.set 4 (Zv (.lst (Zk (Zv (Zv (.v 5) (.v 6)) (ki 2)) (Zv (.v 1) (.call "_law_draw" (Zk (.io 0) (Ba (.v 1))))))) (.pr .int (Za (Y4 (.call "_law_draw" (Zk (.io 0) (ki 3))) (ki 0))))))
   (.seq (.put 5 (.v 6) (Dg (.tup (Ju (Zv (Zv (.v 5) (.v 6)) (ki 0)) (Dg (ks "h") (.call "_law_word" (Za (Zv (Zv (.v 5) (.v 6)) (ki 0))))) (.v 4))) (.pr (.sl true false) (Zk (Zv (.v 5) (.v 6)) (ki 3)))))
   (.seq (.ite (.and (Y4 (Zv (.v 2) (ki 0)) (ks "record")) (Y4 (.call "_law_draw" (Zk (.io 0) (ki 2))) (ki 0)))
    (.seq (.set 3 (Zv (.lst (Ju (.tup (Za (ki 0))) (.tup (Za (ki 9))) (.tup (Za (.pr (.op .mul) (Zk (ks "b") (ki 9))))))) (.call "_law_draw" (Zk (.io 0) (ki 3)))))
   (.seq (.put 5 (.v 6) (Dg (.pr (.sl false true) (Zk (Zv (.v 5) (.v 6)) (ki 3))) (.tup (Za (Zv (.lst (Zk (.tup .nil) (.v 3))) (.pr .int (Za (Y4 (Zv (Zv (.v 5) (.v 6)) (ki 3)) (.tup .nil)))))))))
   .nil))
    .nil)
   .nil)))
    (.seq (.set 8 (Zv (.lst (.cons (ki 1) (.cons (ki 2) (.cons (ki 3) (.cons (ki 9) (.cons (ki 10) (.cons (ki 500) .nil))))))) (.call "_law_draw" (Zk (.io 0) (ki 6)))))
   (.seq (.set 9 (.tup (Ju (.v 8) (Dg (ks "k") (.call "_law_word" (Za (.v 8)))) (Zv (.v 1) (.call "_law_draw" (Zk (.io 0) (Ba (.v 1))))))))
   (.seq (.ite (Y4 (Zv (.v 2) (ki 0)) (ks "record"))
    (Y0 (.set 9 (Dg (.v 9) (.tup (Za (Zv (.lst (Zk (.tup .nil) (.tup (Za (ki 0))))) (.call "_law_draw" (Zk (.io 0) (ki 2)))))))))
    .nil)
   (.seq (.ite (.and (.tmp (.pr (.cm .notin) (Zk (.v 8) (.comp (.v 0) (.v 5) .nil (Zv (.v 0) (ki 0)) [none] XS)))) (.pr (.cm .lt) (Zk (Ba (.v 5)) (ki 8))))
    (Y0 (.ex (.mt .append 5 (Za (.v 9)))))
    .nil)
   .nil)))))))
   (.seq (.set 10 (.comp (.v 0) (.v 5) .nil (Zv (.v 0) (ki 0)) [none] XS))
   (.seq (.set 11 (.pr .tuple (Za (.comp (.v 0) (Zv (.v 2) (ki 2)) (.pr (.cm .notin) (Zk (.v 0) (.v 1))) (.v 0) [none,some 10] ["_law_number","_law_mine"]))))
   (.seq (.set 12 (.tup (Ju (Zv (.v 2) (ki 0)) (.pr .tuple (Za (.pr .sorted (Za (.v 5))))) (.v 11))))
   (.seq (.ret (.ite (Y4 (Zv (.v 2) (ki 0)) (ks "record")) (.v 12) (Dg (.v 12) (.tup (Za (.pr (.cm .ne) (Zk (Zv (.v 2) (ki 3)) (Y4 (.call "_law_draw" (Zk (.io 0) (ki 3))) (ki 0)))))))))
   .nil))))))))))))
def Yy:Df:=⟨13,3,Zy⟩
noncomputable def Oo:S:=(.seq (.ite (.pr (.cm .ne) (Zk (Zv (.v 1) (ki 0)) (ks "record")))
    (Y0 (.ret (.mv 1)))
    .nil)
   (.seq (.set 2 (.lst .nil))
   (.seq (.loop (.tup (Ax (.v 3) (.v 4) (.v 5) (.v 6))) (Zv (.v 1) (ki 1))
    (.seq (.set 7 (Zv (.v 0) (.v 5)))
   (.seq (.ite (.pr (.cm .isin) (Zk (Zv (.v 7) (ki 0)) (.tup (Zk (ks "record") (ks "choice")))))
    (Y0 (.set 6 (.tup .nil)))
    .nil)
   (.seq (.ite (.and (.pr (.cm .ne) (Zk (.v 6) (.tup .nil))) (Y4 (Zv (.v 7) (ki 0)) (ks "whole")))
    (Y0 (.set 6 (.tup (Za (Dg (.pr .max (Zk (Zv (.v 7) (ki 1)) (.pr .min (Zk (Zv (.v 7) (ki 2)) (.ite (.pr (.isi .int) (Za (Zv (.v 6) (ki 0)))) (Zv (.v 6) (ki 0)) (ki 0)))))) (ki 0))))))
    .nil)
   (.seq (.ite (.and (.pr (.cm .ne) (Zk (.v 6) (.tup .nil))) (Y4 (Zv (.v 7) (ki 0)) (ks "truth")))
    (Y0 (.set 6 (.tup (Za (Y4 (Zv (.v 6) (ki 0)) (ki 1))))))
    .nil)
   (.seq (.ite (.and (.pr (.cm .ne) (Zk (.v 6) (.tup .nil))) (Y4 (Zv (.v 7) (ki 0)) (ks "text")))
    (Y0 (.set 6 (.tup (Za (.pr (.sl false true) (Zk (.ite (.pr (.isi .str) (Za (Zv (.v 6) (ki 0)))) (Zv (.v 6) (ki 0)) (ks "")) (Zv (.v 7) (ki 1))))))))
    .nil)
   (.seq (.ite (.and (.pr (.cm .ne) (Zk (.v 6) (.tup .nil))) (.pr (.cm .isin) (Zk (Zv (.v 7) (ki 0)) (.tup (Zk (ks "row") (ks "map"))))))
    (Y0 (.set 6 (.tup (Za (.tup .nil)))))
    .nil)
   (.seq (.ex (.mt .append 2 (Za (.tup (Ax (.v 3) (.v 4) (.v 5) (.v 6))))))
   .nil))))))))
   (.seq (.ret (.tup (Ju (ks "record") (.pr .tuple (Za (.v 2))) (Zv (.v 1) (ki 2)))))
   .nil))))
def Uq:Df:=⟨8,2,Oo⟩
noncomputable def Fm:S:=(.seq (.set 2 (.pr .sorted (Za (Zv (.v 1) (ki 1)))))
   (.seq (.set 3 (.pr .dict (Za (Zv (.v 1) (ki 1)))))
   (.seq (.loop (.v 4) (.itr .rng (Za (Zv (.lst (.cons (ki 0) (.cons (ki 1) (.cons (ki 2) (.cons (ki 3) (.cons (ki 6) (.cons (ki 12) .nil))))))) (.call "_law_draw" (Zk (.io 0) (ki 6))))))
    (.seq (.set 5 (Zv (.v 2) (.call "_law_draw" (Zk (.io 0) (Ba (.v 2))))))
   (.seq (.put 3 (.v 5) (.call "_law_shape_turned" (Ju (.io 0) (.v 2) (Zv (.v 3) (.v 5)))))
   .nil)))
   (.seq (.loop (.v 5) (.v 2)
    (Y0 (.put 3 (.v 5) (.call "_law_fixed" (Zk (.io 3) (Zv (.v 3) (.v 5)))))))
   (.seq (.ret (.call "_law_light" (Zk (Zv (.v 1) (ki 0)) (.io 3))))
   .nil)))))
def Vc:Df:=⟨6,2,Fm⟩
noncomputable def Ri:S:=(.seq (.set 3 (Zv (Zv (.v 0) (ki 1)) (.v 1)))
   (.seq (.ite (.pr (.cm .isin) (Zk (Zv (.v 3) (ki 0)) (.tup (Zk (ks "whole") (ks "truth")))))
    (Y0 (.ret (.tup (Zk (ks "whole") (.pr .int (Za (.v 2)))))))
    .nil)
   (.seq (.ite (Y4 (Zv (.v 3) (ki 0)) (ks "text"))
    (Y0 (.ret (.tup (Zk (ks "text") (.v 2)))))
    .nil)
   (.seq (.ite (Y4 (Zv (.v 3) (ki 0)) (ks "row"))
    (Y0 (.ret (.tup (Zk (ks "row") (.pr .tuple (Za (.comp (.v 0) (.v 2) .nil (.call "_law_written" (Ju (.v 1) (Zv (.v 2) (ki 1)) (.v 0))) [none,some 0,some 3] XN)))))))
    .nil)
   (.seq (.ite (Y4 (Zv (.v 3) (ki 0)) (ks "map"))
    (Y0 (.ret (.tup (Zk (ks "map") (.pr .tuple (Za (.comp (.v 0) (.v 2) .nil (.tup (Zk (Zv (.v 0) (ki 0)) (.call "_law_written" (Ju (.v 1) (Zv (.v 2) (ki 1)) (Zv (.v 0) (ki 1)))))) [none,some 0,some 3] ["_law_part","_law_make_here","_law_shape"])))))))
    .nil)
   (.seq (.ite (Y4 (Zv (.v 3) (ki 0)) (ks "choice"))
    (.seq (.set 4 (.pr .dict (Za (.comp (.v 0) (Zv (.v 3) (ki 1)) .nil (.pr .sl2 (Za (.v 0))) [none] ["_law_arm"]))))
   (.seq (.ite (Y4 (Zv (.v 2) (ki 0)) (ks "other"))
    (Y0 (.ret (Dg (.tup (Za (ks "arm"))) (.pr (.sl true false) (Zk (.v 2) (ki 1))))))
    .nil)
   (.seq (.ret (.tup (Ju (ks "arm") (Zv (.v 2) (ki 1)) (.call "_law_written" (Ju (.v 0) (Zv (.v 4) (Zv (.v 2) (ki 1))) (Zv (.v 2) (ki 2)))))))
   .nil)))
    .nil)
   (.seq (.set 5 (.pr .list (Za (Zv (.v 2) (ki 1)))))
   (.seq (.loop (.tup (Zk (.v 6) (.v 7))) (.itr .zip (Zk (Zv (.v 3) (ki 1)) (Zv (.v 2) (ki 0))))
    (Y0 (.ite (.or (Y4 (Zv (.v 6) (ki 3)) (.tup .nil)) (.pr (.cm .ne) (Zk (.pr .repr (Za (Zv (.v 6) (ki 3)))) (.pr .repr (Za (.tup (Za (.v 7))))))))
    (Y0 (.ex (.mt .append 5 (Za (.tup (Zk (Zv (.v 6) (ki 0)) (.call "_law_written" (Ju (.v 0) (Zv (.v 6) (ki 2)) (.v 7)))))))))
    .nil)))
   (.seq (.ret (.tup (Zk (ks "rec") (.pr .tuple (Za (.pr .srtK (Za (.v 5))))))))
   .nil)))))))))
def Vy:Df:=⟨8,3,Ri⟩
noncomputable def Fs:S:=(.seq (.set 3 (Zv (Zv (.v 0) (ki 1)) (.v 1)))
   (.seq (.ite (Y4 (Zv (.v 3) (ki 0)) (ks "whole"))
    (Y0 (.ret (.and (.pr (.isi .int) (Za (.v 2))) (.and (.not (.pr (.isi .bool) (Za (.v 2)))) (.pr (.c2 .le .le) (Ju (Zv (.v 3) (ki 1)) (.v 2) (Zv (.v 3) (ki 2))))))))
    .nil)
   (.seq (.ite (Y4 (Zv (.v 3) (ki 0)) (ks "truth"))
    (Y0 (.ret (.pr (.isi .bool) (Za (.v 2)))))
    .nil)
   (.seq (.ite (Y4 (Zv (.v 3) (ki 0)) (ks "text"))
    (Y0 (.ret (.and (.pr (.isi .str) (Za (.v 2))) (.pr (.cm .le) (Zk (Ba (.v 2)) (Zv (.v 3) (ki 1)))))))
    .nil)
   (.seq (.ite (.not (.pr (.isi .tuple) (Za (.v 2))))
    (Y0 (.ret (.k (.bl false))))
    .nil)
   (.seq (.ite (Y4 (Zv (.v 3) (ki 0)) (ks "row"))
    (Y0 (.ret (.and (.pr (.cm .le) (Zk (Ba (.v 2)) (Zv (.v 3) (ki 2)))) (.pr (.cm .notin) (Zk (.k (.bl false)) (.comp (.v 0) (.v 2) .nil (.call "_law_is_own" (Ju (.v 1) (Zv (.v 2) (ki 1)) (.v 0))) [none,some 0,some 3] XN))))))
    .nil)
   (.seq (.ite (Y4 (Zv (.v 3) (ki 0)) (ks "map"))
    (.seq (.set 4 (.comp (.v 0) (.v 2) .nil (Zv (.v 0) (ki 0)) [none] ["_law_pair"]))
   (.seq (.set 5 (.and (.pr (.cm .le) (Zk (Ba (.v 2)) (Zv (.v 3) (ki 2)))) (Y4 (.v 4) (.pr .sset (Za (.v 4))))))
   (.seq (.ret (.and (.v 5) (.pr (.cm .notin) (Zk (.k (.bl false)) (.comp (.v 0) (.v 2) .nil (.call "_law_is_own" (Ju (.v 1) (Zv (.v 2) (ki 1)) (Zv (.v 0) (ki 1)))) [none,some 0,some 3] ["_law_pair","_law_make_here","_law_shape"])))))
   .nil)))
    .nil)
   (.seq (.ite (Y4 (Zv (.v 3) (ki 0)) (ks "choice"))
    (.seq (.set 6 (.pr .dict (Za (.comp (.v 0) (Zv (.v 3) (ki 1)) .nil (.pr .sl2 (Za (.v 0))) [none] ["_law_arm"]))))
   (.seq (.set 5 (.and (Y4 (Ba (.v 2)) (ki 3)) (.and (Y4 (Zv (.v 2) (ki 0)) (ks "arm")) (.pr (.cm .isin) (Zk (Zv (.v 2) (ki 1)) (.v 6))))))
   (.seq (.ret (.and (.v 5) (.call "_law_is_own" (Ju (.v 0) (Zv (.v 6) (Zv (.v 2) (ki 1))) (Zv (.v 2) (ki 2))))))
   .nil)))
    .nil)
   (.seq (.ite (.or (.pr (.cm .ne) (Zk (Ba (.v 2)) (ki 2))) (.or (.pr (.cm .ne) (Zk (Zv (.v 2) (ki 1)) (.tup .nil))) (.or (.not (.pr (.isi .tuple) (Za (Zv (.v 2) (ki 0))))) (.pr (.cm .ne) (Zk (Ba (Zv (.v 2) (ki 0))) (Ba (Zv (.v 3) (ki 1))))))))
    (Y0 (.ret (.k (.bl false))))
    .nil)
   (.seq (.ret (.pr (.cm .notin) (Zk (.k (.bl false)) (.comp (.tup (Zk (.v 0) (.v 1))) (.itr .zip (Zk (Zv (.v 3) (ki 1)) (Zv (.v 2) (ki 0)))) .nil (.call "_law_is_own" (Ju (.v 2) (Zv (.v 0) (ki 2)) (.v 1))) [none,none,some 0] ["_law_field","_law_one","_law_make_here"]))))
   .nil))))))))))
def Yp:Df:=⟨7,3,Fs⟩
noncomputable def Oi:S:=(.seq (.ite (.pr (.cm .isin) (Zk (Zv (.v 0) (ki 0)) (.tup (Zk (ks "whole") (ks "text")))))
    (Y0 (.ret (ki 1)))
    .nil)
   (.seq (.ite (Y4 (Zv (.v 0) (ki 0)) (ks "arm"))
    (Y0 (.ret (Dg (ki 1) (.call "_law_count" (Za (Zv (.v 0) (ki 2)))))))
    .nil)
   (.seq (.set 1 (.comp (.v 0) (Zv (.v 0) (ki 1)) .nil (.ite (Y4 (Zv (.v 1) (ki 0)) (ks "row")) (.v 0) (Zv (.v 0) (ki 1))) [none,some 0] ["_law_part","_law_item"]))
   (.seq (.ret (Dg (ki 1) (.pr .sum (Za (.comp (.v 0) (.v 1) .nil (.call "_law_count" (Za (.v 0))) [none] XS)))))
   .nil))))
def Uj:Df:=⟨2,1,Oi⟩
noncomputable def Oc:S:=(.seq (.set 1 (.call "_law_prices" (Za (.v 0))))
   (.seq (.loop (.v 2) (.pr .sorted (Za (Zv (.v 0) (ki 1))))
    (.seq (.set 3 (.call "least_value" (Zk (.v 0) (.v 2))))
   (.seq (.ite (.pr (.cm .notin) (Zk (.v 2) (.v 1)))
    (Y0 (.ite (.pr (.cm .isnt) (Zk (.v 3) (.k .non)))
    (Y0 (.ret (.k (.bl false))))
    .nil))
    (Y0 (.ite (.or (.not (.call "_law_is_own" (Ju (.v 0) (.v 2) (.v 3)))) (.pr (.cm .ne) (Zk (.call "_law_count" (Za (.call "_law_written" (Ju (.v 0) (.v 2) (.v 3))))) (Zv (.v 1) (.v 2)))))
    (Y0 (.ret (.k (.bl false))))
    .nil)))
   .nil)))
   (.seq (.ret (.k (.bl true)))
   .nil)))
def V6:Df:=⟨4,1,Oc⟩
noncomputable def c_law:S:=(.seq (.set 1 (.call "_law_tape" (Za (.v 0))))
   (.seq (.loop (.v 2) (.itr .rng (Za (ki 2)))
    (.seq (.set 3 (.call "_law_make" (Za (.io 1))))
   (.seq (.ite (.or (.not (.call "_law_right" (Za (.v 3)))) (.not (.call "_law_right" (Za (.call "_law_turned" (Zk (.io 1) (.v 3)))))))
    (Y0 (.ret (.k (.bl false))))
    .nil)
   .nil)))
   (.seq (.ret (.k (.bl true)))
   .nil)))
def Wn:Df:=⟨4,1,c_law⟩
theorem Eo{c:Prop}[Decidable c]{Z:Type}{a:Z}{o:Option Z}{Q:Z->Prop}(h:c)(q:Q a):on (if c then some a else o) Q:=by rw[if_pos h];exact q
theorem Zt{b:Bool}{A B:Prop}(h:b=true->A)(h':b=false->B):if b=true then A else B:=by
 cases b with
 | true=>exact h rfl
 | false=>exact h' rfl
theorem ik{a b:Int}{Q:Sl->Prop}(h:0<=a/\a<2 ^ 64)(q:Q (.f (.int (a*b)))):on (opT .mul (.int a) (.int b)) Q:=Eo (.inl ⟨by omega,h.2⟩) q
theorem modP{a b:Int}{Q:Sl->Prop}(h:0<b)(q:Q (.f (.int (a % b)))):on (opT .mod (.int a) (.int b)) Q:=Eo h q
theorem divP{a b:Int}{Q:Sl->Prop}(h:0<b/\b<1073741824)(q:Q (.f (.int (a / b)))):on (opT .fdiv (.int a) (.int b)) Q:=Eo h q
theorem Vr{ts:ZZ}{x:T}{Q:T×T->Prop}(h:ts.length<sizeLine)(q:Q (.lst (ts++[x]),.non)):on (ib .append (.lst ts) [x]) Q:=Eo h q
noncomputable def Zb(zs:ZL)(i l k:Int):T:=.lst [.lst (zs.map .int),.int i,.int l,.int k]
def TP(t:T):Prop:=∃zs i l k,t=Zb zs i l k/\zs.length<=63/\0<=i/\0<=l/\0<=k/\k<=zs.length
def Uv(C:Cs):Prop:=∀(t:T) (m:Int),TP t->0<m->m<=1000000->on (C "_law_draw" [.o t,.f (.int m)]) λx=>∃r t',0<=r/\r<m/\TP t'/\x=(.f (.int r),[t'])
theorem Zm{C:Cs}(h:Uv C){t:T}{m:Int}{Q:Sl×ZZ->Prop}(tp:TP t)(m0:0<m)(m1:m<=1000000)(q:∀r zs i l k,0<=r->r<m->TP (Zb zs i l k)->Q (.f (.int r),[Zb zs i l k])):on (C "_law_draw" [.o t,.f (.int m)]) Q :=
 Z9 (h t m tp m0 m1) λx ⟨r,t',h1,h2,h3,e⟩=>by
  obtain⟨zs,i,l,k,e',g⟩:=id h3;rw[e,e'];exact q r zs i l k h1 h2 (e' ▸ h3)
theorem sf{w:W}(zs:ZL):wF Jf w [.f (.lst (zs.map .int))] λx=>∃t,TP t/\x=(.o t,[]):=by
 refine Ya rfl λD rt _=>?_
 have e:G6 (zs.map T.int) none (some 63)=(zs.take 63).map .int:=by
  unfold G6;rw[show HT.Yh (zs.map T.int).length 0 none=0 from rfl,show HT.Yh (zs.map T.int).length (zs.map T.int).length (some (63:Int))=min 63 (zs.map T.int).length from HT.Lv _ _ 63,List.drop_zero,Nat.sub_zero,List.map_take,Yc];rcases Nat.le_total 63 zs.length with h | h
  .rw[Nat.min_eq_left h]
  .rw[Nat.min_eq_right h,T0l (by rw[Yc];exact Yk _),T0l (by rw[Yc];exact h)]
 exact rt _ _ ⟨.lst [.lst (G6 (zs.map .int) none (some 63)),.int 0,.int 0,.int 0],⟨zs.take 63,0,0,0,by rw[e];rfl,by rw[L0t];omega,by omega,by omega,by omega,by omega⟩,rfl⟩
noncomputable def Vt:Nat->S->S
 | 0,s=>s
 | n+1,.seq _ r=>Vt n r
 | _,s=>s
theorem xb{w:W}{pt:Nat->Bool}{R:S}{D:En}{zs:ZL}{i l k m:Int}(h2:pt 2=false)(h3:pt 3=false)(h:wS w pt R [.o (Zb zs (i+1) l k),.f (.int m),.f (.lst (zs.map .int)),.f (.int i),.no,.no,.no] D) :
  wS w pt (.seq (.set 2 (Zv (.v 0) (ki 0))) (.seq (.set 3 (Zv (.v 0) (ki 1))) (.seq (.put 0 (ki 1) (Dg (.v 3) (ki 1))) R))) [.o (Zb zs i l k),.f (.int m),.no,.no,.no,.no,.no] D:=by
 show if pt 2=true then False else _
 rw[if_neg (by rw[h2];exact D5)];show if pt 3=true then False else _
 rw[if_neg (by rw[h3];exact D5)];exact h
theorem Zz0{w:W}{zs:ZL}{i l k m:Int}(hz:zs.length<=63)(i0:0<=i)(l0:0<=l)(k0:0<=k)(k1:k<=zs.length)(m0:0<m)(m1:m<=1000000) :
  wF Jm w [.o (Zb zs i l k),.f (.int m)] λx=>∃r t',0<=r/\r<m/\TP t'/\x=(.f (.int r),[t']):=by
 refine Ya rfl λD rt _=>?_;have hl:(zs.map T.int).length=zs.length:=Yc _
 have fin:∀l' k':Int,0<=l'->0<=k'->k'<=zs.length->wS w (Vu [.o (Zb zs i l k),.f (.int m)]) (Vt 4 Jd) [.o (Zb zs (i+1) l' k'),.f (.int m),.f (.lst (zs.map .int)),.f (.int i),.no,.no,.no] D:=λl' k' l0 k0 k1=>by
  refine Zt (b:=decide (0<l')) (λh=>?_) λh=>?_
  .refine divP ⟨m0,by omega⟩ ?_;refine modP m0 ?_;exact rt _ _ ⟨l' % m,_,Int.emod_nonneg _ XH,Int.emod_lt_of_pos _ m0,⟨zs,i+1,l' / m,k',rfl,hz,by omega,Int.ediv_nonneg l0 XH,k0,k1⟩,rfl⟩
  .have end_:∀(c:Int),wS w (Vu [.o (Zb zs i l k),.f (.int m)]) (Vt 7 Jd) [.o (Zb zs (i+1) l' k'),.f (.int m),.f (.lst (zs.map .int)),.f (.int i),.no,.f (.int c),.no] D:=λc=>by
    have a0:=Int.emod_nonneg c (show (1000003:Int)≠0 by omega);have a1:=Int.emod_lt_of_pos c (show (0:Int)<1000003 by omega);have b0:=Int.emod_nonneg i (show (997:Int)≠0 by omega);have b1:=Int.emod_lt_of_pos i (show (0:Int)<997 by omega);refine ik (a:=i % 997) ⟨b0,by omega⟩ ?_;refine ik (a:=c % 1000003+1) ⟨by omega,by omega⟩ ?_;have x0:0<=(c % 1000003+1)*(i % 997*7919+104729+i) % 1000033:=Int.emod_nonneg _ XH;have x1:(c % 1000003+1)*(i % 997*7919+104729+i) % 1000033<1000033:=Int.emod_lt_of_pos _ XH;obtain⟨x,hx⟩:∃x,(c % 1000003+1)*(i % 997*7919+104729+i) % 1000033=x:=⟨_,rfl⟩;show wS w _ _ [.o (Zb zs (i+1) l' k'),.f (.int m),.f (.lst (zs.map .int)),.f (.int i),.no,.f (.int c),.f (.int ((c % 1000003+1)*(i % 997*7919+104729+i) % 1000033))] _;rw[hx]at x0 x1 ⊢;refine ik (a:=x) ⟨x0,by omega⟩ ?_;have y0:0<=(x*x+3*x+i) % 999983:=Int.emod_nonneg _ XH;have y1:(x*x+3*x+i) % 999983<999983:=Int.emod_lt_of_pos _ XH;obtain⟨y,hy⟩:∃y,(x*x+3*x+i) % 999983=y:=⟨_,rfl⟩;show wS w _ _ [.o (Zb zs (i+1) l' k'),.f (.int m),.f (.lst (zs.map .int)),.f (.int i),.no,.f (.int c),.f (.int ((x*x+3*x+i) % 999983))] _;rw[hy]at y0 y1 ⊢;refine ik (a:=y) ⟨y0,by omega⟩ ?_;refine modP m0 ?_;exact rt _ _ ⟨_,_,Int.emod_nonneg _ XH,Int.emod_lt_of_pos _ m0,⟨zs,i+1,l',k',rfl,hz,by omega,l0,k0,k1⟩,rfl⟩
   refine Zt (b:=decide ((0:Int)<((zs.map T.int).length:Nat))) (λg=>?_) λg=>?_
   .have g:=Dc g;refine modP g ?_;obtain⟨x,hx,_,mx⟩:=C2 (xs:=zs.map T.int) (Int.emod_nonneg i (show (((zs.map T.int).length:Nat):Int)≠0 by omega)) (Int.emod_lt_of_pos i g);obtain⟨z,_,rfl⟩:=Ry.mp mx;refine Na hx ?_;exact end_ z
   .exact end_ 0
 refine xb (R:=Vt 3 Jd) rfl rfl ?_;refine whS ?_;refine wWhI (λn p=>∃l k:Int,p=[.o (Zb zs (i+1) l k),.f (.int m),.f (.lst (zs.map .int)),.f (.int i),.no,.no,.no]/\0<=l/\0<=k/\k<=zs.length/\n=zs.length-k.toNat) (λn p K hi kt kf=>?_) (zs.length-k.toNat) 1000000 _ XH ⟨l,k,rfl,l0,k0,k1,rfl⟩;obtain⟨l',k',rfl,l0,k0,k1,hn⟩:=hi;refine Zt (b:=decide (l'=0)) (λh=>?_) λh=>?_
 .refine boolP' (b:=decide (k'<((zs.map T.int).length:Nat))) (K:=λb=>K b _) (λh2=>?_) λh2=>?_
  .have h2:=Dc h2;refine kt _ λD' nx _ _ _=>?_;obtain⟨x,hx,_,mx⟩:=C2 (xs:=zs.map T.int) k0 h2;obtain⟨z,_,rfl⟩:=Ry.mp mx;refine Na hx ?_;refine Zt (b:=decide ((10:Int) ^ 18<=if z<0 then -z else z)) (λh3=>?_) λh3=>?_
   .refine Na hx ?_;exact nx (n-1) _ XH ⟨_,k'+1,rfl,by split<;>omega,by omega,by omega,by omega⟩
   .exact nx (n-1) _ XH ⟨_,k'+1,rfl,l0,by omega,by omega,by omega⟩
  .exact kf _ (fin l' k' l0 k0 k1)
 .exact kf _ (fin l' k' l0 k0 k1)
noncomputable def nj:ZD:=["a","ab","abc","form","row","text","must","none","b","map"]
noncomputable def Yi(r:Nat):ZD:=(List.range 8).map λk=>nj.getD ((r+k) % 10) ""
def Lo(r:Sl):Prop:=∃ns:ZD,r=.o (.lst (ns.map .str))/\ns.length=8/\ns.Nodup/\∀n∈ns,n∈nj
theorem Z8:∀r,r<10->(Yi r).Nodup/\∀n∈Yi r,n∈nj:=by decide +kernel
set_option maxHeartbeats 2000000 in
theorem fe{w:W}(hD:Uv w.C){zs:ZL}{i l k:Int}(tp:TP (Zb zs i l k)):wF Uz w [.o (Zb zs i l k)] λx=>∃(r:Sl) (t':T),Lo r/\TP t'/\x=(r,[t']):=by
 refine Ya rfl λD rt _=>?_;refine Zm hD tp XH XH λr K9 i' l' k' r0 r1 Ex=>?_;rcases(show r=0\/r=1\/r=2\/r=3\/r=4\/r=5\/r=6\/r=7\/r=8\/r=9 by omega) with rfl | rfl | rfl | rfl | rfl | rfl | rfl | rfl | rfl | rfl
 .exact rt _ _ ⟨_,_,⟨Yi 0,rfl,rfl,Z8 0 XA⟩,Ex,rfl⟩
 .exact rt _ _ ⟨_,_,⟨Yi 1,rfl,rfl,Z8 1 XA⟩,Ex,rfl⟩
 .exact rt _ _ ⟨_,_,⟨Yi 2,rfl,rfl,Z8 2 XA⟩,Ex,rfl⟩
 .exact rt _ _ ⟨_,_,⟨Yi 3,rfl,rfl,Z8 3 XA⟩,Ex,rfl⟩
 .exact rt _ _ ⟨_,_,⟨Yi 4,rfl,rfl,Z8 4 XA⟩,Ex,rfl⟩
 .exact rt _ _ ⟨_,_,⟨Yi 5,rfl,rfl,Z8 5 XA⟩,Ex,rfl⟩
 .exact rt _ _ ⟨_,_,⟨Yi 6,rfl,rfl,Z8 6 XA⟩,Ex,rfl⟩
 .exact rt _ _ ⟨_,_,⟨Yi 7,rfl,rfl,Z8 7 XA⟩,Ex,rfl⟩
 .exact rt _ _ ⟨_,_,⟨Yi 8,rfl,rfl,Z8 8 XA⟩,Ex,rfl⟩
 .exact rt _ _ ⟨_,_,⟨Yi 9,rfl,rfl,Z8 9 XA⟩,Ex,rfl⟩
noncomputable def G9:ZL:=[1,2,3,9,10,99,100,500,999]
def Sh(i:Int):Prop:=-10 ^ 18<=i/\i<=10 ^ 18
def Sm(x:Str):Prop:=x.length<=9/\∀c∈x.cps.toList,c<16 ^ 8
inductive Dx:T->Prop
 | int{i:Int}(h:Sh i):Dx (.int i)
 | bl {b:Bool}:Dx (.bl b)
 | str {x:Str} (h:Sm x):Dx (.str x)
 | nil:Dx (.tup [])
inductive rb:T->Prop
 | no:rb (.tup [])
 | is {x:T} (h:Dx x):rb (.tup [x])
def Dfs:Bool->ZZ->Prop
 | true,[d]=>rb d
 | false,[]=>True
 | _,_=>False
inductive C9(ns:ZD)(k:Bool):T->Prop
 | mk{n:Int}{x o:Str}{ds:ZZ}(hn:n∈G9)(hx:Sm x)(ho:o∈ns)(hd:Dfs k ds):C9 ns k (.tup (.int n::.str x::.str o::ds))
noncomputable def Ut:T->Int
 | .tup (.int i::_)=>i
 | _=>0
structure Y2(ns:ZD)(k:Bool)(ps:ZZ):Prop where
 l:ps.length<=8
 d:(ps.map Ut).Nodup
 p:∀p∈ps,C9 ns k p
def Stk(ss:ZZ):Prop:=∃zs:ZL,ss=zs.map .int/\zs.length<=8/\∀z∈zs,Sh z
inductive Shp(ns:ZD):T->Prop
 | whole{a b:Int}(ha:Sh a)(hb:Sh b)(le:a<=b):Shp ns (.tup [.str "whole",.int a,.int b])
 | truth:Shp ns (.tup [.str "truth"])
 | text {n:Int} (h0:0<=n) (h1:n<=200):Shp ns (.tup [.str "text",.int n])
 | row {o:Str} {n:Int} (ho:o∈ns) (h0:0<=n) (h1:n<=20):Shp ns (.tup [.str "row",.str o,.int n])
 | map {o:Str} {n:Int} (ho:o∈ns) (h0:0<=n) (h1:n<=20):Shp ns (.tup [.str "map",.str o,.int n])
 | record {ps ss:ZZ} (hp:Y2 ns true ps) (hs:Stk ss):Shp ns (.tup [.str "record",.tup ps,.tup ss])
 | choice {ps ss:ZZ} {b:Bool} (hp:Y2 ns false ps) (hs:Stk ss):Shp ns (.tup [.str "choice",.tup ps,.tup ss,.bl b])
inductive Jc:T->T->Prop
 | whole{a b i:Int}(h1:a<=i)(h2:i<=b):Jc (.tup [.str "whole",.int a,.int b]) (.int i)
 | truth {b:Bool}:Jc (.tup [.str "truth"]) (.bl b)
 | text {n:Int} {x:Str} (h:(x.length:Int)<=n):Jc (.tup [.str "text",.int n]) (.str x)
 | row {o:Str} {n:Int}:Jc (.tup [.str "row",.str o,.int n]) (.tup [])
 | map {o:Str} {n:Int}:Jc (.tup [.str "map",.str o,.int n]) (.tup [])
def DFit(t d:T):Prop:=rb d/\∀x,d=.tup [x]->Jc t x
theorem C9.mono{ns ms:ZD}{k:Bool}{t:T}(h:∀x∈ns,x∈ms)(p:C9 ns k t):C9 ms k t:=by
 cases p with
 | mk hn hx ho hd=>exact .mk hn hx (h _ ho) hd
theorem Y2.mono{ns ms:ZD}{k:Bool}{ps:ZZ}(h:∀x∈ns,x∈ms)(p:Y2 ns k ps):Y2 ms k ps:=⟨p.l,p.d,λq m=>(p.p q m).mono h⟩
theorem Shp.mono{ns ms:ZD}{t:T}(h:∀x∈ns,x∈ms)(p:Shp ns t):Shp ms t:=by
 cases p with
 | whole a b c=>exact .whole a b c
 | truth=>exact .truth
 | text a b=>exact .text a b
 | row a b c=>exact .row (h _ a) b c
 | map a b c=>exact .map (h _ a) b c
 | record a b=>exact .record (a.mono h) b
 | choice a b=>exact .choice (a.mono h) b
noncomputable def rngI(lo hi:Int):T->Bool
 | .int j=>decide (lo<=j)&&decide (j<=hi)
 | _=>false
theorem Dv{ts:ZZ}{r:Int}{Q:Sl->Prop}(lo hi:Int)(h0:0<=r)(h1:r<ts.length)(c:ts.all (rngI lo hi)=true)(q:∀j:Int,lo<=j->j<=hi->T.int j∈ts->Q (.f (.int j))):on ((A7 (.lst ts) (.int r)).map Sl.f) Q:=by
 refine ixP h0 h1 λx _ mx=>?_;have:=K8.mp c x mx;unfold rngI at this
 split at this
 .simp only[Y8,decide_eq_true_eq]at this;exact q _ this.1 this.2 mx
 .cases this
theorem Vf{ss:ZD}{r:Int}{Q:Sl->Prop}(h0:0<=r)(h1:r<(ss.map T.str).length)(q:∀o∈ss,Q (.f (.str o))):on ((A7 (.lst (ss.map .str)) (.int r)).map Sl.f) Q:=by
 refine ixP h0 h1 λx _ mx=>?_;obtain⟨o,mo,rfl⟩:=Ry.mp mx;exact q o mo
def Tp(C:Cs)(f:Str)(as:List Sl)(R:Sl->Prop):Prop:=∀t,TP t->on (C f (.o t::as)) λx=>∃r t',R r/\TP t'/\x=(r,[t'])
theorem F9{C:Cs}{f:Str}{as:List Sl}{R:Sl->Prop}{t:T}{Q:Sl×ZZ->Prop}(h:Tp C f as R)(tp:TP t)(q:∀r zs i l k,R r->TP (Zb zs i l k)->Q (r,[Zb zs i l k])):on (C f (.o t::as)) Q :=
 Z9 (h t tp) λx ⟨r,t',h1,h3,e⟩=>by
  obtain⟨zs,i,l,k,e',g⟩:=id h3;rw[e,e'];exact q r zs i l k h1 (e' ▸ h3)
def Td(d:Df)(w:W)(as:List Sl)(R:Sl->Prop):Prop:=∀zs i l k,TP (Zb zs i l k)->wF d w (.o (Zb zs i l k)::as) λx=>∃r t',R r/\TP t'/\x=(r,[t'])
def lq(P:T->Prop)(r:Sl):Prop:=∃t,r=.f t/\P t
def Zqi(t:T):Prop:=∀ps us,t≠.tup [.str "record",.tup ps,.tup us]
def Zxy(ns:ZD)(t:T):Prop:=Shp ns t/\Zqi t
theorem kb{w:W}(hD:Uv w.C){s:Str}(hs:s="whole" \/ s="truth" \/ s="text")(ns:ZD):Td V8 w [.f (.str s)] (lq (Zxy ns)):=by
 intro zs i l k tp;rcases hs with rfl | rfl | rfl
 .refine Ya rfl λD rt _=>?_;refine Zm hD tp XH XH λr zs i l k r0 r1 tp=>?_;refine Dv (-10 ^ 18) 7 r0 r1 rfl λa a0 a1 _=>?_;refine Zm hD tp XH XH λr zs i l k r0 r1 tp=>?_;refine Dv 0 (10 ^ 18) r0 r1 rfl λb b0 b1 _=>?_;exact rt _ _ ⟨_,_,⟨.tup [.str "whole",.int a,.int (if a+b<10 ^ 18 then a+b else 10 ^ 18)],rfl,.whole ⟨a0,by omega⟩ ⟨by split<;>omega,by split<;>omega⟩ (by split<;>omega),λ_ _ z=>(nomatch z)⟩,tp,rfl⟩
 .refine Ya rfl λD rt _=>?_;exact rt _ _ ⟨_,_,⟨_,rfl,.truth,λ_ _ z=>(nomatch z)⟩,tp,rfl⟩
 .refine Ya rfl λD rt _=>?_;refine Zm hD tp XH XH λr zs i l k r0 r1 tp=>?_;refine Dv 0 200 r0 r1 rfl λa a0 a1 _=>?_;exact rt _ _ ⟨_,_,⟨_,rfl,.text a0 a1,λ_ _ z=>(nomatch z)⟩,tp,rfl⟩
theorem two{r:Int}(h0:0<=r)(h:r<2):r=0\/r=1:=by omega
theorem Aw{x:Str}{n:Nat}(h:n*x.length<=9)(hx:∀c∈x.cps.toList,c<16 ^ 8):Sm (repS x n):=by
 refine⟨by rw[Tc];exact h,λc m=>?_⟩;rw[Dr]at m;obtain⟨l,ml,mc⟩:=List.mem_flatten.mp m;rw[(List.mem_replicate.mp ml).2]at mc;exact hx c mc
theorem Kw{w:W}(hD:Uv w.C){ns:ZD}{t:T}(ht:Shp ns t\/t=.tup [.str "record"]):Td Vg w [.f t] (lq (DFit t)):=by
 intro zs i l k tp;refine Ya rfl λD rt _=>?_;have no:∀K9 i' l' k',TP (Zb K9 i' l' k')->D.rt (.f (.tup [])) [.o (Zb K9 i' l' k'),.f t]:=λ_ _ _ _ tp=>rt _ _ ⟨_,_,⟨_,rfl,.no,λx z=>by cases z⟩,tp,rfl⟩;rcases ht with ht | rfl
 .cases ht with
  | record hp hs=>exact no _ _ _ _ tp
  | choice hp hs=>exact no _ _ _ _ tp
  | whole ha hb le =>
   refine Zm hD tp XH XH λr zs i l k r0 r1 tp=>?_;refine Zt (b:=decide (r=0)) (λ_=>no _ _ _ _ tp) λ_=>?_;refine Zm hD tp XH XH λr zs i l k r0 r1 tp=>?_;rcases two r0 r1 with rfl | rfl
   .exact rt _ _ ⟨_,_,⟨_,rfl,.is (.int ha),λx z=>by cases z;exact .whole (Int.le_refl _) le⟩,tp,rfl⟩
   .exact rt _ _ ⟨_,_,⟨_,rfl,.is (.int hb),λx z=>by cases z;exact .whole le (Int.le_refl _)⟩,tp,rfl⟩
  | text h0 h1 =>
   refine Zm hD tp XH XH λr zs i l k r0 r1 tp=>?_;refine Zt (b:=decide (r=0)) (λ_=>no _ _ _ _ tp) λ_=>?_;refine Zm hD tp XH XH λr zs i l k r0 r1 tp=>?_
   obtain⟨x,hx,e⟩:∃x:Str,(x.length=1/\∀c∈x.cps.toList,c<16 ^ 8)/\A7 (.str "ab") (.int r)=some (.str x):=by
    rcases two r0 r1 with rfl | rfl
    .exact⟨"a",⟨rfl,by decide⟩,rfl⟩
    .exact⟨"b",⟨rfl,by decide⟩,rfl⟩
   refine Z4 (a:=Sl.f (.str x)) (congrArg (Option.map Sl.f) e) ?_;refine Zm hD tp XH XH λr zs i l k r0 r1 tp=>?_;refine Eo (a:=Sl.f (.str (repS x _))) ⟨by split<;>omega,by split<;>omega,by omega⟩ ?_;exact rt _ _ ⟨_,_,⟨_,rfl,.is (.str (Aw (by rw[hx.1];split<;>omega) hx.2)),λx z=>by cases z;exact .text (by rw[Tc,hx.1];split<;>omega)⟩,tp,rfl⟩
  | truth =>
   refine Zm hD tp XH XH λr zs i l k r0 r1 tp=>?_;refine Zt (b:=decide (r=0)) (λ_=>no _ _ _ _ tp) λ_=>?_;refine Zm hD tp XH XH λr zs i l k r0 r1 tp=>?_;exact rt _ _ ⟨_,_,⟨_,rfl,.is .bl,λx z=>by cases z;exact .truth⟩,tp,rfl⟩
  | row ho h0 h1 =>
   refine Zm hD tp XH XH λr zs i l k r0 r1 tp=>?_;refine Zt (b:=decide (r=0)) (λ_=>no _ _ _ _ tp) λ_=>?_;exact rt _ _ ⟨_,_,⟨_,rfl,.is .nil,λx z=>by cases z;exact .row⟩,tp,rfl⟩
  | map ho h0 h1 =>
   refine Zm hD tp XH XH λr zs i l k r0 r1 tp=>?_;refine Zt (b:=decide (r=0)) (λ_=>no _ _ _ _ tp) λ_=>?_;exact rt _ _ ⟨_,_,⟨_,rfl,.is .nil,λx z=>by cases z;exact .map⟩,tp,rfl⟩
 .exact no _ _ _ _ tp
noncomputable def wd(n:Int):Str:=if n=1 then "b" else if n=2 then "c" else if n=3 then "d" else if n=9 then "j" else if n=10 then "ba" else if n=99 then "jj" else if n=100 then "baa" else if n=500 then "faa" else "jjj"
theorem wd_sm:∀n∈G9,(wd n).length<=3/\∀c∈(wd n).cps.toList,c<16 ^ 8:=by decide +kernel
theorem jw{w:W}{n:Int}(h:n∈G9):Rt Jg w [.f (.int n)]=some (.f (.str (wd n)),[]):=by
 simp only[G9,Yf,Ve,or_false]at h;rcases h with rfl | rfl | rfl | rfl | rfl | rfl | rfl | rfl | rfl<;>kernel_rfl
def Sw(C:Cs):Prop:=∀n∈G9,on (C "_law_word" [.f (.int n)]) λx=>x=(.f (.str (wd n)),[])
theorem Qk{C:Cs}(h:Sw C){n:Int}{Q:Sl×ZZ->Prop}(hn:n∈G9)(q:Q (.f (.str (wd n)),[])):on (C "_law_word" [.f (.int n)]) Q:=Z9 (h n hn) λx e=>by rw[e];exact q
theorem D8{a:Str}{n:Int}(ha:a.length=1/\∀c∈a.cps.toList,c<16 ^ 8)(h:n∈G9):Sm (a++wd n):=by
 obtain⟨h1,h2⟩:=wd_sm n h;refine⟨by rw[Str.length_append];omega,λc m=>?_⟩;rcases mem_cps_append.mp m with m | m
 .exact ha.2 c m
 .exact h2 c m
theorem Yq(XD:ZX)(k k':Key)(v:T):Zg (Yw XD k v) k'=if k=k' then some v else Zg XD k':=by
 unfold Yw
 split
 .rename_i h
  induction XD with
  | nil=>simp at h
  | cons p r ih =>
   rw[List.any_cons,Bool.or_eq_true]at h;unfold Zg at ih ⊢;rw[D2,List.find?_cons];by_cases e:p.1=k
   .rw[if_pos e];by_cases e':k=k'
    .rw[Gn (show (p.1,v).1=k' from e.trans e'),if_pos e'];rfl
    .rw[Gr (show ¬ (p.1,v).1=k' fromλz=>e' (e.symm.trans z)),if_neg e',List.find?_cons,Gr (show ¬ p.1=k' fromλz=>e' (e.symm.trans z))];by_cases hr:(r.any λp=>decide (p.1=k))=true
     .have:=ih hr;rw[if_neg e']at this;exact this
     .have em:(r.map λp=>if p.1=k then (p.1,v) else p)=r:=by
       conv=>rhs;rw[<-List.map_id r]
       refine List.map_congr_left λq mq=>?_;rw[if_neg]
       .rfl
       .intro z;exact hr (XX.mpr ⟨q,mq,Gn z⟩)
      rw[em]
   .rw[if_neg e];by_cases e':p.1=k'
    .rw[Gn e',List.find?_cons,Gn e',if_neg (λz=>e (e'.trans z.symm))]
    .rw[Gr e',List.find?_cons,Gr e'];exact ih (h.resolve_left (by simp[e]))
 .rename_i h
  unfold Zg;rw[List.find?_append];by_cases e':k=k'
  .subst e';rw[if_pos rfl];have:XD.find? (λp=>decide (p.1=k))=none:=XB.mpr λp mp z=>h (XX.mpr ⟨p,mp,z⟩);rw[this];simp
  .rw[if_neg e'];have:[(k,v)].find? (λp=>decide (p.1=k'))=none:=by simp[e']
   rw[this];simp
theorem ay{XD:ZX}{k:Key}{v:T}(h:k∈XD.map (·.1)):(Yw XD k v).map (·.1)=XD.map (·.1):=by
 unfold Yw;rw[if_pos]
 .rw[List.map_map];refine List.map_congr_left λp _=>?_;show (if p.1=k then (p.1,v) else p).1=p.1
  split<;>rfl
 .obtain⟨p,mp,e⟩:=Ry.mp h;exact XX.mpr ⟨p,mp,Gn e⟩
theorem ak{XD:ZX}{k:Key}{v:T}(h:¬ k∈XD.map (·.1)):(Yw XD k v).map (·.1)=XD.map (·.1)++[k]:=by
 unfold Yw;rw[if_neg]
 .rw[Xy];rfl
 .intro z;obtain⟨p,mp,e⟩:=XX.mp z;exact h (Ry.mpr ⟨p,mp,Dc e⟩)
theorem Wf:∀{XD:ZX} {ss:ZD},XD.map (·.1)=ss.map Sum.inr->Mj (XD.map λp=>G1 p.1)=some ss/\V4 (XD.map λp=>G1 p.1)=(if ss=[] then some [] else none)
 | [],[],_=>⟨rfl,rfl⟩
 | [],_::_,h=>by simp at h
 | _::_,[],h=>by simp at h
 | (k,t)::XD,s::ss,h=>by
  rw[D2,D2]at h
  injection h with h1 h2
  have h1:k=Sum.inr s:=h1;subst h1;obtain⟨g1,g2⟩:=Wf h2;refine⟨?_,?_⟩
  .show (Mj (XD.map λp=>G1 p.1)).map (s::·)=_;rw[g1];rfl
  .rw[if_neg XI];rfl
theorem get_mem{XD:ZX}{k:Key}(h:k∈XD.map (·.1)):∃t,Zg XD k=some t:=by
 unfold Zg;obtain⟨p,mp,e⟩:=Ry.mp h;cases f:XD.find? λp=>decide (p.1=k) with
 | none =>
  have:=XB.mp f p mp;simp[e]at this
 | some q=>exact⟨q.2,rfl⟩
theorem Lr{XD:ZX}{k:Key}{t:T}(h:Zg XD k=some t):k∈XD.map (·.1):=by
 unfold Zg at h;obtain⟨p,hp,_⟩:=Yx.mp h;have:=List.find?_some hp;exact Ry.mpr ⟨p,List.mem_of_find?_eq_some hp,Dc this⟩
theorem Pd{XD:ZX}{k:Key}{v:T}{p:Key×T}(h:p∈Yw XD k v):p∈XD\/p.2=v:=by
 unfold Yw at h
 split at h
 .obtain⟨q,mq,rfl⟩:=Ry.mp h
  split
  .exact .inr rfl
  .exact .inl mq
 .rcases qj.mp h with h | h
  .exact .inl h
  .cases Nm.mp h;exact .inr rfl
theorem M0{XD:ZX}{k:Key}{t:T}(h:Zg XD k=some t):∃p∈XD,p.2=t/\p.1=k:=by
 obtain⟨p,hp,rfl⟩:=Yx.mp h;have t:=List.find?_some hp;exact⟨p,List.mem_of_find?_eq_some hp,rfl,Dc t⟩
theorem Nr{XD:ZX}{x:Str}{v:T}{Q:T->Prop}(h:XD.length<sizeLine)(q:Q (.dct (Yw XD (.inr x) v))):on (putAt (.dct XD) (.str x) v) Q:=Eo h q
structure Gd(ns:ZD)(XD:ZX)(ss:ZD):Prop where
 k:XD.map (·.1)=ss.map Sum.inr
 d:ss.Nodup
 n:∀x∈ss,x∈ns
 p:∀p∈XD,Shp ns p.2
theorem Gd.len{ns ss:ZD}{XD:ZX}(h:Gd ns XD ss):XD.length=ss.length:=by have:=congrArg List.length h.k;simpa using this
theorem T7{XD:ZX}{ss:ZD}{x:Str}{v:T}(hk:XD.map (·.1)=ss.map Sum.inr)(d:ss.Nodup):∃us,(Yw XD (.inr x) v).map (·.1)=us.map Sum.inr/\us.Nodup/\(∀y,y∈us↔y∈ss\/y=x)/\(x∈ss->us=ss):=by
 by_cases e:x∈ss
 .refine⟨ss,by rw[ay (by rw[hk];exact List.mem_map_of_mem e),hk],d,λy=>⟨.inl,λz=>?_⟩,λ_=>rfl⟩;rcases z with z | rfl
  .exact z
  .exact e
 .refine⟨ss++[x],?_,?_,λy=>?_,λz=>absurd z e⟩
  .rw[ak,hk,Xy];rfl;rw[hk];intro z;obtain⟨y,my,ey⟩:=Ry.mp z;cases ey;exact e my
  .rw[List.nodup_append];refine⟨d,by simp,λa ma b mb=>?_⟩;cases Nm.mp mb;intro z;subst z;exact e ma
  .rw[qj,Nm]
theorem Gd.put{ns ss:ZD}{XD:ZX}{x:Str}{v:T}(h:Gd ns XD ss)(hx:x∈ns)(hv:Shp ns v):∃us,Gd ns (Yw XD (.inr x) v) us/\(∀y,y∈us↔y∈ss\/y=x)/\(x∈ss->us=ss):=by
 obtain⟨us,h1,h2,h3,h4⟩:=T7 (x:=x) (v:=v) h.k h.d;refine⟨us,⟨h1,h2,λy m=>?_,λp mp=>?_⟩,h3,h4⟩
 .rcases(h3 y).mp m with m | rfl
  .exact h.n y m
  .exact hx
 .rcases Pd mp with m | e
  .exact h.p p m
  .rw[e];exact hv
theorem Gd.get{ns ss:ZD}{XD:ZX}{x:Str}(h:Gd ns XD ss)(hx:x∈ss):∃t,Zg XD (.inr x)=some t/\Shp ns t:=by
 obtain⟨t,e⟩:=get_mem (XD:=XD) (k:=.inr x) (by rw[h.k];exact List.mem_map_of_mem hx);obtain⟨p,mp,rfl,_⟩:=M0 e;exact⟨_,e,h.p p mp⟩
theorem Gd.srt{ns ss:ZD}{XD:ZX}(h:Gd ns XD ss)(hl:ss.length<64):W6 (XD.map λp=>G1 p.1)=some ((SRT.G2 ss).map .str):=by
 obtain⟨g1,g2⟩:=Wf h.k
 have e:(XD.map λp=>G1 p.1)=ss.map .str:=by
  rw[show (XD.map λp=>G1 p.1)=(XD.map (·.1)).map G1 by rw[List.map_map];rfl,h.k,List.map_map];rfl
 rw[e];exact srt_strs ss hl
theorem Oy(ts:ZZ)(n:Nat):G6 ts none (some (n:Int))=ts.take n:=by
 unfold G6;rw[show HT.Yh ts.length 0 none=0 from rfl,HT.Lv,List.drop_zero,Nat.sub_zero];rcases Nat.le_total n ts.length with h | h
 .rw[Nat.min_eq_left h]
 .rw[Nat.min_eq_right h,T0l (Yk _),T0l h]
noncomputable def n5:ZL:=[1,2,9,10,99,100,999]
def La(r:Sl):Prop:=∃ms:ZL,r=.o (.lst (ms.map .int))/\ms.Nodup/\ms.length<=8/\∀m∈ms,m∈G9
theorem Ee{w:W}(hD:Uv w.C):Td Vk w [] La:=by
 intro zs i l k tp;refine Ya rfl λD rt _=>?_;refine Uy (λrest acc p=>∃rs ms zs i l k s0,rest=rs.map T.int/\acc=ms.map T.int/\(ms++rs).Sublist n5/\TP (Zb zs i l k)/\p=[s0,.o (Zb zs i l k)]) ⟨n5,[],zs,i,l,k,_,rfl,rfl,List.Sublist.refl _,tp,rfl⟩ (λx r acc p K hi ky kn=>?_) λacc p hi=>?_
 .obtain⟨rs,ms,zs,i,l,k,s0,hr,rfl,hs,tp,rfl⟩:=hi;cases rs with
  | nil=>cases hr
  | cons z rs =>
   cases hr;refine Zm hD tp XH XH λr zs i l k r0 r1 tp=>?_;refine Zt (b:=decide (r=0)) (λ_=>?_) λ_=>?_
   .exact ky _ _ ⟨rs,ms++[z],zs,i,l,k,_,rfl,by rw[Xy];rfl,by rw[XQ];exact hs,tp,rfl⟩
   .exact kn _ ⟨rs,ms,zs,i,l,k,_,rfl,rfl,(List.Sublist.append (List.Sublist.refl _) (List.sublist_cons_self _ _)).trans hs,tp,rfl⟩
 obtain⟨rs,ms,zs,i,l,k,s0,hr,rfl,hs,tp,rfl⟩:=hi;have hs:ms.Sublist n5:=(List.sublist_append_left _ _).trans hs
 have fin:∀(n:Nat) zs i l k,TP (Zb zs i l k)->∃r t',La r/\TP t'/\((Sl.o (.lst (G6 (ms.map .int) none (some (n:Int)))),[Zb zs i l k]):Sl×ZZ)=(r,[t']):=λn zs i l k tp=>by
  have h2:(ms.take n).Sublist n5:=(List.take_sublist _ _).trans hs;refine⟨_,_,⟨ms.take n,by rw[Oy,List.map_take],h2.nodup XA,D0 h2.length_le XA,λm mm=>?_⟩,tp,rfl⟩;exact(show ∀m∈n5,m∈G9 by decide) m (h2.subset mm)
 refine Zm hD tp XH XH λr zs i l k r0 r1 tp=>?_;refine Zt (b:=decide (r=0)) (λ_=>?_) λ_=>?_
 .exact rt _ _ (fin 8 _ _ _ _ tp)
 .exact rt _ _ (fin 3 _ _ _ _ tp)
theorem Ao{ns:ZD}{k:Bool}{ps:ZZ}(h:∀t∈ps,C9 ns k t){w:W}{Q:ZZ->P->Prop}(q:∀s0,Q ((ps.map Ut).map .int) [s0]) :
  Uu (λx s K=>on (asg (.v 0) x s) λs1=>if isNil .nil=true then wE w (.pr .ix (.cons (.v 0) (.cons (.k (.int 0)) .nil))) s1 λr s2=>Qz r λy=>K (some y) s2
   else wE w .nil s1 λr s2=>zv r λb=>if b=true then wE w (.pr .ix (.cons (.v 0) (.cons (.k (.int 0)) .nil))) s2 λr s3=>Qz r λy=>K (some y) s3 else K none s2) ps [] [.no] Q:=by
 refine Uh (λt=>.int (Ut t)) (λs=>∃s0,s=[s0]) ⟨_,rfl⟩ (λx mx s K hs hk=>?_) λs hs=>?_
 .obtain⟨s0,rfl⟩:=hs;cases h x mx with
  | mk hn hx ho hd=>refine ixHd ?_;exact hk _ ⟨_,rfl⟩
 .obtain⟨s0,rfl⟩:=hs;rw[show ps.map (λt=>T.int (Ut t))=(ps.map Ut).map .int by rw[List.map_map];rfl];exact q s0
def mh(r:Sl):Prop:=∃ss,r=.f (.tup ss)/\Stk ss
theorem Xn{w:W}(hD:Uv w.C){ns:ZD}{b:Bool}{ps:ZZ}(hp:Y2 ns b ps):Td Vn w [.f (.tup ps)] mh:=by
 intro zs i l k tp;refine Ya rfl λD rt _=>?_;refine Ao hp.p λs0=>?_;refine Uy (λrest acc p=>∃rs ms zs i l k s0,rest=rs.map T.int/\acc=ms.map T.int/\(ms++rs).Sublist [2,3,10,998]/\TP (Zb zs i l k)/\p=[s0,.o (.lst ((ps.map Ut).map .int)),.o (Zb zs i l k)]) ⟨[2,3,10,998],[],zs,i,l,k,_,rfl,rfl,List.Sublist.refl _,tp,rfl⟩ (λx r acc p K hi ky kn=>?_) λacc p hi=>?_
 .obtain⟨rs,ms,zs,i,l,k,s0,hr,rfl,hs,tp,rfl⟩:=hi;cases rs with
  | nil=>cases hr
  | cons z rs =>
   cases hr;have no:∀zs i l k s0,TP (Zb zs i l k)->K none [s0,.o (.lst ((ps.map Ut).map .int)),.o (Zb zs i l k)]:=λzs i l k s0 tp=>kn _ ⟨rs,ms,zs,i,l,k,_,rfl,rfl,(List.Sublist.append (List.Sublist.refl _) (List.sublist_cons_self _ _)).trans hs,tp,rfl⟩;refine Lc ?_;refine Zt (b:=!((ps.map Ut).any λy=>decide (y=z))) (λ_=>?_) λ_=>no _ _ _ _ _ tp;refine Zm hD tp XH XH λr zs i l k r0 r1 tp=>?_;refine Zt (b:=decide (r=0)) (λ_=>?_) λ_=>no _ _ _ _ _ tp;exact ky _ _ ⟨rs,ms++[z],zs,i,l,k,_,rfl,by rw[Xy];rfl,by rw[XQ];exact hs,tp,rfl⟩
 obtain⟨rs,ms,zs,i,l,k,s0,hr,rfl,hs,tp,rfl⟩:=hi;have hs:ms.Sublist [2,3,10,998]:=(List.sublist_append_left _ _).trans hs;exact rt _ _ ⟨_,_,⟨_,rfl,ms,rfl,D0 hs.length_le XA,λz m=>(show ∀m∈[(2:Int),3,10,998],Sh m by unfold Sh;decide) z (hs.subset m)⟩,tp,rfl⟩
def Sv(XD:ZX)(p:T):Prop:=∀(n:Int) (y o:Str) (d:T),p=.tup [.int n,.str y,.str o,.tup [d]]->∃s,Zg XD (.inr o)=some s/\Jc s d
def E7(ns:ZD)(XD:ZX)(b:Bool)(r:Sl):Prop:=∃ps,r=.f (.tup ps)/\Y2 ns b ps/\∀p∈ps,Sv XD p
theorem Y2.nil{ns:ZD}{b:Bool}:Y2 ns b []:=⟨B0 _,List.Pairwise.nil,λt m=>absurd m Ve⟩
set_option maxHeartbeats 1000000 in
theorem gm{w:W}(hD:Uv w.C)(hW:Sw w.C)(hN:Tp w.C "_law_numbers" [] La){ns:ZD}(hDf:∀t,Shp ns t\/t=.tup [.str "record"]->Tp w.C "_law_default" [.f t] (lq (DFit t)))(n0:0<ns.length)(n8:ns.length<=8){XD:ZX}(hk:∀x t,Zg XD x=some t->Shp ns t)(s:Str) :
  Td V9 w [.f (.lst (ns.map .str)),.f (.dct XD),.f (.str s)] (E7 ns XD (decide (s="record"))):=by
 intro zs i l k tp;have sl:=sizeLine_eq;refine Ya rfl λD rt _=>?_;refine F9 hN tp λr zs i l k hr tp=>?_;obtain⟨ms,rfl,nd,ln,mm⟩:=hr;refine Us (λrest p=>∃rs ps zs i l k s5 s6 s7,rest=rs.map T.int/\p=[.o (Zb zs i l k),.f (.lst (ns.map .str)),.f (.dct XD),.f (.str s),.o (.lst ps),s5,s6,s7]/\TP (Zb zs i l k)/\(ps.map Ut++rs).Nodup/\ps.length+rs.length<=8/\(∀z∈rs,z∈G9)/\∀p∈ps,C9 ns (decide (s="record")) p/\Sv XD p) ⟨ms,[],zs,i,l,k,_,_,_,rfl,rfl,tp,nd,by simpa using ln,mm,λt m=>absurd m Ve⟩ (λx r p D' hi nx _=>?_) λp hi=>?_
 .obtain⟨rs,ps,zs,i,l,k,s5,s6,s7,hr,rfl,tp,nd,ln,mm,hp⟩:=hi;cases rs with
  | nil=>cases hr
  | cons z rs =>
   cases hr;have hz:=mm z Yu;rw[B9]at ln
   have more:∀zs i l k s5 s6 s7 t,TP (Zb zs i l k)->C9 ns (decide (s="record")) t/\Sv XD t->Ut t=z->D'.nx [.o (Zb zs i l k),.f (.lst (ns.map .str)),.f (.dct XD),.f (.str s),.o (.lst (ps++[t])),s5,s6,s7]:=λzs i l k s5 s6 s7 t tp ht e=>nx _ ⟨rs,ps++[t],zs,i,l,k,s5,s6,s7,rfl,rfl,tp,by rw[Xy,XQ];show (ps.map Ut++Ut t::rs).Nodup;rw[e];exact nd,by rw[Qw,ZE];omega,λz m=>mm z (Y3 _ m),λp m=>by
    rcases qj.mp m with m | m
    .exact hp p m
    .cases Nm.mp m;exact ht⟩
   have l0:(0:Int)<((ns.map T.str).length:Nat):=by rw[Yc];omega
   have l1:(((ns.map T.str).length:Nat):Int)<=1000000:=by rw[Yc];omega
   refine Zm hD tp l0 l1 λr zs i l k r0 r1 tp=>?_;refine Vf r0 r1 λo ho=>?_;refine Zm hD tp XH XH λr zs i l k r0 r1 tp=>?_;refine Vf (ss:=["f","g"]) r0 r1 λa ha=>?_
   have ha:a.length=1/\∀c∈a.cps.toList,c<16 ^ 8:=by
    simp only[Yf,Ve,or_false]at ha;rcases ha with rfl | rfl<;>exact⟨rfl,by decide⟩
   refine Qk hW hz ?_;have hs:=D8 ha hz;refine Sq (by have:=hs.1;rw[Str.length_append]at this;omega) ?_;show wS w _ _ [.o (Zb zs i l k),.f (.lst (ns.map .str)),.f (.dct XD),.f (.str s),.o (.lst ps),.f (.int z),.f (.str o),.f (.tup [.int z,.str (a++wd z),.str o])] _;refine Zt (b:=decide (s="record")) (λh=>?_) λh=>?_
   .have h':=Dc h;subst h';refine F9 (hDf ((Zg XD (.inr o)).getD (.tup [.str "record"])) ?_) tp λr zs i l k hr tp=>?_
    .cases e:Zg XD (.inr o) with
     | none=>exact .inr rfl
     | some t=>exact .inl (hk _ t e)
    obtain⟨d,rfl,hd,hx⟩:=hr;refine Vr XH ?_;refine more _ _ _ _ _ _ _ _ tp ⟨.mk hz hs ho hd,λn y o' d' e=>?_⟩ rfl;cases e;have hx:=hx d' rfl;cases eg:Zg XD (.inr o) with
    | none=>rw[eg]at hx;cases hx
    | some t=>rw[eg]at hx;exact⟨t,rfl,hx⟩
   .refine Vr XH ?_;exact more _ _ _ _ _ _ _ _ tp ⟨by rw[h];exact .mk hz hs ho trivial,λn y o' d' e=>by cases e⟩ rfl
 obtain⟨rs,ps,zs,i,l,k,s5,s6,s7,hr,rfl,tp,nd,ln,mm,hp⟩:=hi;exact rt _ _ ⟨_,_,⟨_,rfl,⟨by omega,(List.sublist_append_left _ _).nodup nd,λp m=>(hp p m).1⟩,λp m=>(hp p m).2⟩,tp,rfl⟩
noncomputable def reqT:T->Option Str
 | .tup [_,_,.str o,.tup []]=>some o
 | _=>none
noncomputable def ofT:T->Option Str
 | .tup (_::_::.str o::_)=>some o
 | _=>none
noncomputable def req(ps:ZZ):ZD:=ps.filterMap reqT
def Qx(ps:ZZ):ZD:=ps.filterMap ofT
noncomputable def Mm(p:Str->ZH):T->ZH
 | .tup (.str s::.tup ps::_)=>if s="record" then (if (req ps).all (λo=>(p o).isSome)=true then some (1+((req ps).map λo=>(p o).getD 0).sum) else none) else (((Qx ps).filterMap p).min?).map (1+·)
 | _=>some 1
theorem sr{l:List Nat}{n:Nat}(h:n∈l):n<=l.sum:=by
 induction l with
 | nil=>cases h
 | cons a l ih =>
  rw[List.sum_cons];rcases Yf.mp h with rfl | h
  .omega
  .have:=ih h;omega
theorem sum_le{l:ZD}{f g:ZA}(h:∀x∈l,f x<=g x):(l.map f).sum<=(l.map g).sum:=by
 induction l with
 | nil=>exact Yk _
 | cons a l ih =>
  rw[D2,D2,List.sum_cons,List.sum_cons];have:=h a Yu;have:=ih λx m=>h x (Y3 _ m);omega
theorem Mc{l:List Nat}{m:Nat}:l.min?=some m↔m∈l/\∀b∈l,m<=b:=List.min?_eq_some_iff
theorem min_ex{l:List Nat}(h:l≠[]):∃m,l.min?=some m:=by
 cases l with
 | nil=>exact absurd rfl h
 | cons a l=>exact⟨_,rfl⟩
theorem zk{p q:Str->ZH}{t:T}{c:Nat}(n:Mm p t=some c)(h:∀o c',p o=some c'->c'<c->∃cg,cg<=c'/\q o=some cg):∃c1,c1<=c/\Mm q t=some c1:=by
 unfold Mm at n ⊢
 split at n
 .split at n
  .rename_i e
   rw[if_pos e]
   split at n
   .rename_i al
    have n:=Je n
    have go:∀o,o∈req _->∃cg,cg<=(p o).getD 0/\q o=some cg:=λo m=>by
     obtain⟨c',e'⟩:=Option.isSome_iff_exists.mp (K8.mp al o m);have:=sr (List.mem_map_of_mem (f:=λo=>(p o).getD 0) m);rw[e']at this ⊢;exact h o c' e' (by have:c'<=_:=this;omega)
    rw[if_pos (K8.mpr λo m=>by obtain⟨cg,_,e''⟩:=go o m;rw[e''];rfl)];refine⟨_,?_,rfl⟩;have:=sum_le (l:=req _) (f:=λo=>(q o).getD 0) (g:=λo=>(p o).getD 0) λo m=>by obtain⟨cg,l,e''⟩:=go o m;rw[e''];exact l
    omega
   .cases n
  .rename_i e
   rw[if_neg e];obtain⟨m,e1,e2⟩:=Yx.mp n;obtain⟨m1,_⟩:=Mc.mp e1;obtain⟨o,mo,eo⟩:=List.mem_filterMap.mp m1;obtain⟨cg,l,e''⟩:=h o m eo XH;have mq:cg∈(Qx _).filterMap q:=List.mem_filterMap.mpr ⟨o,mo,e''⟩;obtain⟨m',em⟩:=min_ex (List.ne_nil_of_mem mq);refine⟨1+m',?_,by rw[em];rfl⟩;have:=(Mc.mp em).2 _ mq;omega
 .exact⟨1,by have:=Je n;omega,rfl⟩
inductive ni(XD:ZX):Str->Nat->Prop
 | mk{x:Str}{t:T}{c:Nat}(p:Str->ZH)(h:∀o c',p o=some c'->ni XD o c')(e:Zg XD (.inr x)=some t)(n:Mm p t=some c):ni XD x c
def Mn(XD:ZX)(x:Str)(c:Nat):Prop:=ni XD x c/\∀c',ni XD x c'->c<=c'
theorem Mn.ex{XD:ZX}{x:Str}:∀(n:Nat),ni XD x n->∃c,c<=n/\Mn XD x c:=by
 intro n
 induction n using Nat.strongRecOn with
 | ind n ih =>
  intro d;by_cases h:∃c',c'<n/\ni XD x c'
  .obtain⟨c',l,d'⟩:=h;obtain⟨c,l',m⟩:=ih c' l d';exact⟨c,by omega,m⟩
  .exact⟨n,Yk _,d,λc' d'=>Nat.le_of_not_lt λz=>h ⟨c',z,d'⟩⟩
theorem Mn.one{XD:ZX}{x:Str}{a b:Nat}(h:Mn XD x a)(g:Mn XD x b):a=b:=Nat.le_antisymm (h.2 b g.1) (g.2 a h.1)
open Classical in
noncomputable def rk(XD:ZX)(ss:ZD)(c:Nat):Nat:=ss.countP λy=>decide (∃c',c'<c/\Mn XD y c')
theorem Ky{p q:Str->Bool}(h:∀x,p x=true->q x=true){x:Str}(hq:q x=true)(hp:p x=false):∀{l:ZD},x∈l->l.countP p<l.countP q
 | y::l,m=>by
  have le:=List.countP_mono_left (l:=l) λy _ hy=>h y hy;rw[List.countP_cons,List.countP_cons];by_cases e:x=y
  .subst e;rw[hq,hp,if_pos rfl,if_neg D5];omega
  .have:=Ky h hq hp ((Yf.mp m).resolve_left e);have:=h y;cases a:p y with
   | true=>rw[h y a];omega
   | false=>rw[if_neg D5];split<;>omega
theorem ni.in{XD:ZX}{ss:ZD}(hk:XD.map (·.1)=ss.map Sum.inr){x:Str}{c:Nat}(d:ni XD x c):x∈ss:=by
 cases d with
 | mk p h e n =>
  have:=Lr e;rw[hk]at this;obtain⟨y,my,ey⟩:=Ry.mp this;cases ey;exact my
open Classical in
theorem rk_lt{XD:ZX}{ss:ZD}(hk:XD.map (·.1)=ss.map Sum.inr){x:Str}{a b:Nat}(m:Mn XD x a)(l:a<b):rk XD ss a<rk XD ss b :=
 Ky (λy h=>Gn (let ⟨c,h1,h2⟩:=Dc h;⟨c,by omega,h2⟩)) (x:=x) (Gn ⟨a,l,m⟩) (Gr λ⟨c,h1,h2⟩=>by have:=m.one h2;omega) (m.1.in hk)
open Classical in
theorem yq{XD:ZX}{ss:ZD}(hk:XD.map (·.1)=ss.map Sum.inr){x:Str}{a:Nat}(m:Mn XD x a):rk XD ss a<ss.length:=by
 have:=Ky (q:=λ_=>true) (λy _=>rfl) (x:=x) (p:=λy=>decide (∃c',c'<a/\Mn XD y c')) rfl (Gr λ⟨c,h1,h2⟩=>by have:=m.one h2;omega) (m.1.in hk);rw[show ss.countP (λ_=>true)=ss.length by simp]at this;exact this
def rg(XD:ZX)(ss:ZD)(k:Nat)(q:Str->ZH):Prop:=∀x c,Mn XD x c->rk XD ss c<k->∃c',c'<=c/\q x=some c'
def Snd(XD:ZX)(q:Str->ZH):Prop:=∀x c,q x=some c->ni XD x c
theorem rg.step{XD:ZX}{ss:ZD}(hk:XD.map (·.1)=ss.map Sum.inr){k:Nat}{q:Str->ZH}(g:rg XD ss k q){x:Str}{t:T}{c:Nat}(m:Mn XD x c)(l:rk XD ss c<k+1)(e:Zg XD (.inr x)=some t):∃c1,c1<=c/\Mm q t=some c1:=by
 obtain⟨d,_⟩:=m;cases d with
 | mk p h e' n =>
  rw[e]at e';cases e';refine zk n λo c' eo lc=>?_;obtain⟨c0,l0,m0⟩:=Mn.ex c' (h o c' eo);have:=rk_lt hk m0 (show c0<c by omega);obtain⟨cg,l2,e2⟩:=g o c0 m0 XH;exact⟨cg,by omega,e2⟩
theorem rg.is{XD:ZX}{ss:ZD}(hk:XD.map (·.1)=ss.map Sum.inr){q:Str->ZH}(g:rg XD ss ss.length q)(s:Snd XD q){x:Str}{c:Nat}:q x=some c↔Mn XD x c:=by
 refine⟨λe=>?_,λm=>?_⟩
 .obtain⟨c0,l0,m0⟩:=Mn.ex c (s x c e);obtain⟨c',l',e'⟩:=g x c0 m0 (yq hk m0);rw[e]at e';cases e';rw[show c=c0 by omega];exact m0
 .obtain⟨c',l',e'⟩:=g x c m (yq hk m);rw[e',show c'=c from Nat.le_antisymm l' (m.2 c' (s x c' e'))]
theorem xy{XD:ZX}{ss:ZD}(hk:XD.map (·.1)=ss.map Sum.inr){q q':Str->ZH}(g:rg XD ss ss.length q)(s:Snd XD q)(g':rg XD ss ss.length q')(s':Snd XD q')(x:Str):q x=q' x:=by
 cases e:q x with
 | some c=>exact((g'.is hk s').mpr ((g.is hk s).mp e)).symm
 | none =>
  cases e':q' x with
  | none=>rfl
  | some c=>rw[(g.is hk s).mpr ((g'.is hk s').mp e')]at e;cases e
theorem Pg{p:Str->ZH}{t:T}{c:Nat}(h:Mm p t=some c):0<c:=by
 unfold Mm at h
 split at h
 .split at h
  .split at h
   .have:=Je h;omega
   .cases h
  .obtain⟨m,_,e⟩:=Yx.mp h;omega
 .have:=Je h;omega
theorem iniP{a:Int}{zs:ZL}{Q:Sl->Prop}(q:Q (.f (.bl (zs.any λz=>decide (z=a))))):on ((Cd .isin (.int a) (.lst (zs.map .int))).map λr=>Sl.f (.bl r)) Q:=Z4 (by show (inT (.int a) (.lst (zs.map .int))).map _=_;rw[Ij];rfl) q
theorem sumP{zs:ZL}{Q:Sl->Prop}(q:Q (.f (.int zs.sum))):on (Ld .sum [.lst (zs.map .int)]) Q:=Z4 (by show (V4 _).map _=_;rw[PV.ints_map];rfl) q
theorem minIP{zs:ZL}{Q:Sl->Prop}(h:zs≠[])(q:∀m∈zs,(∀a∈zs,m<=a)->Q (.f (.int m))):on (Ld .min [.lst (zs.map .int)]) Q:=by
 cases zs with
 | nil=>exact absurd rfl h
 | cons z r =>
  have e:minL (z::r)=some (r.foldl (λa b=>if b<a then b else a) z):=rfl;refine Z4 ?_ (q _ (Ll e).1 (Ll e).2);show zg ((z::r).map .int)=_;unfold zg;rw[PV.ints_map];rfl
noncomputable def numT:T->ZH
 | .int i=>some i.toNat
 | _=>none
noncomputable def pf(ps:ZX)(x:Str):ZH:=(Zg ps (.inr x)).bind numT
def c8(ps:ZX):Prop:=∀p∈ps,∃i:Nat,0<i/\p.2=.int i
theorem c8.get{ps:ZX}(h:c8 ps){x:Str}{t:T}(e:Zg ps (.inr x)=some t):∃i:Nat,0<i/\t=.int i:=by
 obtain⟨p,mp,rfl,_⟩:=M0 e;exact h p mp
theorem c8.pf{ps:ZX}(h:c8 ps)(x:Str):(Zg ps (.inr x)=none/\pf ps x=none)\/∃i:Nat,0<i/\Zg ps (.inr x)=some (.int i)/\pf ps x=some i:=by
 cases e:Zg ps (.inr x) with
 | none=>exact .inl ⟨rfl,by unfold K38.pf;rw[e];rfl⟩
 | some t =>
  obtain⟨i,i0,rfl⟩:=h.get e;exact .inr ⟨i,i0,rfl,by unfold K38.pf;rw[e];rfl⟩
theorem C9.asR{ns:ZD}{t:T}(h:C9 ns true t):∃(n:Int) (x o:Str) (ds:ZZ),t=.tup [.int n,.str x,.str o,.tup ds]/\n∈G9/\Sm x/\o∈ns/\rb (.tup ds):=by
 cases h with
 | @mk n x o ds hn hx ho hd =>
  match ds,hd with
  | [d],hd =>
   have hd:rb d:=hd;cases hd with
   | no=>exact⟨n,x,o,[],rfl,hn,hx,ho,.no⟩
   | is h=>exact⟨n,x,o,_,rfl,hn,hx,ho,.is h⟩
theorem C9.cho{ns:ZD}{t:T}(h:C9 ns false t):∃(n:Int) (x o:Str),t=.tup [.int n,.str x,.str o]/\n∈G9/\Sm x/\o∈ns:=by
 cases h with
 | @mk n x o ds hn hx ho hd =>
  match ds,hd with
  | [],hd=>exact⟨n,x,o,rfl,hn,hx,ho⟩
def Du(l:List Nat):ZL:=l.map λn:Nat=>(n:Int)
theorem Md:∀l:List Nat,(Du l).sum=((l.sum:Nat):Int)
 | []=>rfl
 | a::l=>by
  show (a:Int)+(Du l).sum=_;rw[Md l,List.sum_cons,Int.natCast_add]
theorem bz(l:List Nat):((Du l).any λz=>decide (z=0))=!l.all λn=>decide (n≠0):=by
 induction l with
 | nil=>rfl
 | cons a l ih =>
  show (decide ((a:Int)=0) || (Du l).any λz=>decide (z=0))=!(decide (a≠0)&&l.all λn=>decide (n≠0));rw[ih];by_cases h:a=0
  .subst h;rfl
  .rw[Gr XH,Gn h];rfl
def Mo(ps:ZX)(t:T)(v:Int):Prop:=v=(((Mm (pf ps) t).getD 0:Nat):Int)
def nq(C:Cs):Prop:=∀{ns:ZD} {t:T} {ps:ZX},Shp ns t->c8 ps->on (C "_law_price" [.f t,.o (.dct ps)]) λx=>∃v:Int,Mo ps t v/\x=(.f (.int v),[.dct ps])
set_option maxHeartbeats 1000000 in
theorem y8{w:W}{ns:ZD}{t:T}{ps:ZX}(ht:Shp ns t)(hp:c8 ps):wF V7 w [.f t,.o (.dct ps)] λx=>∃v:Int,Mo ps t v/\x=(.f (.int v),[.dct ps]):=by
 refine Ya rfl λD rt _=>?_;cases ht with
 | whole a b c=>exact rt _ _ ⟨1,rfl,rfl⟩
 | truth=>exact rt _ _ ⟨1,rfl,rfl⟩
 | text a b=>exact rt _ _ ⟨1,rfl,rfl⟩
 | row a b c=>exact rt _ _ ⟨1,rfl,rfl⟩
 | map a b c=>exact rt _ _ ⟨1,rfl,rfl⟩
 | @record fs ss hf hs =>
  refine S4 (λt=>(reqT t).map λo=>T.int (((pf ps o).getD 0:Nat):Int)) (λp=>∃s0,p=[s0,.o (.dct ps)]) ⟨_,rfl⟩ (λx mx p K hi hk=>?_) λp hi=>?_
  .obtain⟨s0,rfl⟩:=hi;obtain⟨n,y,o,ds,rfl,_,_,_,hd⟩:=(hf.p x mx).asR;cases ds with
   | cons d ds=>exact hk _ ⟨_,rfl⟩
   | nil =>
    have hk:=hk [.f (.tup [.int n,.str y,.str o,.tup []]),.o (.dct ps)] ⟨_,rfl⟩;show K (some ((Zg ps (.inr o)).getD (.int 0))) _;have hk:K (some (.int (((pf ps o).getD 0:Nat):Int))) _:=hk;rcases hp.pf o with ⟨e1,e2⟩ | ⟨i,_,e1,e2⟩
    .rw[e2]at hk;rw[e1];exact hk
    .rw[e2]at hk;rw[e1];exact hk
  obtain⟨s0,rfl⟩:=hi
  have ez:fs.filterMap (λt=>(reqT t).map λo=>T.int (((pf ps o).getD 0:Nat):Int))=(Du ((req fs).map λo=>(pf ps o).getD 0)).map .int:=by
   unfold Du req;rw[List.map_map,List.map_map,List.map_filterMap]
   rfl
  rw[ez];refine iniP ?_;rw[bz]
  have ea:((req fs).map λo=>(pf ps o).getD 0).all (λn=>decide (n≠0))=(req fs).all λo=>(pf ps o).isSome:=by
   rw[List.all_map]
   congr 1
   funext o
   show decide ((pf ps o).getD 0≠0)=_;rcases hp.pf o with ⟨_,e2⟩ | ⟨i,i0,_,e2⟩
   .rw[e2];rfl
   .rw[e2];exact Gn (by show i≠0;omega)
  rw[ea];refine Zt (b:=!(req fs).all λo=>(pf ps o).isSome) (λh=>?_) λh=>?_
  .refine rt _ _ ⟨0,?_,rfl⟩;show _=(((if (req fs).all (λo=>(pf ps o).isSome)=true then some (1+((req fs).map λo=>(pf ps o).getD 0).sum) else none).getD 0:Nat):Int);rw[Py h];rfl
  .refine sumP ?_;refine rt _ _ ⟨_,?_,rfl⟩;show _=(((if (req fs).all (λo=>(pf ps o).isSome)=true then some (1+((req fs).map λo=>(pf ps o).getD 0).sum) else none).getD 0:Nat):Int);rw[Ae h,Md];show _=((1+_:Nat):Int);omega
 | @choice fs ss b hf hs =>
  refine S4 (λt=>((ofT t).bind (pf ps)).map λn:Nat=>T.int (n:Int)) (λp=>∃s0,p=[s0,.o (.dct ps)]) ⟨_,rfl⟩ (λx mx p K hi hk=>?_) λp hi=>?_
  .obtain⟨s0,rfl⟩:=hi;obtain⟨n,y,o,rfl,_,_,_⟩:=(hf.p x mx).cho;have hk:=hk [.f (.tup [.int n,.str y,.str o]),.o (.dct ps)] ⟨_,rfl⟩;have hk:K ((pf ps o).map λn:Nat=>T.int (n:Int)) _:=hk;refine Zt (b:=(Zg ps (.inr o)).isSome) (λh=>?_) λh=>?_
   .rcases hp.pf o with ⟨e1,e2⟩ | ⟨i,_,e1,e2⟩
    .rw[e1]at h;cases h
    .refine Jw e1 ?_;rw[e2]at hk;exact hk
   .rcases hp.pf o with ⟨e1,e2⟩ | ⟨i,_,e1,e2⟩
    .rw[e2]at hk;exact hk
    .rw[e1]at h;cases h
  obtain⟨s0,rfl⟩:=hi
  have ez:fs.filterMap (λt=>((ofT t).bind (pf ps)).map λn:Nat=>T.int (n:Int))=(Du ((Qx fs).filterMap (pf ps))).map .int:=by
   unfold Du Qx;rw[List.map_map,List.filterMap_filterMap,List.map_filterMap]
   rfl
  rw[ez];refine Zt (b:=((Du ((Qx fs).filterMap (pf ps))).map T.int).isEmpty) (λh=>?_) λh=>?_
  .have:(Qx fs).filterMap (pf ps)=[]:=by
    cases e:(Qx fs).filterMap (pf ps) with
    | nil=>rfl
    | cons a l=>rw[e]at h;cases h
   refine rt _ _ ⟨0,?_,rfl⟩;show _=((((((Qx fs).filterMap (pf ps)).min?).map (1+·)).getD 0:Nat):Int);rw[this];rfl
  .refine minIP (by intro z;rw[z]at h;cases h) λm mm ml=>?_;obtain⟨m',mm',rfl⟩:=Ry.mp mm
   have em:((Qx fs).filterMap (pf ps)).min?=some m':=Mc.mpr ⟨mm',λb mb=>by
    have:=ml (b:Int) (List.mem_map_of_mem mb);omega⟩
   refine rt _ _ ⟨_,?_,rfl⟩;show _=((((((Qx fs).filterMap (pf ps)).min?).map (1+·)).getD 0:Nat):Int);rw[em];show _=((1+m':Nat):Int);omega
theorem Ea{ps:ZX}{x y:Str}{z:Nat}:pf (Yw ps (.inr y) (.int (z:Int))) x=if y=x then some z else pf ps x:=by
 unfold pf;rw[Yq];by_cases e:y=x
 .subst e;rw[if_pos rfl,if_pos rfl];show some (Int.toNat (z:Int))=_;rw[XF]
 .rw[if_neg (λz=>e (Sum.inr.inj z)),if_neg e]
structure Prs(XD:ZX)(ss:ZD)(ps:ZX)(us:ZD):Prop where
 k:ps.map (·.1)=us.map Sum.inr
 d:us.Nodup
 n:∀x∈us,x∈ss
 p:c8 ps
 s:Snd XD (pf ps)
theorem Ue:∀{us ss:ZD},us.Nodup->(∀x∈us,x∈ss)->us.length<=ss.length
 | [],_,_,_=>B0 _
 | x::us,ss,d,h=>by
  obtain⟨d1,d2⟩:=List.nodup_cons.mp d;have:=Ue (ss:=ss.erase x) d2 λy m=>(List.mem_erase_of_ne (λz:y=x=>d1 (by rw[<-z];exact m))).mpr (h y (Y3 _ m));rw[List.length_erase_of_mem (h x Yu)]at this;have:0<ss.length:=List.length_pos_of_mem (h x Yu);rw[B9];omega
theorem Prs.len{XD ps:ZX}{ss us:ZD}(h:Prs XD ss ps us):ps.length<=ss.length:=by
 have e:ps.length=us.length:=by have:=congrArg List.length h.k;simpa using this
 rw[e];exact Ue h.d h.n
def Sj(XD:ZX)(ss:ZD)(x:Sl×ZZ):Prop:=∃ps,c8 ps/\ps.length<=8/\rg XD ss ss.length (pf ps)/\Snd XD (pf ps)/\x=(.o (.dct ps),[])
def Fe(C:Cs):Prop:=∀{root:Str} {XD:ZX} {ss:ZD},Gd ss XD ss->ss.length<=8->on (C "_law_prices" [.f (.tup [.str root,.dct XD])]) (Sj XD ss)
set_option maxHeartbeats 1000000 in
theorem X5{w:W}(hP:nq w.C){root:Str}{XD:ZX}{ss:ZD}(h:Gd ss XD ss)(h8:ss.length<=8):wF Vl w [.f (.tup [.str root,.dct XD])] (Sj XD ss):=by
 have sl:=sizeLine_eq;have hl:=h.len;have e7:((List.range (Int.toNat ((XD.length:Nat):Int))).map λk=>T.int (k:Nat)).length=ss.length:=by rw[Yc,XY];exact hl
 refine Ya rfl λD rt _=>?_;refine rngP XH XH ?_;refine Us (λrest p=>∃ps us s2 s3 s4,p=[.f (.tup [.str root,.dct XD]),.o (.dct ps),s2,s3,s4]/\Prs XD ss ps us/\rest.length<=ss.length/\rg XD ss (ss.length-rest.length) (pf ps)) ⟨[],[],_,_,_,rfl,⟨rfl,List.Pairwise.nil,λx m=>absurd m Ve,λp m=>absurd m Ve,λx c z=>nomatch z⟩,by omega,λx c m z=>?_⟩ (λx r p D' hi nx _=>?_) λp hi=>?_
 .rw[e7,Nat.sub_self]at z;cases z
 .obtain⟨ps,us,s2,s3,s4,rfl,hs,hr,hR⟩:=hi;rw[B9]at hr hR;refine Hl (h.srt XH) ?_;refine Us (λrest p=>∃rs ps us s3 s4,rest=rs.map T.str/\p=[.f (.tup [.str root,.dct XD]),.o (.dct ps),.f x,s3,s4]/\Prs XD ss ps us/\rg XD ss (ss.length-(r.length+1)) (pf ps)/\(∀y c,Mn XD y c->rk XD ss c<ss.length-(r.length+1)+1->y∈rs\/∃c',c'<=c/\pf ps y=some c')/\∀y∈rs,y∈ss) ⟨SRT.G2 ss,ps,us,_,_,rfl,rfl,hs,hR,λy c m _=>.inl ((SRT.Ys ss).mem_iff.mpr (m.1.in h.k)),λy m=>(SRT.Ys ss).mem_iff.mp m⟩ (λx1 r1 p D1 hi nx1 _=>?_) λp hi=>?_
  .obtain⟨rs,ps,us,s3,s4,hr1,rfl,hs,hR,hR1,hrs⟩:=hi;cases rs with
   | nil=>cases hr1
   | cons y rs =>
    cases hr1;obtain⟨t,e,ht⟩:=h.get (hrs y Yu);refine Jw e ?_;refine Z9 (hP ht hs.p) λo ho=>?_;obtain⟨v,hv,rfl⟩:=ho;show wS w _ _ [.f (.tup [.str root,.dct XD]),.o (.dct ps),.f x,.f (.str y),.f (.int v)] _;have hrs':∀z∈rs,z∈ss:=λz m=>hrs z (Y3 _ m);refine Zt (b:=decide (0<v)) (λg=>?_) λg=>?_
    .have g:=Dc g
     obtain⟨n,en⟩:∃n,Mm (pf ps) t=some n:=by
      cases q:Mm (pf ps) t with
      | some n=>exact⟨n,rfl⟩
      | none=>unfold Mo at hv;rw[q]at hv;have:v=0:=hv;omega
     have hv:v=(n:Int):=by unfold Mo at hv;rw[en]at hv;exact hv
     subst hv;have dn:ni XD y n:=.mk (pf ps) hs.s e en
     have go:∀z:Nat,0<z->z<=n->ni XD y z->(∀c,pf ps y=some c->z<=c)->D1.nx [.f (.tup [.str root,.dct XD]),.o (.dct (Yw ps (.inr y) (.int (z:Int)))),.f x,.f (.str y),.f (.int (n:Int))]:=λz z0 zn zd zo=>by
      obtain⟨us',k1,k2,k3,_⟩:=T7 (x:=y) (v:=.int (z:Int)) hs.k hs.d;refine nx1 _ ⟨rs,_,us',_,_,rfl,rfl,⟨k1,k2,λa m=>?_,λp m=>?_,λa c m=>?_⟩,λa c m l=>?_,λa c m l=>?_,hrs'⟩
      .rcases(k3 a).mp m with m | rfl
       .exact hs.n a m
       .exact hrs _ Yu
      .rcases Pd m with m | e
       .exact hs.p p m
       .exact⟨z,z0,e⟩
      .rw[Ea]at m
       split at m
       .rename_i ey;subst ey;cases m;exact zd
       .exact hs.s a c m
      .obtain⟨c',l',e'⟩:=hR a c m l;rw[Ea]
       split
       .rename_i ey;subst ey
        have:=zo c' e';exact⟨z,by omega,rfl⟩
       .exact⟨c',l',e'⟩
      .rw[Ea];by_cases ey:y=a
       .subst ey;obtain⟨c1,l1,e1⟩:=hR.step h.k m l e;rw[en]at e1;cases e1;rw[if_pos rfl];exact .inr ⟨z,by omega,rfl⟩
       .rw[if_neg ey];rcases hR1 a c m l with q | q
        .exact .inl ((Yf.mp q).resolve_left λz=>ey z.symm)
        .exact .inr q
     have hlen:ps.length<sizeLine:=by have:=hs.len;omega
     have n0:0<n:=Pg en;rcases hs.p.pf y with ⟨e1,e2⟩ | ⟨j,j0,e1,e2⟩
     .refine Z4 (a:=Sl.f (.int (if (n:Int)<n then (n:Int) else n))) (by show Ld .min [.int (n:Int),(Zg ps (.inr y)).getD (.int (n:Int))]=_;rw[e1];rfl) ?_;refine Nr hlen ?_;rw[if_neg (Int.lt_irrefl _)];exact go n n0 (Yk _) dn λc ec=>by rw[e2]at ec;cases ec
     .refine Z4 (a:=Sl.f (.int (if (j:Int)<n then (j:Int) else n))) (by show Ld .min [.int (n:Int),(Zg ps (.inr y)).getD (.int (n:Int))]=_;rw[e1];rfl) ?_;refine Nr hlen ?_;by_cases q:(j:Int)<n
      .rw[if_pos q];exact go j j0 XH (hs.s y j e2) λc ec=>by rw[e2]at ec;cases ec;exact Yk _
      .rw[if_neg q];exact go n n0 (Yk _) dn λc ec=>by rw[e2]at ec;cases ec;omega
    .have g:=of_decide_eq_false g;refine nx1 _ ⟨rs,ps,us,_,_,rfl,rfl,hs,hR,λa c m l=>?_,hrs'⟩;rcases hR1 a c m l with q | q
     .rcases Yf.mp q with rfl | q
      .obtain⟨c1,l1,e1⟩:=hR.step h.k m l e;have:=Pg e1;unfold Mo at hv;rw[e1]at hv;have:v=(c1:Int):=hv;omega
      .exact .inl q
     .exact .inr q
  .obtain⟨rs,ps,us,s3,s4,hr1,rfl,hs,hR,hR1,hrs⟩:=hi;refine nx _ ⟨ps,us,_,_,_,rfl,hs,by omega,λa c m l=>?_⟩;rw[show ss.length-r.length=ss.length-(r.length+1)+1 by omega]at l;rcases hR1 a c m l with z | z
   .cases rs with
    | nil=>cases z
    | cons _ _=>cases hr1
   .exact z
 .obtain⟨ps,us,s2,s3,s4,rfl,hs,hr,hR⟩:=hi;exact rt _ _ ⟨ps,hs.p,by have:=hs.len;omega,hR,hs.s,rfl⟩
abbrev LV:=Option (Nat×T)
noncomputable def encL:LV->T
 | none=>.non
 | some q=>.tup [.int (q.1:Int),q.2]
noncomputable def decL:T->LV
 | .tup [.int c,v]=>some (c.toNat,v)
 | _=>none
theorem dec_enc(r:LV):decL (encL r)=r:=by
 cases r with
 | none=>rfl
 | some q=>show some (Int.toNat (q.1:Int),q.2)=_;rw[XF]
def Jn(ls:ZX)(x:Str):LV:=(Zg ls (.inr x)).bind decL
noncomputable def cst(ls:ZX)(x:Str):ZH:=(Jn ls x).map (·.1)
def Ls(ss:ZD)(ls:ZX):Prop:=∀x∈ss,Zg ls (.inr x)=some (encL (Jn ls x))
theorem i4{w:W}{n:Int}{x o:Str}{ds:ZZ}:wF Yt w [.f (.tup [.int n,.str x,.str o,.tup ds])] λy=>y=(.f (.bl (!ds.isEmpty)),[]):=by
 refine Ya rfl λD rt _=>?_;exact rt _ _ rfl
def Zqh(C:Cs):Prop:=∀{n:Int} {x o:Str} {ds:ZZ},on (C "may_be_left_out" [.f (.tup [.int n,.str x,.str o,.tup ds])]) λy=>y=(.f (.bl (!ds.isEmpty)),[])
theorem Xq:∀rs:List LV,Gm .non (rs.map encL)=some (!rs.all (·.isSome))
 | []=>rfl
 | r::rs=>by
  show (eqT (encL r) .non).bind _=_;rw[show eqT (encL r) .non=some (!r.isSome) by cases r<;>rfl];show (Gm .non (rs.map encL)).map _=_;rw[Xq rs];show some (!r.isSome || !rs.all (·.isSome))=some (!(r.isSome&&rs.all (·.isSome)));rw[Bool.not_and]
theorem innP{rs:List LV}{Q:Sl->Prop}(q:Q (.f (.bl (!rs.all (·.isSome))))):on ((Cd .isin .non (.lst (rs.map encL))).map λr=>Sl.f (.bl r)) Q:=by
 refine Z4 ?_ q;show (Gm .non (rs.map encL)).map _=_;rw[Xq];rfl
noncomputable def xg(ls:ZX):T->LV
 | .tup [_,_,.str o,.tup ds]=>match ds with
  | []=>Jn ls o
  | d::_=>some (0,d)
 | _=>none
def nu(R:Str->Nat->T->Prop)(p:T)(q:Nat×T):Prop:=∃(n:Int) (y o:Str) (ds:ZZ),p=.tup [.int n,.str y,.str o,.tup ds]/\((ds=[]/\R o q.1 q.2)\/∃d,ds=[d]/\q=(0,d))
def B1(R:Str->Nat->T->Prop):ZZ->List (Nat×T)->Prop
 | [],[]=>True
 | p::ps,q::qs=>nu R p q/\B1 R ps qs
 | _,_=>False
inductive N6(R:Str->Nat->T->Prop):T->Nat->T->Prop
 | whole{a b:Int}:N6 R (.tup [.str "whole",.int a,.int b]) 1 (.int a)
 | truth:N6 R (.tup [.str "truth"]) 1 (.bl false)
 | text {n:Int}:N6 R (.tup [.str "text",.int n]) 1 (.str "")
 | row {o:Str} {n:Int}:N6 R (.tup [.str "row",.str o,.int n]) 1 (.tup [])
 | map {o:Str} {n:Int}:N6 R (.tup [.str "map",.str o,.int n]) 1 (.tup [])
 | record {ps us:ZZ} (qs:List (Nat×T)) (h:B1 R ps qs):N6 R (.tup [.str "record",.tup ps,.tup us]) (1+(qs.map (·.1)).sum) (.tup [.tup (qs.map (·.2)),.tup []])
 | choice {ps us:ZZ} {b:Bool} {n:Int} {y o:Str} {c:Nat} {v:T} (m:.tup [.int n,.str y,.str o]∈ps) (h:R o c v):N6 R (.tup [.str "choice",.tup ps,.tup us,.bl b]) (1+c) (.tup [.str "arm",.int n,v])
theorem B1.mono{R R':Str->Nat->T->Prop}(m:∀o c v,R o c v->R' o c v):∀{ps:ZZ} {qs:List (Nat×T)},B1 R ps qs->B1 R' ps qs
 | [],[],h=>h
 | _::_,[],h=>h
 | [],_::_,h=>h
 | p::ps,q::qs,h=>by
  obtain⟨⟨n,y,o,ds,e,g⟩,h2⟩:=h;exact⟨⟨n,y,o,ds,e,g.imp (λ⟨a,b⟩=>⟨a,m _ _ _ b⟩) id⟩,B1.mono m h2⟩
theorem N6.mono{R R':Str->Nat->T->Prop}(m:∀o c v,R o c v->R' o c v){t:T}{c:Nat}{v:T}(h:N6 R t c v):N6 R' t c v:=by
 cases h with
 | whole=>exact .whole
 | truth=>exact .truth
 | text=>exact .text
 | row=>exact .row
 | map=>exact .map
 | record qs h=>exact .record qs (h.mono m)
 | choice a h=>exact .choice a (m _ _ _ h)
def Val(XD:ZX):Nat->Str->Nat->T->Prop
 | 0,_,_,_=>False
 | k+1,x,c,v=>∃t,Zg XD (.inr x)=some t/\N6 (Val XD k) t c v
structure F7(ls:ZX)(t:T)(r:LV):Prop where
 c:r.map (·.1)=Mm (cst ls) t
 v:∀q,r=some q->N6 (λo c v=>Jn ls o=some (c,v)) t q.1 q.2
theorem Kx{ns:ZD}{ls:ZX}:∀{fs:ZZ},(∀f∈fs,C9 ns true f)->(fs.map (xg ls)).all (·.isSome)=(req fs).all λo=>(cst ls o).isSome
 | [],_=>rfl
 | f::fs,h=>by
  obtain⟨m,x,o,ds,rfl,_⟩:=(h f Yu).asR;have ih:=Kx (ls:=ls) λf m=>h f (Y3 _ m);cases ds with
  | cons d ds=>show (true&&(fs.map (xg ls)).all (·.isSome))=_;rw[ih];rfl
  | nil =>
   show ((Jn ls o).isSome&&(fs.map (xg ls)).all (·.isSome))=((cst ls o).isSome&&(req fs).all λo=>(cst ls o).isSome);rw[ih];unfold cst;rw[Option.isSome_map]
noncomputable def got(ls:ZX)(f:T):Nat×T:=(xg ls f).getD (0,.non)
theorem dg{ns:ZD}{ls:ZX}:∀{fs:ZZ},(∀f∈fs,C9 ns true f)->((fs.map (got ls)).map (·.1)).sum=((req fs).map λo=>(cst ls o).getD 0).sum
 | [],_=>rfl
 | f::fs,h=>by
  obtain⟨m,x,o,ds,rfl,_⟩:=(h f Yu).asR;have ih:=dg (ls:=ls) λf m=>h f (Y3 _ m);cases ds with
  | cons d ds=>show 0+((fs.map (got ls)).map (·.1)).sum=_;rw[ih,Nat.zero_add];rfl
  | nil =>
   show ((Jn ls o).getD (0,.non)).1+((fs.map (got ls)).map (·.1)).sum=(cst ls o).getD 0+((req fs).map λo=>(cst ls o).getD 0).sum;rw[ih];unfold cst;cases Jn ls o<;>rfl
theorem dk{ns:ZD}{ls:ZX}:∀{fs:ZZ},(∀f∈fs,C9 ns true f)->(∀f∈fs,(xg ls f).isSome=true)->B1 (λo c v=>Jn ls o=some (c,v)) fs (fs.map (got ls))
 | [],_,_=>trivial
 | f::fs,h,g=>by
  obtain⟨m,x,o,ds,rfl,_,_,_,hd⟩:=(h f Yu).asR;refine⟨⟨m,x,o,ds,rfl,?_⟩,dk (λf m=>h f (Y3 _ m)) λf m=>g f (Y3 _ m)⟩;cases hd with
  | no =>
   refine .inl ⟨rfl,?_⟩;obtain⟨q,e⟩:=Option.isSome_iff_exists.mp (show (Jn ls o).isSome=true from g _ Yu);show Jn ls o=some (((Jn ls o).getD (0,.non)).1,((Jn ls o).getD (0,.non)).2);rw[e];rfl
  | is h=>exact .inr ⟨_,rfl,rfl⟩
def Zqu(C:Cs):Prop:=∀{ss:ZD} {ls:ZX} {fs us:ZZ},Y2 ss true fs->Ls ss ls->on (C "least_record" [.f (.tup fs),.f (.dct ls)]) λx=>∃r,F7 ls (.tup [.str "record",.tup fs,.tup us]) r/\x=(.f (encL r),[])
set_option maxHeartbeats 1000000 in
theorem Br{w:W}(hL:Zqh w.C){ss:ZD}{ls:ZX}{fs us:ZZ}(hf:Y2 ss true fs)(hs:Ls ss ls):wF Y6 w [.f (.tup fs),.f (.dct ls)] λx=>∃r,F7 ls (.tup [.str "record",.tup fs,.tup us]) r/\x=(.f (encL r),[]):=by
 have sl:=sizeLine_eq;have fl:=hf.l;have en:Mm (cst ls) (.tup [.str "record",.tup fs,.tup us])=if (req fs).all (λo=>(cst ls o).isSome)=true then some (1+((req fs).map λo=>(cst ls o).getD 0).sum) else none:=rfl
 refine Ya rfl λD rt _=>?_;refine Uh (λf=>encL (xg ls f)) (λp=>∃s0,p=[s0,.f (.dct ls)]) ⟨_,rfl⟩ (λf mf p K hp hk=>?_) λp hp=>?_
 .obtain⟨s0,rfl⟩:=hp;obtain⟨m,x,o,ds,rfl,_,_,ho,hd⟩:=(hf.p f mf).asR;refine Z9 hL λy e=>?_;subst e;cases ds with
  | cons d ds =>
   cases hd;exact hk _ ⟨_,rfl⟩
  | nil =>
   refine Jw (hs o ho) ?_;exact hk [.f (.tup [.int m,.str x,.str o,.tup []]),.f (.dct ls)] ⟨_,rfl⟩
 obtain⟨s0,rfl⟩:=hp;show wS w _ _ [.f (.tup fs),.f (.dct ls),.o (.lst (fs.map λf=>encL (xg ls f)))] _;rw[show (fs.map λf=>encL (xg ls f))=(fs.map (xg ls)).map encL by rw[List.map_map];rfl];refine innP ?_;refine Zt (b:=!(fs.map (xg ls)).all (·.isSome)) (λh=>?_) λh=>?_
 .refine rt _ _ ⟨none,⟨?_,λq z=>(nomatch z)⟩,rfl⟩;rw[en, <-Kx hf.p,Py h];rfl
 .have h:=Ae h;have hg:∀f∈fs,(xg ls f).isSome=true:=λf m=>K8.mp h _ (List.mem_map_of_mem m)
  have el:(fs.map (xg ls)).map encL=(fs.map (got ls)).map λq=>.tup [.int (q.1:Int),q.2]:=by
   rw[List.map_map,List.map_map];refine List.map_congr_left λf mf=>?_;obtain⟨q,e⟩:=Option.isSome_iff_exists.mp (hg f mf);show encL (xg ls f)=.tup [.int ((got ls f).1:Int),(got ls f).2];unfold got;rw[e];rfl
  have len:(fs.map (got ls)).length<=8:=by rw[Yc];exact fl
  have A:=dk hf.p hg;have S:=dg (ls:=ls) hf.p;rw[el];generalize fs.map (got ls)=qs at len A S ⊢;refine Uy (λrest acc p=>∃s0,p=[s0]/\∃rs,rest=rs.map (λq:Nat×T=>.tup [.int (q.1:Int),q.2])/\acc++rs.map (λq=>T.int (q.1:Int))=qs.map λq=>T.int (q.1:Int)) ⟨_,rfl,qs,rfl,rfl⟩ (λx r acc p K hi ky kn=>?_) λacc p hi=>?_
  .obtain⟨s0,rfl,rs,hr,ea⟩:=hi;cases rs with
   | nil=>cases hr
   | cons q rs =>
    cases hr;exact ky _ _ ⟨_,rfl,rs,rfl,by rw[XQ];exact ea⟩
  obtain⟨s0,rfl,rs,hr,ea⟩:=hi;have:rs=[]:=by cases rs with | nil=>rfl | cons _ _=>cases hr
  subst this;rw[List.map_nil,XJ]at ea;rw[ea,show (qs.map λq=>T.int (q.1:Int))=(Du (qs.map (·.1))).map .int by unfold Du;rw[List.map_map,List.map_map];rfl];refine sumP ?_;refine Uy (λrest acc p=>∃s0,p=[s0]/\∃rs,rest=rs.map (λq:Nat×T=>.tup [.int (q.1:Int),q.2])/\acc++rs.map (·.2)=qs.map (·.2)) ⟨_,rfl,qs,rfl,rfl⟩ (λx r acc p K hi ky kn=>?_) λacc p hi=>?_
  .obtain⟨s0,rfl,rs,hr,ea⟩:=hi;cases rs with
   | nil=>cases hr
   | cons q rs =>
    cases hr;exact ky _ _ ⟨_,rfl,rs,rfl,by rw[XQ];exact ea⟩
  obtain⟨s0,rfl,rs,hr,ea⟩:=hi;have:rs=[]:=by cases rs with | nil=>rfl | cons _ _=>cases hr
  subst this;rw[List.map_nil,XJ]at ea;rw[ea];refine rt _ _ ⟨some (1+(qs.map (·.1)).sum,.tup [.tup (qs.map (·.2)),.tup []]),⟨?_,λq z=>?_⟩,?_⟩
  .rw[en, <-Kx hf.p,h,S];rfl
  .cases z;exact .record qs A
  .rw[Md];have e:(1:Int)+(((qs.map (·.1)).sum:Nat):Int)=((1+(qs.map (·.1)).sum:Nat):Int):=XH
   rw[e];rfl
noncomputable def enc(c:Int×Int×Str):T:=.tup [.int c.1,.int c.2.1,.str c.2.2]
theorem Pq:∀cs:List (Int×Int×Str),Ww (cs.map enc)=some (cs.map λc=>(c.1,c.2.1))
 | []=>rfl
 | c::cs=>by show (Ww (cs.map enc)).map _=_;rw[Pq cs];rfl
theorem A3:∀{hs:List (Int×Int)},hs≠[]->∃m∈hs,∀q∈hs,Yv q m=false
 | [],h=>absurd rfl h
 | [a],_=>⟨a,Yu,λq m=>by cases Nm.mp m;unfold Yv;rw[if_pos rfl];exact Gr (Int.lt_irrefl _)⟩
 | a::b::r,_=>by
  obtain⟨m,mm,h⟩:=A3 (hs:=b::r) XI;cases e:Yv a m with
  | false =>
   refine⟨m,Y3 _ mm,λq mq=>?_⟩;rcases Yf.mp mq with rfl | mq
   .exact e
   .exact h q mq
  | true =>
   refine⟨a,Yu,λq mq=>?_⟩;rcases Yf.mp mq with rfl | mq
   .unfold Yv;rw[if_pos rfl];exact Gr (Int.lt_irrefl _)
   .have:=h q mq;unfold Yv at this e ⊢
    split at this<;>split at e<;>split<;>simp only[decide_eq_true_eq,decide_eq_false_iff_not]at *<;>omega
theorem minTP{cs:List (Int×Int×Str)}{Q:Sl->Prop}(h:cs≠[])(nd:(cs.map (·.2.1)).Nodup)(q:∀c∈cs,(∀c'∈cs,c.1<=c'.1)->Q (.f (enc c))):on (Ld .min [.lst (cs.map enc)]) Q:=by
 obtain⟨m,mm,hm⟩:=A3 (hs:=cs.map λc=>(c.1,c.2.1)) (by simpa using h);obtain⟨c0,mc0,rfl⟩:=Ry.mp mm
 have nd':(cs.map λc=>(c.1,c.2.1)).Nodup:=by
  have:((cs.map λc=>(c.1,c.2.1)).map (·.2)).Nodup:=by rw[List.map_map];exact nd
  exact List.Pairwise.of_map (f:=(·.2)) (λa b h e=>h (by rw[e])) this
 have ez:(cs.map λc=>(c.1,c.2.1)).zip (cs.map enc)=cs.map λc=>((c.1,c.2.1),enc c):=by rw[List.zip_map']
 have ei:V4 (cs.map enc)=none:=by
  cases cs with
  | nil=>exact absurd rfl h
  | cons _ _=>rfl
 cases ef:cs.find? ((λp:(Int×Int)×T=>(cs.map λc=>(c.1,c.2.1)).all λq=>!Yv q p.1) ∘ λc=>((c.1,c.2.1),enc c)) with
 | none =>
  refine absurd ?_ (XB.mp ef c0 mc0);exact K8.mpr λq mq=>by rw[hm q mq];rfl
 | some c =>
  have al:=List.find?_some ef;refine Z4 (a:=Sl.f (enc c)) ?_ (q c (List.mem_of_find?_eq_some ef) λc' mc'=>?_)
  rotate_left
  .have:=K8.mp (show ((cs.map λc=>(c.1,c.2.1)).all λq=>!Yv q (c.1,c.2.1))=true from al) (c'.1,c'.2.1) (Ry.mpr ⟨c',mc',rfl⟩);unfold Yv at this
   split at this
   .rename_i e;have e:c'.1=c.1:=e;omega
   .simp only[Bool.not_eq_true',decide_eq_false_iff_not]at this;omega
  show zg (cs.map enc)=_;unfold zg;rw[ei];show (ic (cs.map enc)).map _=_;unfold ic;rw[Pq];show (if (cs.map λc=>(c.1,c.2.1)).Nodup then _ else none).map _=_;rw[if_pos nd',ez,List.find?_map,ef]
  rfl
noncomputable def Cu(ls:ZX):T->Option (Int×Int×Str)
 | .tup [.int n,_,.str o]=>(Jn ls o).map λq=>((q.1:Int),n,o)
 | _=>none
theorem Ie{ns:ZD}{ls:ZX}:∀{fs:ZZ},(∀f∈fs,C9 ns false f)->((fs.filterMap (Cu ls)).map (·.1))=Du ((Qx fs).filterMap (cst ls))
 | [],_=>rfl
 | f::fs,h=>by
  obtain⟨m,x,o,rfl,_⟩:=(h f Yu).cho;have ih:=Ie (ls:=ls) λf m=>h f (Y3 _ m);have e1:Qx (.tup [.int m,.str x,.str o]::fs)=o::Qx fs:=rfl;rw[e1];cases q:Jn ls o with
  | none =>
   have e2:Cu ls (.tup [.int m,.str x,.str o])=none:=by show (Jn ls o).map _=_;rw[q];rfl
   have e3:cst ls o=none:=by unfold cst;rw[q];rfl
   rw[List.filterMap_cons_none e2,List.filterMap_cons_none e3,ih]
  | some q' =>
   have e2:Cu ls (.tup [.int m,.str x,.str o])=some ((q'.1:Int),m,o):=by show (Jn ls o).map _=_;rw[q];rfl
   have e3:cst ls o=some q'.1:=by unfold cst;rw[q];rfl
   rw[List.filterMap_cons_some e2,List.filterMap_cons_some e3,D2,ih];rfl
theorem cx{ns:ZD}{ls:ZX}:∀{fs:ZZ},(∀f∈fs,C9 ns false f)->((fs.filterMap (Cu ls)).map (·.2.1)).Sublist (fs.map Ut)
 | [],_=>.slnil
 | f::fs,h=>by
  obtain⟨m,x,o,rfl,_⟩:=(h f Yu).cho;have ih:=cx (ls:=ls) λf m=>h f (Y3 _ m);cases q:Jn ls o with
  | none =>
   have e2:Cu ls (.tup [.int m,.str x,.str o])=none:=by show (Jn ls o).map _=_;rw[q];rfl
   rw[List.filterMap_cons_none e2];exact ih.cons _
  | some q' =>
   have e2:Cu ls (.tup [.int m,.str x,.str o])=some ((q'.1:Int),m,o):=by show (Jn ls o).map _=_;rw[q];rfl
   rw[List.filterMap_cons_some e2];exact ih.cons_cons _
def Zqa(C:Cs):Prop:=∀{ss:ZD} {ls:ZX} {fs us:ZZ} {b:Bool},Y2 ss false fs->Ls ss ls->on (C "least_choice" [.f (.tup fs),.f (.dct ls)]) λx=>∃r,F7 ls (.tup [.str "choice",.tup fs,.tup us,.bl b]) r/\x=(.f (encL r),[])
set_option maxHeartbeats 1000000 in
theorem Bs{w:W}{ss:ZD}{ls:ZX}{fs us:ZZ}{b:Bool}(hf:Y2 ss false fs)(hs:Ls ss ls):wF Y7 w [.f (.tup fs),.f (.dct ls)] λx=>∃r,F7 ls (.tup [.str "choice",.tup fs,.tup us,.bl b]) r/\x=(.f (encL r),[]):=by
 have en:Mm (cst ls) (.tup [.str "choice",.tup fs,.tup us,.bl b])=(((Qx fs).filterMap (cst ls)).min?).map (1+·):=rfl;refine Ya rfl λD rt _=>?_;refine S4 (λf=>(Cu ls f).map enc) (λp=>∃s0,p=[s0,.f (.dct ls)]) ⟨_,rfl⟩ (λf mf p K hp hk=>?_) λp hp=>?_
 .obtain⟨s0,rfl⟩:=hp;obtain⟨m,y,o,rfl,_,_,ho⟩:=(hf.p f mf).cho;have hk:=hk [.f (.tup [.int m,.str y,.str o]),.f (.dct ls)] ⟨_,rfl⟩;have hk:K (((Jn ls o).map λq=>((q.1:Int),m,o)).map enc) _:=hk;have e:=hs o ho;refine Jw e ?_;cases q:Jn ls o with
  | none=>rw[q]at hk;exact hk
  | some q' =>
   rw[q]at hk e;refine Jw e ?_;exact hk
 obtain⟨s0,rfl⟩:=hp;rw[show fs.filterMap (λf=>(Cu ls f).map enc)=(fs.filterMap (Cu ls)).map enc by rw[List.map_filterMap]];have H1:=Ie (ls:=ls) hf.p;have H2:=cx (ls:=ls) hf.p
 have H3:∀c∈fs.filterMap (Cu ls),∃y q,T.tup [.int c.2.1,.str y,.str c.2.2]∈fs/\c.2.2∈ss/\Jn ls c.2.2=some q/\c.1=(q.1:Int):=λc mc=>by
  obtain⟨f,mf,e⟩:=List.mem_filterMap.mp mc;obtain⟨m,y,o,rfl,_,_,ho⟩:=(hf.p f mf).cho;obtain⟨q,e1,e2⟩:=Yx.mp (show (Jn ls o).map (λq=>((q.1:Int),m,o))=some c from e);subst e2;exact⟨y,q,mf,ho,e1,rfl⟩
 generalize fs.filterMap (Cu ls)=cs at H1 H2 H3 ⊢;show wS w _ _ [.f (.tup fs),.f (.dct ls),.o (.lst (cs.map enc)),.no] _;refine Zt (b:=decide ((((cs.map enc).length:Nat):Int)=0)) (λh=>?_) λh=>?_
 .have h:=Dc h;rw[Yc]at h;have:cs=[]:=List.eq_nil_of_length_eq_zero XH;subst this;refine rt _ _ ⟨none,⟨?_,λq z=>(nomatch z)⟩,rfl⟩;rw[en];cases e:(Qx fs).filterMap (cst ls) with
  | nil=>rfl
  | cons a l=>rw[e]at H1;cases H1
 .have h:=of_decide_eq_false h;rw[Yc]at h;have ne:cs≠[]:=by intro z;subst z;exact h rfl
  refine minTP ne (H2.nodup hf.d) λc mc cm=>?_;obtain⟨y,q,mf,ho,eq,ec⟩:=H3 c mc;have e:=hs _ ho;rw[eq]at e;refine Jw e ?_;refine rt _ _ ⟨some (1+q.1,.tup [.str "arm",.int c.2.1,q.2]),⟨?_,λq' z=>?_⟩,?_⟩
  .rw[en]
   have mq:q.1∈(Qx fs).filterMap (cst ls):=by
    have:(q.1:Int)∈Du ((Qx fs).filterMap (cst ls)):=by rw[<-H1, <-ec];exact List.mem_map_of_mem mc
    obtain⟨k,mk,ek⟩:=Ry.mp this;have:k=q.1:=XH
    rw[<-this];exact mk
   have em:((Qx fs).filterMap (cst ls)).min?=some q.1:=Mc.mpr ⟨mq,λb mb=>by
    have:(b:Int)∈cs.map (·.1):=by rw[H1];exact List.mem_map_of_mem mb
    obtain⟨c',mc',ec'⟩:=Ry.mp this;have:=cm c' mc';omega⟩
   rw[em];rfl
  .cases z;exact .choice mf eq
  .have:(1:Int)+c.1=((1+q.1:Nat):Int):=XH
   rw[this];rfl
def PLBy(C:Cs):Prop:=∀{ss:ZD} {ls:ZX} {t:T},Shp ss t->Ls ss ls->on (C "least_by" [.f t,.f (.dct ls)]) λx=>∃r,F7 ls t r/\x=(.f (encL r),[])
theorem T3{ls:ZX}{t v:T}(h:Mm (cst ls) t=some 1)(s:N6 (λo c v=>Jn ls o=some (c,v)) t 1 v):F7 ls t (some (1,v)):=⟨h.symm,λq z=>by cases z;exact s⟩
theorem Pn{w:W}(hR:Zqu w.C)(hC:Zqa w.C){ss:ZD}{ls:ZX}{t:T}(ht:Shp ss t)(hs:Ls ss ls):wF Jk w [.f t,.f (.dct ls)] λx=>∃r,F7 ls t r/\x=(.f (encL r),[]):=by
 refine Ya rfl λD rt _=>?_;cases ht with
 | whole a b c=>exact rt _ _ ⟨_,T3 rfl .whole,rfl⟩
 | truth=>exact rt _ _ ⟨_,T3 rfl .truth,rfl⟩
 | text a b=>exact rt _ _ ⟨_,T3 rfl .text,rfl⟩
 | row a b c=>exact rt _ _ ⟨_,T3 rfl .row,rfl⟩
 | map a b c=>exact rt _ _ ⟨_,T3 rfl .map,rfl⟩
 | @record ps us hp _ =>
  refine Z9 (hR (us:=us) hp hs) λx h=>?_;obtain⟨u,h,rfl⟩:=h;exact rt _ _ ⟨u,h,rfl⟩
 | @choice ps us b hp _ =>
  refine Z9 (hC (us:=us) (b:=b) hp hs) λx h=>?_;obtain⟨u,h,rfl⟩:=h;exact rt _ _ ⟨u,h,rfl⟩
noncomputable def Sb(L:List (Str×T))(acc:ZX):ZX:=(L.map λp=>((Sum.inr p.1:Key),p.2)).foldl (λacc kv=>Yw acc kv.1 kv.2) acc
theorem Wj:∀L:List (Str×T),Ug (L.map λp=>.tup [.str p.1,p.2])=some (L.map λp=>((Sum.inr p.1:Key),p.2))
 | []=>rfl
 | p::L=>by show (some (Sum.inr p.1:Key)).bind _=_;show (Ug (L.map λp=>.tup [.str p.1,p.2])).map _=_;rw[Wj L];rfl
theorem Zqg{L:List (Str×T)}{Q:Sl->Prop}(q:Q (.o (.dct (Sb L [])))):on (Ld .dict [.lst (L.map λp=>.tup [.str p.1,p.2])]) Q:=Z4 (by show (Ug _).map _=_;rw[Wj];rfl) q
theorem Ln{y:Str}:∀{L:List (Str×T)} {acc:ZX},y∉L.map (·.1)->Zg (Sb L acc) (.inr y)=Zg acc (.inr y)
 | [],_,_=>rfl
 | p::L,acc,h=>by
  show Zg (Sb L (Yw acc (.inr p.1) p.2)) (.inr y)=_;rw[D2,Yf]at h;rw[Ln (λz=>h (.inr z)),Yq,if_neg (λz=>h (.inl (Sum.inr.inj z).symm))]
theorem E3{y:Str}:∀{L:List (Str×T)} {acc:ZX},y∈L.map (·.1)->∃t,Zg (Sb L acc) (.inr y)=some t/\(y,t)∈L
 | [],_,h=>absurd h Ve
 | p::L,acc,h=>by
  show ∃t,Zg (Sb L (Yw acc (.inr p.1) p.2)) (.inr y)=some t/\_;by_cases e:y∈L.map (·.1)
  .obtain⟨t,h1,h2⟩:=E3 (acc:=Yw acc (.inr p.1) p.2) e;exact⟨t,h1,Y3 _ h2⟩
  .rw[D2,Yf]at h;have h:=h.resolve_right e;subst h;exact⟨p.2,by rw[Ln e,Yq,if_pos rfl],Yu⟩
theorem Gd.keys{ns ss:ZD}{XD:ZX}(h:Gd ns XD ss):(XD.map λp=>G1 p.1)=ss.map .str:=by
 rw[show (XD.map λp=>G1 p.1)=(XD.map (·.1)).map G1 by rw[List.map_map];rfl,h.k,List.map_map];rfl
theorem S5{body:T->P->(Option T->P->Prop)->Prop}{xs ys acc:ZZ}{p:P}{Q:ZZ->P->Prop}(e:xs=ys)(h:Uu body ys acc p Q):Uu body xs acc p Q:=by rw[e];exact h
theorem Zzc{w:W}{root x:Str}{XD:ZX}:wF Ga w [.f (.tup [.str root,.dct XD]),.f (.str x)] λy=>y=(.f ((Zg XD (.inr x)).getD .non),[]):=by
 refine Ya rfl λD rt _=>?_;exact rt _ _ rfl
def Zqo(C:Cs):Prop:=∀{root x:Str} {XD:ZX},on (C "form_of" [.f (.tup [.str root,.dct XD]),.f (.str x)]) λy=>y=(.f ((Zg XD (.inr x)).getD .non),[])
structure LsK(XD:ZX)(ss:ZD)(k:Nat)(ls:ZX):Prop where
 l:Ls ss ls
 g:rg XD ss k (cst ls)
 s:Snd XD (cst ls)
 v:∀x q,Jn ls x=some q->Val XD k x q.1 q.2
def PLOf(C:Cs):Prop:=∀{root:Str} {XD:ZX} {ss:ZD},Gd ss XD ss->ss.length<=8->on (C "leasts_of" [.f (.tup [.str root,.dct XD])]) λx=>∃ls,LsK XD ss ss.length ls/\x=(.o (.dct ls),[])
theorem bh{L:List (Str×T)}{x:Str}(h:x∉L.map (·.1)):Jn (Sb L []) x=none:=by
 unfold Jn;rw[Ln h];rfl
set_option maxHeartbeats 1000000 in
theorem Lh{w:W}(hF:Zqo w.C)(hB:PLBy w.C){root:Str}{XD:ZX}{ss:ZD}(h:Gd ss XD ss)(h8:ss.length<=8):wF V5 w [.f (.tup [.str root,.dct XD])] λx=>∃ls,LsK XD ss ss.length ls/\x=(.o (.dct ls),[]):=by
 have hl:=h.len;have e7:((List.range (Int.toNat ((XD.length:Nat):Int))).map λk=>T.int (k:Nat)).length=ss.length:=by rw[Yc,XY];exact hl
 refine Ya rfl λD rt _=>?_;refine S5 h.keys ?_;refine Uh (λt=>.tup [t,.non]) (λp=>∃s0,p=[s0]) ⟨_,rfl⟩ (λf mf p K hp hk=>?_) λp hp=>?_
 .obtain⟨s0,rfl⟩:=hp;exact hk _ ⟨_,rfl⟩
 obtain⟨s0,rfl⟩:=hp;rw[show (ss.map T.str).map (λt=>T.tup [t,.non])=(ss.map λx=>(x,T.non)).map λp=>.tup [.str p.1,p.2] by rw[List.map_map,List.map_map];rfl];refine Zqg ?_;have em:(ss.map λx=>(x,T.non)).map (·.1)=ss:=by rw[List.map_map];exact List.map_id _
 have f0:∀x∈ss,Zg (Sb (ss.map λx=>(x,T.non)) []) (.inr x)=some .non:=λx mx=>by
  obtain⟨t,e,m⟩:=E3 (y:=x) (L:=ss.map λx=>(x,T.non)) (acc:=[]) (by rw[em];exact mx);obtain⟨z,_,ez⟩:=Ry.mp m;cases ez;exact e
 have g0:∀x,Jn (Sb (ss.map λx=>(x,T.non)) []) x=none:=λx=>by
  by_cases mx:x∈ss
  .unfold Jn;rw[f0 x mx];rfl
  .exact bh (by rw[em];exact mx)
 have c0:∀x,cst (Sb (ss.map λx=>(x,T.non)) []) x=none:=λx=>by unfold cst;rw[g0];rfl
 have i0:LsK XD ss 0 (Sb (ss.map λx=>(x,T.non)) []):=⟨λx mx=>(by rw[g0,f0 x mx];rfl),λx c _ z=>(nomatch z),λx c z=>(by rw[c0]at z;cases z),λx q z=>(by rw[g0]at z;cases z)⟩;show wS w _ _ [.f (.tup [.str root,.dct XD]),.o (.dct (Sb (ss.map λx=>(x,T.non)) [])),.no] _;refine rngP XH XH ?_;refine Us (λrest p=>∃ls s2,p=[.f (.tup [.str root,.dct XD]),.o (.dct ls),s2]/\rest.length<=ss.length/\LsK XD ss (ss.length-rest.length) ls) ⟨_,_,rfl,by omega,by rw[e7,Nat.sub_self];exact i0⟩ (λx r p D' hi nx _=>?_) λp hi=>?_
 .obtain⟨ls,s2,rfl,hr,hL⟩:=hi;rw[B9]at hr hL;generalize ek:ss.length-(r.length+1)=k at hL;have k8:k<=7:=XH
  refine S5 h.keys ?_;refine Uy (λrest acc p=>∃(L:List (Str×T)) (rs:ZD) (s0 s1:Sl),rest=rs.map T.str/\acc=(L.map λp=>.tup [.str p.1,p.2])/\p=[s0,s1,.f (.tup [.str root,.dct XD])]/\OF s1 (.dct ls)/\L.map (·.1)++rs=ss/\∀q∈L,∃t r,Zg XD (.inr q.1)=some t/\q.2=encL r/\F7 ls t r) ⟨[],ss,_,_,rfl,rfl,rfl,.inl rfl,rfl,λq m=>absurd m Ve⟩ (λx1 r1 acc p K hi ky kn=>?_) λacc p hi=>?_
  .obtain⟨L,rs,s0,s1,hr1,rfl,rfl,qk,hL1,hq⟩:=hi;cases rs with
   | nil=>cases hr1
   | cons y rs =>
    cases hr1;obtain⟨t,e,ht⟩:=h.get (x:=y) (by rw[<-hL1];simp);refine Z9 hF λo ho=>?_;subst ho;rw[e];refine Ay qk rfl ?_;refine Z9 (hB ht hL.l) λo ho=>?_;obtain⟨u,hu,rfl⟩:=ho;refine ky _ _ ⟨L++[(y,encL u)],rs,_,_,rfl,by rw[Xy];rfl,rfl,.inr rfl,by rw[Xy,XQ];exact hL1,λq mq=>?_⟩;rcases qj.mp mq with mq | mq
    .exact hq q mq
    .cases Nm.mp mq;exact⟨t,u,e,rfl,hu⟩
  obtain⟨L,rs,s0,s1,hr1,rfl,rfl,qk,hL1,hq⟩:=hi;refine Zqg ?_;have:rs=[]:=by cases rs with | nil=>rfl | cons _ _=>cases hr1
  subst this;rw[XJ]at hL1;refine nx _ ⟨_,_,rfl,by omega,?_⟩;rw[show ss.length-r.length=k+1 by omega]
  have at_:∀x∈ss,∃t u,Zg XD (.inr x)=some t/\Zg (Sb L []) (.inr x)=some (encL u)/\Jn (Sb L []) x=u/\F7 ls t u:=λx mx=>by
   obtain⟨v,e,m⟩:=E3 (y:=x) (L:=L) (acc:=[]) (by rw[hL1];exact mx);obtain⟨t,u,e1,e2,e3⟩:=hq _ m;have e2:v=encL u:=e2;subst e2;exact⟨t,u,e1,e,by unfold Jn;rw[e];exact dec_enc u,e3⟩
  have out:∀x,x∉ss->Jn (Sb L []) x=none:=λx nx=>bh (by rw[hL1];exact nx);have ins:∀x q,Jn (Sb L []) x=some q->x∈ss:=λx q e=>Classical.byContradiction λz=>by rw[out x z]at e;cases e
  refine⟨λx mx=>?_,λx c m l=>?_,λx c e=>?_,λx q e=>?_⟩
  .obtain⟨t,u,e1,e2,e3,e4⟩:=at_ x mx;rw[e3];exact e2
  .obtain⟨t,u,e1,e2,e3,e4⟩:=at_ x (m.1.in h.k);obtain⟨c1,l1,n1⟩:=hL.g.step h.k m l e1;refine⟨c1,l1,?_⟩;unfold cst;rw[e3,e4.c];exact n1
  .obtain⟨q,e0,ec⟩:=Yx.mp (show (Jn (Sb L []) x).map (·.1)=some c from e);obtain⟨t,u,e1,e2,e3,e4⟩:=at_ x (ins x q e0);refine .mk (cst ls) hL.s e1 ?_;rw[<-e4.c, <-e3,e0, <-ec];rfl
  .obtain⟨t,u,e1,e2,e3,e4⟩:=at_ x (ins x q e);rw[e3]at e;exact⟨t,e1,(e4.v q e).mono λo c v hv=>hL.v o (c,v) hv⟩
 .obtain⟨ls,s2,rfl,hr,hL⟩:=hi;exact rt _ _ ⟨ls,hL,rfl⟩
def Zqp(C:Cs):Prop:=∀{root x:Str} {XD:ZX} {ss:ZD},Gd ss XD ss->ss.length<=8->x∈ss->on (C "least_value" [.f (.tup [.str root,.dct XD]),.f (.str x)]) λy=>∃ls,LsK XD ss ss.length ls/\y=(.f (match Jn ls x with | none=>.non | some q=>q.2),[])
theorem T5{w:W}(hL:PLOf w.C){root x:Str}{XD:ZX}{ss:ZD}(h:Gd ss XD ss)(h8:ss.length<=8)(hx:x∈ss):wF Vv w [.f (.tup [.str root,.dct XD]),.f (.str x)] λy=>∃ls,LsK XD ss ss.length ls/\y=(.f (match Jn ls x with | none=>.non | some q=>q.2),[]):=by
 refine Ya rfl λD rt _=>?_;refine Z9 (hL h h8) λy hy=>?_;obtain⟨ls,hs,rfl⟩:=hy;have e:=hs.l x hx;refine Jw e ?_;cases q:Jn ls x with
 | none=>exact rt _ _ ⟨ls,hs,by rw[q]⟩
 | some q'=>exact rt _ _ ⟨ls,hs,by rw[q]⟩
def R3(XD:ZX)(t:T):Prop:=∀ps us,t=.tup [.str "record",.tup ps,.tup us]->∀p∈ps,Sv XD p
structure Xv(root:Str)(XD:ZX)(ss:ZD):Prop where
 f:Gd ss XD ss
 l0:0<ss.length
 l8:ss.length<=8
 po:∀x∈ss,x∈nj
 r:root∈ss
 fit:∀x t,Zg XD (.inr x)=some t->R3 XD t
theorem Gd.at{ns ss:ZD}{XD:ZX}(h:Gd ns XD ss){x:Str}{t:T}(e:Zg XD (.inr x)=some t):Shp ns t:=by
 obtain⟨p,mp,rfl,_⟩:=M0 e;exact h.p p mp
theorem t4{d:T}(h:Dx d):∃z,rpT (.tup [d])=some z:=by
 have o:okT 8 d/\wtT d<=70/\dpT d<=1:=by
  cases h with
  | int h=>exact⟨by obtain⟨a,b⟩:=h;show Int.natAbs _<=10 ^ 19;omega,Yk _,B0 _⟩
  | bl=>exact⟨trivial,B0 _,B0 _⟩
  | str h=>exact⟨h.2,by show Str.length _<=70;have:=h.1;omega,B0 _⟩
  | nil=>exact⟨⟨B0 _,trivial⟩,B0 _,Yk _⟩
 obtain⟨h1,h2,h3⟩:=o;refine rpT_ok (n:=8) ⟨by show 1<=8;omega,h1,trivial⟩ ?_ ?_
 .show wtT d+1+0<=400000;omega
 .show max (dpT d) 0+1<=100;omega
noncomputable def mkI(L:List (Int×T))(acc:ZX):ZX:=(L.map λp=>((Sum.inl p.1:Key),p.2)).foldl (λacc kv=>Yw acc kv.1 kv.2) acc
theorem Ta:∀L:List (Int×T),Ug (L.map λp=>.tup [.int p.1,p.2])=some (L.map λp=>((Sum.inl p.1:Key),p.2))
 | []=>rfl
 | p::L=>by show (some (Sum.inl p.1:Key)).bind _=_;show (Ug (L.map λp=>.tup [.int p.1,p.2])).map _=_;rw[Ta L];rfl
theorem t6{L:List (Int×T)}{Q:Sl->Prop}(q:Q (.o (.dct (mkI L [])))):on (Ld .dict [.lst (L.map λp=>.tup [.int p.1,p.2])]) Q:=Z4 (by show (Ug _).map _=_;rw[Ta];rfl) q
theorem A1{y:Int}:∀{L:List (Int×T)} {acc:ZX},y∉L.map (·.1)->Zg (mkI L acc) (.inl y)=Zg acc (.inl y)
 | [],_,_=>rfl
 | p::L,acc,h=>by
  show Zg (mkI L (Yw acc (.inl p.1) p.2)) (.inl y)=_;rw[D2,Yf]at h;rw[A1 (λz=>h (.inr z)),Yq,if_neg (λz=>h (.inl (Sum.inl.inj z).symm))]
theorem bj{y:Int}{t:T}:∀{L:List (Int×T)} {acc:ZX},(L.map (·.1)).Nodup->(y,t)∈L->Zg (mkI L acc) (.inl y)=some t
 | [],_,_,h=>absurd h Ve
 | p::L,acc,d,h=>by
  obtain⟨d1,d2⟩:=List.nodup_cons.mp (show (p.1::L.map (·.1)).Nodup from d);show Zg (mkI L (Yw acc (.inl p.1) p.2)) (.inl y)=some t;rcases Yf.mp h with e | h
  .subst e;rw[A1 d1,Yq,if_pos rfl]
  .exact bj d2 h
noncomputable def Fu:T->Int×T
 | .tup [.int n,_,o]=>(n,o)
 | _=>(0,.non)
theorem Wo{w:W}{ss:ZD}{fs:ZZ}(hf:Y2 ss false fs){Q:ZZ->P->Prop}(q:∀s0,Q ((fs.map Fu).map λp=>.tup [.int p.1,p.2]) [s0]) :
  Uu (λx s K=>on (asg (.v 0) x s) λs1=>if isNil .nil=true then wE w (.pr .sl2 (.cons (.v 0) .nil)) s1 λr s2=>Qz r λy=>K (some y) s2
   else wE w .nil s1 λr s2=>zv r λb=>if b=true then wE w (.pr .sl2 (.cons (.v 0) .nil)) s2 λr s3=>Qz r λy=>K (some y) s3 else K none s2) fs [] [.no] Q:=by
 refine Uh (λt=>.tup [.int (Fu t).1,(Fu t).2]) (λs=>∃s0,s=[s0]) ⟨_,rfl⟩ (λx mx s K hs hk=>?_) λs hs=>?_
 .obtain⟨s0,rfl⟩:=hs;obtain⟨n,y,o,rfl,_⟩:=(hf.p x mx).cho;exact hk _ ⟨_,rfl⟩
 .obtain⟨s0,rfl⟩:=hs;rw[show fs.map (λt=>T.tup [.int (Fu t).1,(Fu t).2])=(fs.map Fu).map λp=>.tup [.int p.1,p.2] by rw[List.map_map];rfl];exact q s0
theorem Xx{ss:ZD}:∀{fs:ZZ},(∀f∈fs,C9 ss false f)->(fs.map Fu).map (·.1)=fs.map Ut
 | [],_=>rfl
 | f::fs,h=>by
  obtain⟨n,y,o,rfl,_⟩:=(h f Yu).cho;rw[D2,D2,D2,Xx λf m=>h f (Y3 _ m)];rfl
theorem O8{ss:ZD}{fs:ZZ}(hf:Y2 ss false fs){n:Int}{y o:Str}(m:T.tup [.int n,.str y,.str o]∈fs):Zg (mkI (fs.map Fu) []) (.inl n)=some (.str o) :=
 bj (by rw[Xx hf.p];exact hf.d) (Ry.mpr ⟨_,m,rfl⟩)
theorem ixIP{XD:ZX}{k:Int}{x:T}{Q:Sl->Prop}(e:Zg XD (.inl k)=some x)(q:Q (.f x)):on ((A7 (.dct XD) (.int k)).map Sl.f) Q:=Z4 (by show (Zg XD (.inl k)).map _=_;rw[e];rfl) q
def OwnV(XD:ZX)(k:Nat)(x:Str)(v:T):Prop:=(∃c,Val XD k x c v)\/∃s,Zg XD (.inr x)=some s/\Jc s v
def POwn(k:Nat)(C:Cs):Prop:=∀{root x:Str} {XD:ZX} {ss:ZD} {v:T},Xv root XD ss->OwnV XD k x v->on (C "_law_is_own" [.f (.tup [.str root,.dct XD]),.f (.str x),.f v]) λy=>y=(.f (.bl true),[])
theorem noF:∀{ts:ZZ},(∀t∈ts,t=.bl true)->Gm (.bl false) ts=some false
 | [],_=>rfl
 | t::ts,h=>by
  have e:=h t Yu;subst e;show (some false).bind _=_;show (Gm (.bl false) ts).map _=_;rw[noF λt m=>h t (Y3 _ m)];rfl
theorem ninF{ts:ZZ}(h:∀t∈ts,t=.bl true){Q:Sl->Prop}(q:Q (.f (.bl true))):on ((Cd .notin (.bl false) (.lst ts)).map λr=>Sl.f (.bl r)) Q:=by
 refine Z4 ?_ q;show ((Gm (.bl false) ts).map not).map _=_;rw[noF h];rfl
theorem B1.zip{R:Str->Nat->T->Prop}:∀{ps:ZZ} {qs:List (Nat×T)},B1 R ps qs->ps.length=qs.length/\∀z∈D7 ps (qs.map (·.2)),∃p q,nu R p q/\p∈ps/\z=.tup [p,q.2]
 | [],[],_=>⟨rfl,λz m=>absurd m Ve⟩
 | _::_,[],h=>h.elim
 | [],_::_,h=>h.elim
 | p::ps,q::qs,h=>by
  obtain⟨g1,g2⟩:=B1.zip h.2;refine⟨by rw[B9,B9,g1],λz m=>?_⟩;rcases Yf.mp (show z∈T.tup [p,q.2]::D7 ps (qs.map (·.2)) from m) with rfl | m
  .exact⟨p,q,h.1,Yu,rfl⟩
  .obtain⟨p',q',a,b,c⟩:=g2 z m;exact⟨p',q',a,Y3 _ b,c⟩
set_option maxHeartbeats 2000000 in
theorem Jz{w:W}{root x:Str}{XD:ZX}{ss:ZD}{s v:T}(hm:Xv root XD ss)(e:Zg XD (.inr x)=some s)(h:Jc s v):wF Yp w [.f (.tup [.str root,.dct XD]),.f (.str x),.f v] λy=>y=(.f (.bl true),[]):=by
 have sl:=sizeLine_eq;have hs:=hm.f.at e;refine Ya rfl λD rt _=>?_;refine Jw e ?_;cases h with
 | whole h1 h2 =>
  refine c2P ?_;refine rt _ _ ?_;rw[Gn h1,Gn h2];rfl
 | truth=>exact rt _ _ rfl
 | @text n z h =>
  cases hs with
  | text h0 h1 =>
   refine lenP XH ?_;refine rt _ _ ?_;show ((Sl.f (.bl (!decide (n<(z.length:Int)))),[]):Sl×ZZ)=_;rw[Gr XH];rfl
 | @row o n =>
  cases hs with
  | row ho h0 h1 =>
   refine Zt (b:=!decide (n<(([]:ZZ).length:Int))) (λ_=>?_) λg=>absurd (Dc (Ae g)) (by show ¬ n<0;omega);exact rt _ _ rfl
 | @map o n =>
  cases hs with
  | map ho h0 h1 =>
   refine Zt (b:=!decide (n<(([]:ZZ).length:Int))) (λ_=>?_) λg=>absurd (Dc (Ae g)) (by show ¬ n<0;omega);exact rt _ _ rfl
set_option maxHeartbeats 2000000 in
theorem ze{w:W}{k:Nat}(hO:POwn k w.C){root x:Str}{XD:ZX}{ss:ZD}{v:T}(hm:Xv root XD ss)(hv:OwnV XD (k+1) x v):wF Yp w [.f (.tup [.str root,.dct XD]),.f (.str x),.f v] λy=>y=(.f (.bl true),[]):=by
 have sl:=sizeLine_eq;rcases hv with ⟨c,t,e,hv⟩ | ⟨s,e,h⟩
 .have hs:=hm.f.at e;cases hv with
  | whole=>cases hs with | whole a b le=>exact Jz hm e (.whole (Int.le_refl _) le)
  | truth=>exact Jz hm e .truth
  | text=>cases hs with | text h0 h1=>exact Jz hm e (.text (by show ((0:Nat):Int)<=_;exact h0))
  | row=>exact Jz hm e .row
  | map=>exact Jz hm e .map
  | @record ps us qs h =>
   obtain⟨z1,z2⟩:=h.zip;cases hs with
   | record hp _ =>
    have l8:=hp.l;refine Ya rfl λD rt _=>?_;refine Jw e ?_;refine Zt (b:=!decide ((((qs.map (·.2)).length:Nat):Int)=((ps.length:Nat):Int))) (λg=>absurd (by rw[Yc,z1]) (of_decide_eq_false (Py g))) λ_=>?_;refine Uy (λrest acc p=>(∀z∈rest,z∈D7 ps (qs.map (·.2)))/\(∀t∈acc,t=.bl true)/\∃s0 s1,p=[s0,s1,.f (.tup [.str root,.dct XD])]) ⟨λz m=>m,λt m=>absurd m Ve,_,_,rfl⟩ (λx r acc p K hi ky kn=>?_) λacc p hi=>?_
    .obtain⟨h1,h2,s0,s1,rfl⟩:=hi;obtain⟨p,q,fv,mp,rfl⟩:=z2 x (h1 _ Yu);obtain⟨n,y,o,ds,rfl,g⟩:=fv
     have ov:OwnV XD k o q.2:=by
      rcases g with ⟨_,g⟩ | ⟨d,rfl,rfl⟩
      .exact .inl ⟨_,g⟩
      .obtain⟨s,es,fs⟩:=hm.fit _ _ e ps us rfl _ mp n y o d rfl;exact .inr ⟨s,es,fs⟩
     refine Z9 (hO hm ov) λz ez=>?_;subst ez;refine ky _ _ ⟨λz m=>h1 z (Y3 _ m),λt m=>?_,_,_,rfl⟩;rcases qj.mp m with m | m
     .exact h2 t m
     .exact Nm.mp m
    .obtain⟨h1,h2,s0,s1,rfl⟩:=hi;refine ninF h2 ?_;exact rt _ _ rfl
  | @choice ps us b n y o c v m h =>
   cases hs with
   | choice hp _ =>
    have eg:=O8 hp m;refine Ya rfl λD rt _=>?_;refine Jw e ?_;refine Wo hp λs0=>?_;refine t6 ?_;refine Zt (b:=(Zg (mkI (ps.map Fu) []) (.inl n)).isSome) (λ_=>?_) λg=>by rw[eg]at g;cases g
    refine ixIP eg ?_;refine Z9 (hO hm (.inl ⟨_,h⟩)) λz ez=>?_;subst ez;exact rt _ _ rfl
 .exact Jz hm e h
inductive K3(R:T->Prop):T->Prop
 | whole{i:Int}:K3 R (.tup [.str "whole",.int i])
 | text {x:Str}:K3 R (.tup [.str "text",.str x])
 | row:K3 R (.tup [.str "row",.tup []])
 | map:K3 R (.tup [.str "map",.tup []])
 | arm {n:Int} {w:T} (h:R w):K3 R (.tup [.str "arm",.int n,w])
 | rcd {ps:ZZ} (h:∀p∈ps,∃n w,p=.tup [.int n,w]/\R w):K3 R (.tup [.str "rec",.tup ps])
def IIt:Nat->T->Prop
 | 0,_=>False
 | k+1,w=>K3 (IIt k) w
noncomputable def Lz:T->T
 | .tup [_,v]=>v
 | _=>.non
noncomputable def cntK:Nat->T->Nat
 | 0,_=>0
 | k+1,w=>match w with
  | .tup [.str _,.tup ps]=>1+(ps.map λp=>cntK k (Lz p)).sum
  | .tup [.str _,.int _,w']=>1+cntK k w'
  | _=>1
def PCnt(k:Nat)(C:Cs):Prop:=∀{w:T},IIt k w->on (C "_law_count" [.f w]) λy=>y=(.f (.int (cntK k w:Int)),[])
set_option maxHeartbeats 1000000 in
theorem count_ok{w:W}{k:Nat}(hC:PCnt k w.C){t:T}(h:IIt (k+1) t):wF Uj w [.f t] λy=>y=(.f (.int (cntK (k+1) t:Int)),[]):=by
 refine Ya rfl λD rt _=>?_;cases h with
 | whole=>exact rt _ _ rfl
 | text=>exact rt _ _ rfl
 | row=>exact rt _ _ rfl
 | map=>exact rt _ _ rfl
 | @arm n w' h =>
  refine Z9 (hC h) λy e=>?_;subst e;refine rt _ _ ?_;show ((Sl.f (.int (1+(cntK k w':Int))),[]):Sl×ZZ)=(.f (.int ((1+cntK k w':Nat):Int)),[]);rw[Int.natCast_add];rfl
 | @rcd ps h =>
  refine Uh Lz (λp=>∃s0,p=[s0,.f (.tup [.str "rec",.tup ps])]) ⟨_,rfl⟩ (λf mf p K hp hk=>?_) λp hp=>?_
  .obtain⟨s0,rfl⟩:=hp;obtain⟨n,w',rfl,_⟩:=h f mf;exact hk _ ⟨_,rfl⟩
  obtain⟨s0,rfl⟩:=hp;refine Uh (λt=>.int (cntK k t:Int)) (λp=>∃s0,p=[s0]) ⟨_,rfl⟩ (λf mf p K hp hk=>?_) λp hp=>?_
  .obtain⟨s0,rfl⟩:=hp;obtain⟨g,mg,rfl⟩:=Ry.mp mf;obtain⟨n,w',rfl,hw⟩:=h g mg;refine Z9 (hC hw) λy e=>?_;subst e;exact hk _ ⟨_,rfl⟩
  obtain⟨s0,rfl⟩:=hp;rw[show (ps.map Lz).map (λt=>T.int (cntK k t:Int))=(Du (ps.map λp=>cntK k (Lz p))).map .int by unfold Du;rw[List.map_map,List.map_map,List.map_map];rfl];refine sumP ?_;refine rt _ _ ?_;rw[Md];show ((Sl.f (.int (1+(((ps.map λp=>cntK k (Lz p)).sum:Nat):Int))),[]):Sl×ZZ)=(.f (.int ((1+(ps.map λp=>cntK k (Lz p)).sum:Nat):Int)),[]);rw[Int.natCast_add];rfl
theorem srtKP{ps:ZZ}(h:∀p∈ps,∃n w,p=T.tup [.int n,w])(nd:(ps.map Ut).Nodup)(l:ps.length<64){Q:Sl->Prop}(q:∀us:ZZ,us.Perm ps->Q (.o (.lst us))):on (Ld .srtK [.lst ps]) Q:=by
 have hh:∀{ps:ZZ},(∀p∈ps,∃n w,p=T.tup [.int n,w])->Ud ps=some (ps.map Ut):=by
  intro ps
  induction ps with
  | nil=>intro _;rfl
  | cons p ps ih =>
   intro h;obtain⟨n,w,rfl⟩:=h p Yu;show (Ud ps).map _=_;rw[ih λp m=>h p (Y3 _ m)];rfl
 have pm:((SRT.Jp ((ps.map Ut).zip ps)).map (·.2)).Perm ps:=by
  have:=(SRT.Ua ((ps.map Ut).zip ps)).map (·.2);rw[List.map_snd_zip (by rw[Yc];omega)]at this;exact this
 refine Z4 ?_ (q _ pm);show (Ud ps).bind _=_;rw[hh h];show (if _ then _ else _)=_;rw[if_pos ⟨nd,l⟩]
def PWr(k:Nat)(C:Cs):Prop:=∀{root x:Str} {XD:ZX} {ss:ZD} {v:T} {c:Nat},Xv root XD ss->Val XD k x c v->on (C "_law_written" [.f (.tup [.str root,.dct XD]),.f (.str x),.f v]) λy=>∃w,IIt k w/\cntK k w=c/\y=(.f w,[])
set_option maxHeartbeats 2000000 in
theorem Se{w:W}{k:Nat}(hW:PWr k w.C){root x:Str}{XD:ZX}{ss:ZD}{v:T}{c:Nat}(hm:Xv root XD ss)(hv:Val XD (k+1) x c v):wF Vy w [.f (.tup [.str root,.dct XD]),.f (.str x),.f v] λy=>∃t,IIt (k+1) t/\cntK (k+1) t=c/\y=(.f t,[]):=by
 have sl:=sizeLine_eq;obtain⟨t,e,hv⟩:=hv;have hs:=hm.f.at e;refine Ya rfl λD rt _=>?_;refine Jw e ?_;cases hv with
 | whole=>exact rt _ _ ⟨_,.whole,rfl,rfl⟩
 | truth=>exact rt _ _ ⟨_,.whole,rfl,rfl⟩
 | text=>exact rt _ _ ⟨_,.text,rfl,rfl⟩
 | row=>exact rt _ _ ⟨_,.row,rfl,rfl⟩
 | map=>exact rt _ _ ⟨_,.map,rfl,rfl⟩
 | @choice ps us b n y o c v m h =>
  cases hs with
  | choice hp _ =>
   refine Wo hp λs0=>?_;refine t6 ?_;refine ixIP (O8 hp m) ?_;refine Z9 (hW hm h) λz ez=>?_;obtain⟨t,h1,h2,rfl⟩:=ez;exact rt _ _ ⟨_,.arm h1,by show 1+cntK k t=_;rw[h2],rfl⟩
 | @record ps us qs h =>
  cases hs with
  | record hp _ =>
   have l8:=hp.l;have A:∀{ps:ZZ} {qs:List (Nat×T)},B1 (Val XD k) ps qs->ps.length=qs.length:=λh=>h.zip.1;refine Us (λrest p=>∃(fs:ZZ) (gs:List (Nat×T)) (ws:ZZ) (s6 s7:Sl),rest=D7 fs (gs.map (·.2))/\B1 (Val XD k) fs gs/\(∀f∈fs,f∈ps)/\p=[.f (.tup [.str root,.dct XD]),.f (.str x),.f (.tup [.tup (qs.map (·.2)),.tup []]),.f (.tup [.str "record",.tup ps,.tup us]),.no,.o (.lst ws),s6,s7]/\(∀p∈ws,∃n w,p=.tup [.int n,w]/\IIt k w)/\(ws.map Ut++fs.map Ut).Sublist (ps.map Ut)/\(ws.map λp=>cntK k (Lz p)).sum+(gs.map (·.1)).sum=(qs.map (·.1)).sum) ⟨ps,qs,[],_,_,rfl,h,λf m=>m,rfl,λp m=>absurd m Ve,List.Sublist.refl _,Nat.zero_add _⟩ (λz r p D' hi nx _=>?_) λp hi=>?_
   .obtain⟨fs,gs,ws,s6,s7,hr,ha,hf,rfl,hw,hd,hc⟩:=hi;cases fs with
    | nil=>cases hr
    | cons f fs =>
     cases gs with
     | nil=>exact ha.elim
     | cons g gs =>
      cases hr;obtain⟨⟨n,y,o,ds,rfl,fv⟩,ha⟩:=ha;have hf':∀f∈fs,f∈ps:=λf m=>hf f (Y3 _ m);have wl:ws.length<=8:=by have:=hd.length_le;simp at this;omega
      rw[D2,List.sum_cons]at hc;rcases fv with ⟨rfl,fv⟩ | ⟨d,rfl,rfl⟩
      .refine Z9 (hW hm fv) λz ez=>?_;obtain⟨t,h1,h2,rfl⟩:=ez;refine Vr XH ?_;refine nx _ ⟨fs,gs,ws++[.tup [.int n,t]],_,_,rfl,ha,hf',rfl,λp m=>?_,by rw[Xy,XQ];exact hd,?_⟩
       .rcases qj.mp m with m | m
        .exact hw p m
        .cases Nm.mp m;exact⟨n,t,rfl,h1⟩
       .rw[Xy,List.sum_append];show _+(cntK k t+0)+_=_;rw[h2];omega
      .obtain⟨_,_,_,_,ef,_,_,_,hdd⟩:=(hp.p _ (hf _ Yu)).asR;cases ef;cases hdd with
       | is hx =>
        obtain⟨z,ez⟩:=t4 hx;refine Z4 (a:=Sl.f (.str z)) (by show (rpT _).map _=_;rw[ez];rfl) ?_;refine Z4 (a:=Sl.f (.str z)) (by show (rpT _).map _=_;rw[ez];rfl) ?_;refine Zt (b:=!decide (z=z)) (λq=>absurd rfl (of_decide_eq_false (Py q))) λ_=>?_
        exact nx _ ⟨fs,gs,ws,_,_,rfl,ha,hf',rfl,hw,(List.Sublist.append (List.Sublist.refl _) (List.sublist_cons_self _ _)).trans hd,by
         have:(0:Nat)+(gs.map (·.1)).sum=(gs.map (·.1)).sum:=Nat.zero_add _;rw[this]at hc;exact hc⟩
   .obtain⟨fs,gs,ws,s6,s7,hr,ha,hf,rfl,hw,hd,hc⟩:=hi;have wl:ws.length<=8:=by have:=hd.length_le;simp at this;omega
    have eg:gs=[]:=by
     cases gs with
     | nil=>rfl
     | cons g gs =>
      cases fs with
      | nil=>exact ha.elim
      | cons f fs=>cases hr
    subst eg;refine srtKP (λp m=>by obtain⟨n,w,e,_⟩:=hw p m;exact⟨n,w,e⟩) (((List.sublist_append_left _ _).trans hd).nodup hp.d) XH λzs pm=>?_;refine rt _ _ ⟨_,.rcd λp m=>hw p (pm.mem_iff.mp m),?_,rfl⟩;show 1+(zs.map λp=>cntK k (Lz p)).sum=1+(qs.map (·.1)).sum;rw[(pm.map λp=>cntK k (Lz p)).sum_nat, <-hc];rfl
def c9(C:Cs):Prop:=∀{root:Str} {XD:ZX} {ss:ZD},Xv root XD ss->on (C "_law_right" [.f (.tup [.str root,.dct XD])]) λx=>x=(.f (.bl true),[])
set_option maxHeartbeats 1000000 in
theorem yj{w:W}(hP:Fe w.C)(hV:Zqp w.C)(hO:∀k,k<=8->POwn k w.C)(hW:∀k,k<=8->PWr k w.C)(hC:∀k,k<=8->PCnt k w.C){root:Str}{XD:ZX}{ss:ZD}(h:Xv root XD ss):wF V6 w [.f (.tup [.str root,.dct XD])] λx=>x=(.f (.bl true),[]):=by
 have h8:=h.l8;refine Ya rfl λD rt _=>?_;refine Z9 (hP h.f h8) λx hx=>?_;obtain⟨ps,hp,_,hg,hs,rfl⟩:=hx;refine Hl (h.f.srt XH) ?_;refine Us (λrest p=>∃rs s2 s3,rest=rs.map T.str/\(∀y∈rs,y∈ss)/\p=[.f (.tup [.str root,.dct XD]),.o (.dct ps),s2,s3]) ⟨SRT.G2 ss,_,_,rfl,λy m=>(SRT.Ys ss).mem_iff.mp m,rfl⟩ (λz r p D' hi nx _=>?_) λp hi=>?_
 .obtain⟨rs,s2,s3,hr,hm,rfl⟩:=hi;cases rs with
  | nil=>cases hr
  | cons y rs =>
   cases hr;have hy:=hm y Yu;have nx':∀s2 s3,D'.nx [.f (.tup [.str root,.dct XD]),.o (.dct ps),s2,s3]:=λs2 s3=>nx _ ⟨rs,s2,s3,rfl,λy m=>hm y (Y3 _ m),rfl⟩;refine Z9 (hV h.f h8 hy) λx hx=>?_;obtain⟨ls,hl,rfl⟩:=hx;have same:=xy h.f.k hg hs hl.g hl.s y;cases q:Jn ls y with
   | none =>
    have e0:pf ps y=none:=by rw[same];unfold cst;rw[q];rfl
    have e1:Zg ps (.inr y)=none:=by
     rcases hp.pf y with ⟨e,_⟩ | ⟨i,_,_,e⟩
     .exact e
     .rw[e0]at e;cases e
    refine Zt (b:=!(Zg ps (.inr y)).isSome) (λ_=>?_) λg=>by rw[e1]at g;cases g
    exact nx' _ _
   | some q' =>
    have e0:pf ps y=some q'.1:=by rw[same];unfold cst;rw[q];rfl
    have e1:Zg ps (.inr y)=some (.int (q'.1:Int)):=by
     rcases hp.pf y with ⟨_,e⟩ | ⟨i,_,e,e'⟩
     .rw[e0]at e;cases e
     .rw[e0]at e';cases e';exact e
    have hv:=hl.v y q' q;refine Zt (b:=!(Zg ps (.inr y)).isSome) (λg=>by rw[e1]at g;cases g) λ_=>?_;show wS w _ _ [.f (.tup [.str root,.dct XD]),.o (.dct ps),.f (.str y),.f q'.2] _;refine Z9 (hO ss.length h8 h (.inl ⟨_,hv⟩)) λx hx=>?_;subst hx;refine Z9 (hW ss.length h8 h hv) λx hx=>?_;obtain⟨t,h1,h2,rfl⟩:=hx;refine Z9 (hC ss.length h8 h1) λx hx=>?_;subst hx;refine Jw e1 ?_;refine Zt (b:=!decide ((cntK ss.length t:Int)=(q'.1:Int))) (λg=>absurd (by rw[h2]) (of_decide_eq_false (Py g))) λ_=>?_;exact nx' _ _
 .obtain⟨rs,s2,s3,hr,hm,rfl⟩:=hi;exact rt _ _ rfl
def qw(XD Vb:ZX):Prop:=∀o s d,Zg XD (.inr o)=some s->Jc s d->Zg Vb (.inr o)=some s
theorem Sv.keep{XD Vb:ZX}{p:T}(h:Sv XD p)(k:qw XD Vb):Sv Vb p:=λn y o d e=>let ⟨s,e1,f⟩:=h n y o d e;⟨s,k o s d e1 f,f⟩
theorem R3.keep{XD Vb:ZX}{t:T}(h:R3 XD t)(k:qw XD Vb):R3 Vb t:=λps us e p m=>(h ps us e p m).keep k
theorem T8{XD:ZX}{y:Str}{v:T}(h:∀t d,Zg XD (.inr y)=some t->Jc t d->v=t):qw XD (Yw XD (.inr y) v):=λo s d e f=>by
 rw[Yq];by_cases z:y=o
 .subst z;rw[if_pos rfl,h s d e f]
 .rw[if_neg λq=>z (Sum.inr.inj q)];exact e
def N8(XD:ZX):Prop:=∀x t,Zg XD (.inr x)=some t->R3 XD t
theorem N8.put{XD:ZX}{y:Str}{v:T}(h:N8 XD)(k:qw XD (Yw XD (.inr y) v))(hv:R3 XD v):N8 (Yw XD (.inr y) v):=λx t e=>by
 rw[Yq]at e;by_cases z:y=x
 .subst z;rw[if_pos rfl]at e;cases e;exact hv.keep k
 .rw[if_neg λq=>z (Sum.inr.inj q)]at e;exact(h x t e).keep k
theorem Y2.sub{ns:ZD}{k:Bool}{ps us:ZZ}(h:Y2 ns k ps)(p:us.Sublist ps):Y2 ns k us:=⟨D0 p.length_le h.l,(p.map Ut).nodup h.d,λt m=>h.p t (p.mem m)⟩
theorem c8.ints:∀{ps:ZX},c8 ps->∃zs:ZL,ps.map (·.2)=zs.map .int
 | [],_=>⟨[],rfl⟩
 | p::ps,h=>by
  obtain⟨i,_,e⟩:=h p Yu;obtain⟨zs,ez⟩:=c8.ints (ps:=ps) λq m=>h q (Y3 _ m);exact⟨(i:Int)::zs,by rw[D2,e,ez];rfl⟩
theorem maxIP{z:Int}{zs:ZL}{Q:Sl->Prop}(q:∀m:Int,Q (.f (.int m))):on (Ld .max [.lst ([.int z]++zs.map .int)]) Q:=by
 have e:maxL (z::zs)=some (zs.foldl (λa b=>if a<b then b else a) z):=rfl;refine Z4 ?_ (q (zs.foldl (λa b=>if a<b then b else a) z));show (V4 ((z::zs).map .int)).bind _=_;rw[PV.ints_map];rfl
theorem Gd.put'{ss:ZD}{XD:ZX}{x:Str}{v:T}(h:Gd ss XD ss)(hx:x∈ss)(hv:Shp ss v):Gd ss (Yw XD (.inr x) v) ss:=by
 obtain⟨us,h1,_,h3⟩:=h.put hx hv;rw[h3 hx]at h1;exact h1
def A9(root:Str)(ss:ZD)(x:Sl×ZZ):Prop:=∃XD,Xv root XD ss/\x=(.f (.tup [.str root,.dct XD]),[.fn ""])
def K1(C:Cs):Prop:=∀{root:Str} {XD:ZX} {ss:ZD},Xv root XD ss->on (C "_law_light" [.f (.str root),.o (.dct XD)]) (A9 root ss)
set_option maxHeartbeats 1000000 in
theorem bc{w:W}(hP:Fe w.C){root:Str}{XD:ZX}{ss:ZD}(h:Xv root XD ss):wF Ux w [.f (.str root),.o (.dct XD)] (A9 root ss):=by
 have sl:=sizeLine_eq;have h8:=h.l8;refine Ya rfl λD rt _=>?_;have fin:∀XD s2,Xv root XD ss->wS w (Vu [.f (.str root),.o (.dct XD)]) (Vt 1 Bd) [.f (.str root),.o (.dct XD),s2] D:=λXD s2 h=>rt _ _ ⟨XD,h,rfl⟩;refine Z9 (hP h.f h8) λx hx=>?_;obtain⟨ps,hp,hl,_,_,rfl⟩:=hx;obtain⟨zs,ez⟩:=hp.ints;refine addLP (by rw[Yc];show 1+_<=_;omega) ?_;rw[ez];refine maxIP λm=>?_;refine Zt (b:=decide (100<m)) (λ_=>?_) λ_=>fin XD _ h;refine Hl (h.f.srt XH) ?_;refine Us (λrest p=>∃rs XD s2,rest=rs.map T.str/\p=[.f (.str root),.o (.dct XD),s2]/\Gd ss XD ss/\N8 XD/\∀x∈rs,x∈ss) ⟨SRT.G2 ss,XD,_,rfl,rfl,h.f,h.fit,λy m=>(SRT.Ys ss).mem_iff.mp m⟩ (λx r p D' hi nx _=>?_) λp hi=>?_
 .obtain⟨rs,XD,s2,hr,rfl,hf,hx,hm⟩:=hi;cases rs with
  | nil=>cases hr
  | cons y rs =>
   cases hr;have hy:=hm y Yu;have dz:∀x∈rs,x∈ss:=λx m=>hm x (Y3 _ m);obtain⟨t,e,ht⟩:=hf.get hy;refine Jw e ?_;cases ht with
   | @record fs us hp hs =>
    refine Jw e ?_;refine Jw e ?_;refine Nr (by have:=hf.len;omega) ?_;have ec:G6 fs none (some ((1:Nat):Int))=fs.take 1:=Oy fs 1;refine nx _ ⟨rs,_,_,rfl,rfl,hf.put' hy (.record (ss:=us) (ps:=G6 fs none (some ((1:Nat):Int))) ?_ hs),hx.put (T8 λt d e' f=>?_) λSg us' e' p m=>?_,dz⟩
    .rw[ec];exact hp.sub (List.take_sublist _ _)
    .rw[e]at e';cases e';cases f
    .cases e';exact hx y _ e fs us rfl p (List.mem_of_mem_take (by rw[<-ec];exact m))
   | _=>exact nx _ ⟨rs,_,_,rfl,rfl,hf,hx,dz⟩
 .obtain⟨rs,XD,s2,hr,rfl,hf,hx,hm⟩:=hi;exact fin XD _ ⟨hf,h.l0,h.l8,h.po,h.r,hx⟩
def Cz(r:Sl):Prop:=∃root XD ss,r=.f (.tup [.str root,.dct XD])/\Xv root XD ss
noncomputable def Bc:ZD:=["record","choice","row","whole","text","record","map","truth","choice","record"]
def Jo(g:Str):Prop:=g="record" \/ g="choice"
theorem vf{g:Str}(h:g∈Bc):(g="whole" \/ g="truth" \/ g="text")\/(g="row" \/ g="map")\/Jo g:=by
 simp only[Bc,Yf,Ve,or_false]at h;rcases h with rfl | rfl | rfl | rfl | rfl | rfl | rfl | rfl | rfl | rfl<;>simp[Jo]
noncomputable def pr2(q:Str×Str):T:=.tup [.str q.1,.str q.2]
theorem Tz:∀(a b:ZD),D7 (a.map .str) (b.map .str)=(a.zip b).map pr2
 | [],_=>rfl
 | _::_,[]=>rfl
 | x::a,y::b=>by show .tup [.str x,.str y]::D7 (a.map .str) (b.map .str)=_;rw[Tz a b];rfl
theorem Zxk{body:T->P->En->Prop}{xs ys:ZZ}{p:P}{D:En}(e:xs=ys)(h:Rg body ys p D):Rg body xs p D:=by rw[e];exact h
theorem aw{XD:ZX}{k:Key}{v v2:T}:Yw (Yw XD k v) k v2=Yw XD k v2:=by
 unfold Yw;by_cases h:(XD.any λp=>decide (p.1=k))=true
 .rw[if_pos h,if_pos h,if_pos]
  .rw[List.map_map];refine List.map_congr_left λp _=>?_;show (if (if p.1=k then (p.1,v) else p).1=k then _ else _)=_;by_cases e:p.1=k
   .rw[if_pos e,if_pos (show (p.1,v).1=k from e),if_pos e];show ((if p.1=k then (p.1,v) else p).1,v2)=_;rw[if_pos e]
   .rw[if_neg e,if_neg e,if_neg e]
  .obtain⟨p,mp,e⟩:=XX.mp h;have e:=Dc e;exact XX.mpr ⟨_,List.mem_map_of_mem mp,by rw[if_pos e];exact Gn e⟩
 .rw[if_neg h,if_neg h,if_pos]
  .rw[Xy];show XD.map _++[if k=k then (k,v2) else (k,v)]=_;rw[if_pos rfl]
   congr 1
   conv=>rhs;rw[<-List.map_id XD]
   refine List.map_congr_left λq mq=>?_;rw[if_neg]
   .rfl
   .intro z;exact h (XX.mpr ⟨q,mq,Gn z⟩)
  .rw[List.any_append];show (_ || (decide (k=k) || false))=true;rw[Gn rfl];simp
theorem Ml{x:Str}:∀{a b:ZD},a.length=b.length->x∈a->∃y,(x,y)∈a.zip b
 | _::_,[],h,_=>by cases h
 | z::a,y::b,h,m=>by
  rcases Yf.mp m with rfl | m
  .exact⟨y,Yu⟩
  .obtain⟨u,mu⟩:=Ml (Nat.succ.inj h) m;exact⟨u,Y3 _ mu⟩
theorem Hz{x a b:Str}:∀{ms gs:ZD},ms.Nodup->(x,a)∈ms.zip gs->(x,b)∈ms.zip gs->a=b
 | [],_,_,h,_=>by cases h
 | _::_,[],_,h,_=>by cases h
 | m::ms,g::gs,d,h,h'=>by
  obtain⟨d1,d2⟩:=List.nodup_cons.mp d;rcases Yf.mp (show (x,a)∈(m,g)::ms.zip gs from h) with e | h
  .obtain⟨e1,e2⟩:=Prod.mk.inj e;rcases Yf.mp (show (x,b)∈(m,g)::ms.zip gs from h') with e' | h'
   .rw[e2,(Prod.mk.inj e').2]
   .exact absurd (e1 ▸ (List.of_mem_zip h').1) d1
  .rcases Yf.mp (show (x,b)∈(m,g)::ms.zip gs from h') with e' | h'
   .exact absurd ((Prod.mk.inj e').1 ▸ (List.of_mem_zip h).1) d1
   .exact Hz d2 h h'
structure Pls(ms gs:ZD)(XD:ZX)(ss:ZD):Prop where
 f:Gd ms XD ss
 n:∀x t,Zg XD (.inr x)=some t->Zqi t
 g:∀x∈ss,∃g,(x,g)∈ms.zip gs/\¬ Jo g
structure MkC(C:Cs):Prop where
 dr:Uv C
 pl:∀{s:Str} (ns:ZD),(s="whole" \/ s="truth" \/ s="text")->Tp C "_law_plain" [.f (.str s)] (lq (Zxy ns))
 pa:∀{ns:ZD} {XD:ZX} (s:Str),0<ns.length->ns.length<=8->(∀x t,Zg XD x=some t->Shp ns t)->Tp C "_law_parts" [.f (.lst (ns.map .str)),.f (.dct XD),.f (.str s)] (E7 ns XD (decide (s="record")))
 st:∀{ns:ZD} {b:Bool} {ps:ZZ},Y2 ns b ps->Tp C "_law_struck" [.f (.tup ps)] mh
 nm:Tp C "_law_names" [] Lo
 lt:K1 C
set_option maxHeartbeats 2000000 in
theorem make1{w:W}(H:MkC w.C){pt:Nat->Bool}{ms gs:ZD}(n0:0<ms.length)(n8:ms.length<=8){D:En}{S1:Sl}
    (q:∀XD ss zs i l k s5 s6,TP (Zb zs i l k)->Pls ms gs XD ss->(∀q∈ms.zip gs,Jo q.2\/q.1∈ss)->D.nx [.o (Zb zs i l k),.f (.lst (ms.map .str)),S1,.f (.lst (gs.map .str)),.o (.dct XD),s5,s6,.no,.no])
    {zs:ZL} {i l k:Int} (tp:TP (Zb zs i l k)) (hg:∀g∈gs,g∈Bc) :
    Rg (λx s D=>on (asg (.tup (Zk (.v 5) (.v 6))) x s) λs1=>wS w pt (.seq (.ite (.pr (.cm .isin) (Zk (.v 6) (.tup (Ju (ks "whole") (ks "truth") (ks "text")))))
    (Y0 (.put 4 (.v 5) (.call "_law_plain" (Zk (.io 0) (.v 6)))))
    .nil)
   (.seq (.ite (.pr (.cm .isin) (Zk (.v 6) (.tup (Zk (ks "row") (ks "map")))))
    (Y0 (.put 4 (.v 5) (.tup (Ju (.v 6) (Zv (.v 1) (.call "_law_draw" (Zk (.io 0) (Ba (.v 1))))) (Zv (.lst (Ax (ki 0) (ki 1) (ki 2) (ki 20))) (.call "_law_draw" (Zk (.io 0) (ki 4))))))))
    .nil)
   .nil)) s1 D) ((ms.zip gs).map pr2) [.o (Zb zs i l k),.f (.lst (ms.map .str)),S1,.f (.lst (gs.map .str)),.o (.dct []),.no,.no,.no,.no] D:=by
  have sl:=sizeLine_eq;have l0:(0:Int)<((ms.map T.str).length:Nat):=by rw[Yc];omega
  have l1:(((ms.map T.str).length:Nat):Int)<=1000000:=by rw[Yc];omega
  refine Us (λrest p=>∃rs XD ss zs i l k s5 s6,rest=rs.map pr2/\p=[.o (Zb zs i l k),.f (.lst (ms.map .str)),S1,.f (.lst (gs.map .str)),.o (.dct XD),s5,s6,.no,.no]/\TP (Zb zs i l k)/\Pls ms gs XD ss/\(∀q∈ms.zip gs,q∈rs\/Jo q.2\/q.1∈ss)/\∀q∈rs,q∈ms.zip gs) ⟨ms.zip gs,[],[],zs,i,l,k,_,_,rfl,rfl,tp,⟨⟨rfl,List.Pairwise.nil,λx m=>absurd m Ve,λx m=>absurd m Ve⟩,λx t z=>(nomatch z),λx m=>absurd m Ve⟩,λq m=>.inl m,λq m=>m⟩ (λx r p D' hi nx _=>?_) λp hi=>?_
  . obtain⟨rs,XD,ss,zs,i,l,k,s5,s6,hr,rfl,tp,hf,hq,hm⟩:=hi
    cases rs with
    | nil=>cases hr
    | cons yg rs =>
      obtain⟨y,g⟩:=yg;cases hr;have hz:=List.of_mem_zip (hm _ Yu);have dz:∀q∈rs,q∈ms.zip gs:=λq m=>hm q (Y3 _ m);have hl:XD.length<sizeLine:=by have:=hf.f.len;have:=Ue hf.f.d hf.f.n;omega
      have more:¬ Jo g->∀t zs i l k,TP (Zb zs i l k)->Zxy ms t->D'.nx [.o (Zb zs i l k),.f (.lst (ms.map .str)),S1,.f (.lst (gs.map .str)),.o (.dct (Yw XD (.inr y) t)),.f (.str y),.f (.str g),.no,.no]:=λng t zs i l k tp ht=>by
        obtain⟨us,h1,h2,_⟩:=hf.f.put hz.1 ht.1;refine nx _ ⟨rs,_,us,zs,i,l,k,_,_,rfl,rfl,tp,⟨h1,λx u e=>?_,λx m=>?_⟩,λq mq=>?_,dz⟩
        . rw[Yq]at e
          split at e
          . cases e;exact ht.2
          . exact hf.n x u e
        . rcases(h2 x).mp m with m | rfl
          . exact hf.g x m
          . exact⟨g,hm _ Yu,ng⟩
        rcases hq q mq with z | z | z
        . rcases Yf.mp z with rfl | z
          . exact .inr (.inr ((h2 _).mpr (.inr rfl)))
          . exact .inl z
        . exact .inr (.inl z)
        . exact .inr (.inr ((h2 _).mpr (.inl z)))
      rcases vf (hg g hz.2) with h | h | h
      . rcases h with rfl | rfl | rfl
        . refine F9 (H.pl ms (.inl rfl)) tp λr zs i l k hr tp=>?_
          obtain⟨t,rfl,ht⟩:=hr;refine Nr hl ?_;exact more (by unfold Jo;decide +kernel) _ _ _ _ _ tp ht
        . refine F9 (H.pl ms (.inr (.inl rfl))) tp λr zs i l k hr tp=>?_
          obtain⟨t,rfl,ht⟩:=hr;refine Nr hl ?_;exact more (by unfold Jo;decide +kernel) _ _ _ _ _ tp ht
        . refine F9 (H.pl ms (.inr (.inr rfl))) tp λr zs i l k hr tp=>?_
          obtain⟨t,rfl,ht⟩:=hr;refine Nr hl ?_;exact more (by unfold Jo;decide +kernel) _ _ _ _ _ tp ht
      . rcases h with rfl | rfl
        . refine Zm H.dr tp l0 l1 λr zs i l k r0 r1 tp=>?_
          refine Vf r0 r1 λo ho=>?_;refine Zm H.dr tp XH XH λr zs i l k r0 r1 tp=>?_;refine Dv 0 20 r0 r1 rfl λj j0 j1 _=>?_;refine Nr hl ?_;exact more (by unfold Jo;decide +kernel) _ _ _ _ _ tp ⟨.row ho j0 j1,λ_ _ z=>(nomatch z)⟩
        . refine Zm H.dr tp l0 l1 λr zs i l k r0 r1 tp=>?_
          refine Vf r0 r1 λo ho=>?_;refine Zm H.dr tp XH XH λr zs i l k r0 r1 tp=>?_;refine Dv 0 20 r0 r1 rfl λj j0 j1 _=>?_;refine Nr hl ?_;exact more (by unfold Jo;decide +kernel) _ _ _ _ _ tp ⟨.map ho j0 j1,λ_ _ z=>(nomatch z)⟩
      . have no:D'.nx [.o (Zb zs i l k),.f (.lst (ms.map .str)),S1,.f (.lst (gs.map .str)),.o (.dct XD),.f (.str y),.f (.str g),.no,.no]:=by
          refine nx _ ⟨rs,_,ss,zs,i,l,k,_,_,rfl,rfl,tp,hf,λq mq=>?_,dz⟩;rcases hq q mq with z | z | z
          . rcases Yf.mp z with rfl | z
            . exact .inr (.inl h)
            . exact .inl z
          . exact .inr (.inl z)
          . exact .inr (.inr z)
        rcases h with rfl | rfl
        . exact no
        . exact no
  . obtain⟨rs,XD,ss,zs,i,l,k,s5,s6,hr,rfl,tp,hf,hq,hm⟩:=hi
    refine q XD ss zs i l k s5 s6 tp hf λq mq=>?_;rcases hq q mq with z | z
    . cases rs with
      | nil=>cases z
      | cons _ _=>cases hr
    . exact z
set_option maxHeartbeats 2000000 in
theorem make2{w:W}(H:MkC w.C){t0:T}{ms gs:ZD}(md:ms.Nodup)(n0:0<ms.length)(n8:ms.length<=8){D:En}{S1:Sl}{T6:ZX}{ss0:ZD}(hp0:Pls ms gs T6 ss0)
    (q:∀XD ss zs i l k s4 s5 s6 s8,TP (Zb zs i l k)->Gd ms XD ss->N8 XD->(∀q∈ms.zip gs,q.1∈ss)->D.nx [.o (Zb zs i l k),.f (.lst (ms.map .str)),S1,.f (.lst (gs.map .str)),s4,s5,s6,.o (.dct XD),s8])
    {zs:ZL} {i l k:Int} (tp:TP (Zb zs i l k)) (hg:∀g∈gs,g∈Bc) (h0:∀q∈ms.zip gs,Jo q.2\/q.1∈ss0) (s5 s6:Sl) :
    Rg (λx s D=>on (asg (.tup (Zk (.v 5) (.v 6))) x s) λs1=>wS w (Vu [.o t0]) (.seq (.ite (.pr (.cm .isin) (Zk (.v 6) (.tup (Zk (ks "record") (ks "choice")))))
    (.seq (.set 8 (.call "_law_parts" (Ax (.io 0) (.v 1) (.v 4) (.v 6))))
   (.seq (.put 7 (.v 5) (.tup (Ju (.v 6) (.v 8) (.call "_law_struck" (Zk (.io 0) (.v 8))))))
   .nil))
    .nil)
   (.seq (.ite (Y4 (.v 6) (ks "choice"))
    (Y0 (.put 7 (.v 5) (Dg (Zv (.v 7) (.v 5)) (.tup (Za (Y4 (.call "_law_draw" (Zk (.io 0) (ki 2))) (ki 1)))))))
    .nil)
   .nil)) s1 D) ((ms.zip gs).map pr2) [.o (Zb zs i l k),.f (.lst (ms.map .str)),S1,.f (.lst (gs.map .str)),.o (.dct T6),s5,s6,.o (.dct T6),.no] D:=by
  have sl:=sizeLine_eq;have hf0:=hp0.f;refine Us (λrest p=>∃rs XD ss zs i l k s4 s5 s6 s8,rest=rs.map pr2/\p=[.o (Zb zs i l k),.f (.lst (ms.map .str)),S1,.f (.lst (gs.map .str)),s4,s5,s6,.o (.dct XD),s8]/\OF s4 (.dct T6)/\TP (Zb zs i l k)/\Gd ms XD ss/\(N8 XD/\(∀o s,Zg T6 (.inr o)=some s->Zg XD (.inr o)=some s)/\∀x t,Zg XD (.inr x)=some t->Zg T6 (.inr x)=some t\/∀d,¬ Jc t d)/\(∀q∈ms.zip gs,(Jo q.2/\q∈rs)\/q.1∈ss)/\∀q∈rs,q∈ms.zip gs) ⟨ms.zip gs,T6,ss0,zs,i,l,k,_,_,_,_,rfl,rfl,.inl rfl,tp,hf0,⟨λx t e ps us e'=>absurd e' (hp0.n x t e ps us),λ_ _ e=>e,λ_ _ e=>.inl e⟩,λq m=>(h0 q m).imp (λz=>⟨z,m⟩) id,λq m=>m⟩ (λx r p D' hi nx _=>?_) λp hi=>?_
  . obtain⟨rs,XD,ss,zs,i,l,k,s4,s5,s6,s8,hr,rfl,qk,tp,hf,⟨hx,hK,hN⟩,hq,hm⟩:=hi
    cases rs with
    | nil=>cases hr
    | cons yg rs =>
      obtain⟨y,g⟩:=yg;cases hr;have hz:=List.of_mem_zip (hm _ Yu);have dz:∀q∈rs,q∈ms.zip gs:=λq m=>hm q (Y3 _ m);have hl:XD.length<100:=by have:=hf.len;have:=Ue hf.d hf.n;omega
      have hk0:∀x t,Zg T6 x=some t->Shp ms t:=λx t e=>by
        obtain⟨p,mp,rfl,_⟩:=M0 e;exact hf0.p p mp
      have more:Jo g->∀t zs i l k s8,TP (Zb zs i l k)->Shp ms t->(∀d,¬ Jc t d)->R3 XD t->D'.nx [.o (Zb zs i l k),.f (.lst (ms.map .str)),S1,.f (.lst (gs.map .str)),.f (.dct T6),.f (.str y),.f (.str g),.o (.dct (Yw XD (.inr y) t)),s8]:=λrc t zs i l k s8 tp ht nt ft=>by
        obtain⟨us,h1,h2,_⟩:=hf.put hz.1 ht
        have y0:Zg T6 (.inr y)=none:=by
          cases e:Zg T6 (.inr y) with
          | none=>rfl
          | some u =>
            have:=Lr e;rw[hf0.k]at this;obtain⟨y',my,ey⟩:=Ry.mp this;cases ey;obtain⟨g',mg,ng⟩:=hp0.g _ my;rw[Hz md (hm _ Yu) mg]at rc;exact absurd rc ng
        have kp:qw XD (Yw XD (.inr y) t):=T8 λu d e f=>by
          rcases hN y u e with z | z
          . rw[y0]at z;cases z
          . exact absurd f (z d)
        refine nx _ ⟨rs,_,us,zs,i,l,k,_,_,_,_,rfl,rfl,.inr rfl,tp,h1,⟨hx.put kp ft,λo u e=>?_,λo u e=>?_⟩,λq mq=>?_,dz⟩
        . rw[Yq]
          split
          . rename_i z;cases z;rw[y0]at e;cases e
          . exact hK o u e
        . rw[Yq]at e
          split at e
          . cases e;exact .inr nt
          . exact hN o u e
        rcases hq q mq with ⟨z1,z⟩ | z
        . rcases Yf.mp z with rfl | z
          . exact .inr ((h2 _).mpr (.inr rfl))
          . exact .inl ⟨z1,z⟩
        . exact .inr ((h2 _).mpr (.inl z))
      rcases vf (hg g hz.2) with h | h | h
      . have ng:¬ Jo g:=by rcases h with rfl | rfl | rfl<;>(unfold Jo;decide +kernel)
        have no:D'.nx [.o (Zb zs i l k),.f (.lst (ms.map .str)),S1,.f (.lst (gs.map .str)),s4,.f (.str y),.f (.str g),.o (.dct XD),s8]:=by
          refine nx _ ⟨rs,_,ss,zs,i,l,k,_,_,_,_,rfl,rfl,qk,tp,hf,⟨hx,hK,hN⟩,λq mq=>?_,dz⟩;rcases hq q mq with ⟨z1,z⟩ | z
          . rcases Yf.mp z with rfl | z
            . exact absurd z1 ng
            . exact .inl ⟨z1,z⟩
          . exact .inr z
        rcases h with rfl | rfl | rfl<;>exact no
      . have ng:¬ Jo g:=by rcases h with rfl | rfl<;>(unfold Jo;decide +kernel)
        have no:D'.nx [.o (Zb zs i l k),.f (.lst (ms.map .str)),S1,.f (.lst (gs.map .str)),s4,.f (.str y),.f (.str g),.o (.dct XD),s8]:=by
          refine nx _ ⟨rs,_,ss,zs,i,l,k,_,_,_,_,rfl,rfl,qk,tp,hf,⟨hx,hK,hN⟩,λq mq=>?_,dz⟩;rcases hq q mq with ⟨z1,z⟩ | z
          . rcases Yf.mp z with rfl | z
            . exact absurd z1 ng
            . exact .inl ⟨z1,z⟩
          . exact .inr z
        rcases h with rfl | rfl<;>exact no
      . rcases h with rfl | rfl
        . refine Ay qk rfl ?_
          refine F9 (H.pa "record" n0 n8 hk0) tp λr zs i l k hr tp=>?_;obtain⟨ps,rfl,hps,hpf⟩:=hr;refine F9 (H.st hps) tp λr zs i l k hr tp=>?_;obtain⟨us,rfl,hus⟩:=hr;refine Nr XH ?_;exact more (.inl rfl) _ _ _ _ _ _ tp (.record hps hus) (λd z=>by cases z) λSg us' e p m=>by cases e;exact(hpf p m).keep λo u d e _=>hK o u e
        . refine Ay qk rfl ?_
          refine F9 (H.pa "choice" n0 n8 hk0) tp λr zs i l k hr tp=>?_;obtain⟨ps,rfl,hps,hpf⟩:=hr;refine F9 (H.st hps) tp λr zs i l k hr tp=>?_;obtain⟨us,rfl,hus⟩:=hr;refine Nr XH ?_;refine Jw (x:=.tup [.str "choice",.tup ps,.tup us]) (by rw[Yq,if_pos rfl]) ?_;refine Zm H.dr tp XH XH λr zs i l k r0 r1 tp=>?_;have e:=hf.len;obtain⟨us',h1,_⟩:=T7 (x:=y) (v:=.tup [.str "choice",.tup ps,.tup us]) hf.k hf.d;refine Nr ?_ ?_
          . unfold Yw
            split
            . rw[Yc];omega
            . rw[Qw,ZE];omega
          . rw[aw]
            exact more (.inr rfl) _ _ _ _ _ _ tp (.choice hps hus) (λd z=>by cases z) λSg us' e p m=>by cases e
  . obtain⟨rs,XD,ss,zs,i,l,k,s4,s5,s6,s8,hr,rfl,qk,tp,hf,⟨hx,hK,hN⟩,hq,hm⟩:=hi
    refine q XD ss zs i l k s4 s5 s6 s8 tp hf hx λq mq=>?_;rcases hq q mq with ⟨_,z⟩ | z
    . cases rs with
      | nil=>cases z
      | cons _ _=>cases hr
    . exact z
set_option maxHeartbeats 2000000 in
theorem ip{w:W}(H:MkC w.C):Td Jb w [] Cz:=by
 intro zs i l k tp;refine Ya rfl λD rt _=>?_;refine F9 H.nm tp λr zs i l k hr tp=>?_;obtain⟨ns,rfl,l8,nd,po⟩:=hr;refine Zm H.dr tp XH XH λr zs i l k r0 r1 tp=>?_;refine Dv 1 8 r0 r1 rfl λj j1 j8 _=>?_;have e:G6 (ns.map .str) none (some j)=(ns.take j.toNat).map .str:=by rw[cut_to XH (by rw[Yc];omega),List.map_take]
 show wS w _ _ [.o (Zb zs i l k),.o (.lst (G6 (ns.map .str) none (some j))),.no,.no,.no,.no,.no,.no,.no] _;rw[e];have m0:0<(ns.take j.toNat).length:=by rw[L0t];omega
 have m8:(ns.take j.toNat).length<=8:=by rw[L0t];omega
 have md:(ns.take j.toNat).Nodup:=(List.take_sublist _ _).nodup nd;have mp:∀x∈ns.take j.toNat,x∈nj:=λx m=>po x (List.mem_of_mem_take m);generalize ns.take j.toNat=ms at m0 m8 md mp ⊢;refine Uy (λrest acc p=>∃gs zs i l k s0,acc=gs.map T.str/\gs.length+rest.length=ms.length/\(∀g∈gs,g∈Bc)/\TP (Zb zs i l k)/\p=[s0,.o (.lst (Bc.map .str)),.o (Zb zs i l k)]) ⟨[],zs,i,l,k,_,rfl,by simp,λg m=>absurd m Ve,tp,rfl⟩ (λx r acc p K hi ky kn=>?_) λacc p hi=>?_
 .obtain⟨gs,zs,i,l,k,s0,rfl,hl,hg,tp,rfl⟩:=hi;refine Zm H.dr tp XH XH λr zs i l k r0 r1 tp=>?_;refine Vf (ss:=Bc) r0 r1 λg mg=>?_;refine ky _ _ ⟨gs++[g],zs,i,l,k,_,by rw[Xy];rfl,by rw[Qw,ZE];rw[B9]at hl;omega,λa ma=>?_,tp,rfl⟩;rcases qj.mp ma with ma | ma
  .exact hg a ma
  .cases Nm.mp ma;exact mg
 obtain⟨gs,zs,i,l,k,s0,rfl,hl,hg,tp,rfl⟩:=hi;have hl:ms.length=gs.length:=by simpa using hl.symm
 show wS w _ _ [.o (Zb zs i l k),.f (.lst (ms.map .str)),.o (.lst (Bc.map .str)),.o (.lst (gs.map .str)),.no,.no,.no,.no,.no] _;refine Zxk (Tz ms gs) ?_;refine make1 H m0 m8 (λXD ss zs i l k s5 s6 tp hf hq=>?_) tp hg;refine Zxk (Tz ms gs) ?_;refine make2 H md m0 m8 hf (λXD ss zs i l k s4 s5 s6 s8 tp hf hfit hq=>?_) tp hg hq s5 s6;have l0:(0:Int)<((ms.map T.str).length:Nat):=by rw[Yc];omega
 have l1:(((ms.map T.str).length:Nat):Int)<=1000000:=by rw[Yc];omega
 refine Zm H.dr tp l0 l1 λr zs i l k r0 r1 tp=>?_;refine Vf r0 r1 λo ho=>?_
 have sub:∀x∈ms,x∈ss:=λx m=>by
  obtain⟨y,my⟩:=Ml hl m;exact hq _ my
 have le:=Ue hf.d hf.n;have ge:=Ue md sub;refine Z9 (H.lt (root:=o) (XD:=XD) (ss:=ss) ⟨⟨hf.k,hf.d,λx m=>m,λp m=>(hf.p p m).mono sub⟩,by omega,by omega,λx m=>mp x (hf.n x m),sub o ho,hfit⟩) λx hx=>?_;obtain⟨Vb,hm,rfl⟩:=hx;exact rt _ _ ⟨_,_,⟨_,_,_,rfl,hm⟩,tp,rfl⟩
def isIn(lo hi:Int)(t:T):Prop:=∃v:Int,t=.int v/\lo<=v/\v<=hi
theorem Nh{w:W}(hD:Uv w.C){n lo hi:Int}(h:lo<=hi):Td Yz w [.f (.int n),.f (.int lo),.f (.int hi)] (lq (isIn lo hi)):=by
 intro zs i l k tp;refine Ya rfl λD rt _=>?_;refine Zm hD tp XH XH λr zs i l k r0 r1 tp=>?_;refine Dv (-1) 2 r0 r1 rfl λd _ _ _=>?_;exact rt _ _ ⟨.f (.int (if (if n+d<hi then n+d else hi)>lo then (if n+d<hi then n+d else hi) else lo)),_,⟨_,rfl,_,rfl,by split<;>omega,by split<;>split<;>omega⟩,tp,rfl⟩
def Zqr(C:Cs):Prop:=∀{n lo hi:Int},lo<=hi->Tp C "_law_number_turned" [.f (.int n),.f (.int lo),.f (.int hi)] (lq (isIn lo hi))
theorem P0{ns:ZD}{k:Bool}:∀{ps:ZZ},(∀t∈ps,C9 ns k t)->Ud ps=some (ps.map Ut)
 | [],_=>rfl
 | t::ps,h=>by
  have ih:=P0 λt m=>h t (Y3 _ m);cases h t Yu with
  | mk _ _ _ _ =>
   show (Ud ps).map _=_;rw[ih];rfl
theorem si{ns:ZD}{k:Bool}{ps:ZZ}(h:Y2 ns k ps):∃us,Xp ps=some us/\Y2 ns k us:=by
 have hh:=P0 h.p
 have pm:((SRT.Jp ((ps.map Ut).zip ps)).map (·.2)).Perm ps:=by
  have:=(SRT.Ua ((ps.map Ut).zip ps)).map (·.2);rw[List.map_snd_zip (by rw[Yc];omega)]at this;exact this
 refine⟨(SRT.Jp ((ps.map Ut).zip ps)).map (·.2),?_,?_,?_,λt m=>h.p t (pm.mem_iff.mp m)⟩
 .unfold Xp;rw[hh];show (if _ then _ else _)=_;rw[if_pos ⟨h.d,by have:=h.l;omega⟩]
 .rw[pm.length_eq];exact h.l
 .exact((pm.map Ut).nodup_iff).mpr h.d
theorem Y2.set{ns:ZD}{k:Bool}{ps:ZZ}{j:Nat}{x y:T}(h:Y2 ns k ps)(e:ps[j]?=some x)(hy:C9 ns k y)(hd:Ut y=Ut x):Y2 ns k (ps.set j y):=by
 have em:(ps.set j y).map Ut=ps.map Ut:=by
  rw[List.map_set];refine List.ext_getElem? λi=>?_;rw[List.getElem?_set]
  split
  .rename_i z
   subst z;have hl:=(Rk.mp e).1;rw[if_pos (by rw[Yc];exact hl),Qv,e,hd];rfl
  .rfl
 refine⟨by rw[XG];exact h.l,by rw[em];exact h.d,λp m=>?_⟩;rcases List.mem_or_eq_of_mem_set m with m | rfl
 .exact h.p p m
 .exact hy
theorem Y2.app{ns:ZD}{k:Bool}{ps:ZZ}{y:T}(h:Y2 ns k ps)(l:ps.length<8)(hy:C9 ns k y)(hd:∀z∈ps.map Ut,z≠Ut y):Y2 ns k (ps++[y]):=by
 refine⟨by rw[Qw,ZE];omega,?_,λp m=>?_⟩
 .rw[Xy,List.nodup_append];refine⟨h.d,by simp,λa ma b mb=>?_⟩;rw[show b=Ut y by simpa using mb];exact hd a ma
 .rcases qj.mp m with m | m
  .exact h.p p m
  .cases Nm.mp m;exact hy
theorem y2{ts:ZZ}{i:Int}{t:T}{Q:T->Prop}(h0:0<=i)(h1:i<ts.length)(q:Q (.lst (ts.set i.toNat t))):on (putAt (.lst ts) (.int i) t) Q:=by
 refine Z4 ?_ q;show (Sr ts.length i).map _=_;unfold Sr;rw[if_pos h0,if_pos h1];rfl
theorem Zxx{ts:ZZ}{i:Int}{t:T}(h0:0<=i)(h1:i<ts.length):C3 (ts.set i.toNat t) i=some t:=by
 unfold C3 Sr;rw[if_pos h0,XG,if_pos h1];show (ts.set i.toNat t)[i.toNat]?=_;rw[List.getElem?_set_self XH]
noncomputable def Lm(k:Bool)(ps us:ZZ)(b:Bool):T:=match k with
 | true=>.tup [.str "record",.tup ps,.tup us]
 | false=>.tup [.str "choice",.tup ps,.tup us,.bl b]
set_option maxHeartbeats 2000000 in
theorem wt{w:W}(hD:Uv w.C){ns:ZD}{a0:List Sl}{k:Bool}{ps0 us ps:ZZ}{b:Bool}(hs:Stk us)(hp:Y2 ns k ps){D:En}{N1:Sl}(rt:∀r zs i l k' p,TP (Zb zs i l k')->Shp ns r->p.length=12->D.rt (.f r) (.o (Zb zs i l k')::p))
  {zs:ZL} {i l k':Int} (tp:TP (Zb zs i l k')) (t0:T) (s3 s4 s6 s7 s8 s9:Sl) :
  wS w (Vu [.o t0,.f (.lst (ns.map .str)),.f (Lm k ps0 us b)]) (Vt 8 Zy) [.o (Zb zs i l k'),N1,.f (Lm k ps0 us b),s3,s4,.o (.lst ps),s6,s7,s8,s9,.no,.no,.no] D:=by
 obtain⟨zz,rfl,zl,zb⟩:=hs;obtain⟨qs,eq,hq⟩:=si hp;cases k
 all_goals
  refine Ao hp.p λs0=>?_;refine Uy (λrest acc p=>∃rs ms s0,rest=rs.map T.int/\acc=ms.map T.int/\(ms++rs).Sublist zz/\p=[s0,.o (.lst ((ps.map Ut).map .int))]) ⟨zz,[],_,rfl,rfl,List.Sublist.refl _,rfl⟩ (λx r acc p K hi ky kn=>?_) λacc p hi=>?_
  .obtain⟨rs,ms,s0,hr,rfl,hs,rfl⟩:=hi;cases rs with
   | nil=>cases hr
   | cons z rs =>
    cases hr;refine Lc ?_;refine Zt (b:=!((ps.map Ut).any λy=>decide (y=z))) (λ_=>?_) λ_=>?_
    .exact ky _ _ ⟨rs,ms++[z],_,rfl,by rw[Xy];rfl,by rw[XQ];exact hs,rfl⟩
    .exact kn _ ⟨rs,ms,_,rfl,rfl,(List.Sublist.append (List.Sublist.refl _) (List.sublist_cons_self _ _)).trans hs,rfl⟩
  obtain⟨rs,ms,s0,hr,rfl,hs,rfl⟩:=hi;have hs:ms.Sublist zz:=(List.sublist_append_left _ _).trans hs;have st:Stk (ms.map .int):=⟨ms,rfl,D0 hs.length_le zl,λz m=>zb z (hs.subset m)⟩;refine srtP eq ?_
 .refine Zm hD tp XH XH λr zs i l k r0 r1 tp=>?_;exact rt _ _ _ _ _ _ tp (.choice hq st) rfl
 .exact rt _ _ _ _ _ _ tp (.record hq st) rfl
theorem bit{b:Bool}:(0:Int)<=(if b=true then 1 else 0)/\(if b=true then (1:Int) else 0)<2:=by cases b<;>decide
theorem Te:∀a∈[("f" : Str),"g","h","k","b"],a.length=1/\∀c∈a.cps.toList,c<16 ^ 8:=by decide +kernel
def xf:S->S
 | .seq (.ite _ _ b) _=>b
 | s=>s
theorem Au{j:Int}(h:T.int j∈[1,2,3,9,10,500].map T.int):j∈G9:=by
 obtain⟨z,mz,ez⟩:=Ry.mp h;cases ez;exact(show ∀z∈[1,2,3,9,10,500],z∈G9 by decide) j mz
set_option maxHeartbeats 4000000 in
theorem Hy{w:W}(hD:Uv w.C)(hW:Sw w.C){ns:ZD}(n0:0<ns.length)(n8:ns.length<=8){k:Bool}{us ps:ZZ}{b:Bool}(hs:Stk us)(hp:Y2 ns k ps){D:En}(rt:∀r zs i l k' p,TP (Zb zs i l k')->Shp ns r->p.length=12->D.rt (.f r) (.o (Zb zs i l k')::p))
  {zs:ZL} {i l k':Int} (tp:TP (Zb zs i l k')) (t0:T) :
  wS w (Vu [.o t0,.f (.lst (ns.map .str)),.f (Lm k ps us b)]) (Vt 4 Zy) [.o (Zb zs i l k'),.f (.lst (ns.map .str)),.f (Lm k ps us b),.no,.no,.no,.no,.no,.no,.no,.no,.no,.no] D:=by
 have sl:=sizeLine_eq;have l0:(0:Int)<((ns.map T.str).length:Nat):=by rw[Yc];omega
 have l1:(((ns.map T.str).length:Nat):Int)<=1000000:=by rw[Yc];omega
 have pl:=hp.l;have fin:∀{Sg:ZZ} {zs i l k'} (s3 s4 s6 s7 s8 s9:Sl),TP (Zb zs i l k')->Y2 ns k Sg->wS w (Vu [.o t0,.f (.lst (ns.map .str)),.f (Lm k ps us b)]) (Vt 8 Zy) [.o (Zb zs i l k'),.f (.lst (ns.map .str)),.f (Lm k ps us b),s3,s4,.o (.lst Sg),s6,s7,s8,s9,.no,.no,.no] D:=λs3 s4 s6 s7 s8 s9 tp hp'=>wt hD (a0:=[]) hs hp' rt tp t0 s3 s4 s6 s7 s8 s9;cases k
 all_goals
  refine Zm hD tp XH XH λa zs i l k a0 a1 tp=>?_;refine Zm hD tp XH XH λway zs i l k w0 w1 tp=>?_;show wS w _ _ [.o (Zb zs i l k),.f (.lst (ns.map .str)),.f (Lm _ ps us b),.no,.no,.o (.lst ps),.f (.int a),.f (.int way),.no,.no,.no,.no,.no] _
 .have tm:wS w (Vu [.o t0,.f (.lst (ns.map .str)),.f (Lm false ps us b)]) (xf (xf (Vt 7 Zy))) [.o (Zb zs i l k),.f (.lst (ns.map .str)),.f (Lm false ps us b),.no,.no,.o (.lst ps),.f (.int a),.f (.int way),.no,.no,.no,.no,.no] ⟨λq=>wS w (Vu [.o t0,.f (.lst (ns.map .str)),.f (Lm false ps us b)]) (Vt 8 Zy) q D,D.rt,D.bk,D.ct⟩:=by
   refine Zm hD tp XH XH λr zs i l k r0 r1 tp=>?_;refine Dv 1 500 r0 r1 rfl λj _ _ mj=>?_;have hj:j∈G9:=Au mj;refine Qk hW hj ?_;have Ig:=D8 (Te "k" XU) hj;refine Sq (by have:=Ig.1;rw[Str.length_append]at this;omega) ?_;refine Zm hD tp l0 l1 λr zs i l k r0 r1 tp=>?_;refine Vf r0 r1 λo ho=>?_;refine Ao hp.p λs0=>?_;refine Lc ?_;refine Zt (b:=!((ps.map Ut).any λy=>decide (y=j))) (λh=>?_) λ_=>fin _ _ _ _ _ _ tp hp;refine Zt (b:=decide (((ps.length:Nat):Int)<8)) (λh2=>?_) λ_=>fin _ _ _ _ _ _ tp hp;have h2:=Dc h2;refine Vr XH ?_;exact fin _ _ _ _ _ _ tp (hp.app XH (.mk hj Ig ho trivial) (c6 h))
  have els:wS w (Vu [.o t0,.f (.lst (ns.map .str)),.f (Lm false ps us b)]) (xf (Vt 7 Zy)) [.o (Zb zs i l k),.f (.lst (ns.map .str)),.f (Lm false ps us b),.no,.no,.o (.lst ps),.f (.int a),.f (.int way),.no,.no,.no,.no,.no] ⟨λq=>wS w (Vu [.o t0,.f (.lst (ns.map .str)),.f (Lm false ps us b)]) (Vt 8 Zy) q D,D.rt,D.bk,D.ct⟩:=by
   refine Zt (b:=decide (way<3)) (λ_=>?_) λ_=>tm;refine Zt (b:=decide (a<((ps.length:Nat):Int))) (λh2=>?_) λ_=>tm;have h2:=Dc h2;obtain⟨x,atx,gx,mx⟩:=C2 a0 h2;obtain⟨n,y,o,rfl,hn,hy,ho⟩:=(hp.p x mx).cho;refine Na atx ?_;refine Zm hD tp l0 l1 λr zs i l k r0 r1 tp=>?_;refine Vf r0 r1 λo1 Ss=>?_;refine Zm hD tp XH XH λr zs i l k r0 r1 tp=>?_;refine Vf (ss:=[o,o1]) (bit (b:=decide (r=0))).1 (bit (b:=decide (r=0))).2 λo2 Nf=>?_
   have Nf:o2∈ns:=by
    simp only[Yf,Ve,or_false]at Nf;rcases Nf with rfl | rfl
    .exact ho
    .exact Ss
   refine Na atx ?_;refine Na atx ?_;refine Qk hW hn ?_;have Ig:=D8 (Te "h" XU) hn;refine Sq (by have:=Ig.1;rw[Str.length_append]at this;omega) ?_;refine Na atx ?_;refine y2 a0 h2 ?_;exact fin _ _ _ _ _ _ tp (hp.set gx (.mk hn Ig Nf trivial) rfl)
  refine Zt (b:=decide (way=0)) (λ_=>?_) λ_=>els;refine Zt (b:=decide (a<((ps.length:Nat):Int))) (λh2=>?_) λ_=>els;refine popP a0 (Dc h2) λx _ _=>?_;exact fin _ _ _ _ _ _ tp (hp.sub (List.eraseIdx_sublist _ _))
 .have tm:wS w (Vu [.o t0,.f (.lst (ns.map .str)),.f (Lm true ps us b)]) (xf (xf (Vt 7 Zy))) [.o (Zb zs i l k),.f (.lst (ns.map .str)),.f (Lm true ps us b),.no,.no,.o (.lst ps),.f (.int a),.f (.int way),.no,.no,.no,.no,.no] ⟨λq=>wS w (Vu [.o t0,.f (.lst (ns.map .str)),.f (Lm true ps us b)]) (Vt 8 Zy) q D,D.rt,D.bk,D.ct⟩:=by
   refine Zm hD tp XH XH λr zs i l k r0 r1 tp=>?_;refine Dv 1 500 r0 r1 rfl λj _ _ mj=>?_;have hj:j∈G9:=Au mj;refine Qk hW hj ?_;have Ig:=D8 (Te "k" XU) hj;refine Sq (by have:=Ig.1;rw[Str.length_append]at this;omega) ?_;refine Zm hD tp l0 l1 λr zs i l k r0 r1 tp=>?_;refine Vf r0 r1 λo ho=>?_;refine Zm hD tp XH XH λr zs i l k r0 r1 tp=>?_;refine ixP r0 r1 λd _ md=>?_
   have hd:rb d:=by
    simp only[Yf,Ve,or_false]at md;rcases md with rfl | rfl
    .exact .no
    .exact .is (.int (by unfold Sh;decide))
   refine Ao hp.p λs0=>?_;refine Lc ?_;refine Zt (b:=!((ps.map Ut).any λy=>decide (y=j))) (λh=>?_) λ_=>fin _ _ _ _ _ _ tp hp;refine Zt (b:=decide (((ps.length:Nat):Int)<8)) (λh2=>?_) λ_=>fin _ _ _ _ _ _ tp hp;have h2:=Dc h2;refine Vr XH ?_;exact fin _ _ _ _ _ _ tp (hp.app XH (.mk hj Ig ho hd) (c6 h))
  have els:wS w (Vu [.o t0,.f (.lst (ns.map .str)),.f (Lm true ps us b)]) (xf (Vt 7 Zy)) [.o (Zb zs i l k),.f (.lst (ns.map .str)),.f (Lm true ps us b),.no,.no,.o (.lst ps),.f (.int a),.f (.int way),.no,.no,.no,.no,.no] ⟨λq=>wS w (Vu [.o t0,.f (.lst (ns.map .str)),.f (Lm true ps us b)]) (Vt 8 Zy) q D,D.rt,D.bk,D.ct⟩:=by
   refine Zt (b:=decide (way<3)) (λ_=>?_) λ_=>tm;refine Zt (b:=decide (a<((ps.length:Nat):Int))) (λh2=>?_) λ_=>tm;have h2:=Dc h2;obtain⟨x,atx,gx,mx⟩:=C2 a0 h2;obtain⟨n,y,o,ds,rfl,hn,hy,ho,hd⟩:=(hp.p x mx).asR;refine Na atx ?_;refine Zm hD tp l0 l1 λr zs i l k r0 r1 tp=>?_;refine Vf r0 r1 λo1 Ss=>?_;refine Zm hD tp XH XH λr zs i l k r0 r1 tp=>?_;refine Vf (ss:=[o,o1]) (bit (b:=decide (r=0))).1 (bit (b:=decide (r=0))).2 λo2 Nf=>?_
   have Nf:o2∈ns:=by
    simp only[Yf,Ve,or_false]at Nf;rcases Nf with rfl | rfl
    .exact ho
    .exact Ss
   refine Na atx ?_;refine Na atx ?_;refine Qk hW hn ?_;have Ig:=D8 (Te "h" XU) hn;refine Sq (by have:=Ig.1;rw[Str.length_append]at this;omega) ?_;refine Na atx ?_;refine y2 a0 h2 ?_;have h1:=hp.set gx (.mk hn Ig Nf hd:C9 ns true (.tup [.int n,.str ("h" ++ wd n),.str o2,.tup ds])) rfl;refine Zm hD tp XH XH λr zs i l k r0 r1 tp=>?_;refine Zt (b:=decide (r=0)) (λ_=>?_) λ_=>fin _ _ _ _ _ _ tp h1;refine Zm hD tp XH XH λr zs i l k r0 r1 tp=>?_;refine ixP r0 r1 λs _ ms=>?_
   have hsd:rb s:=by
    simp only[Yf,Ve,or_false]at ms;rcases ms with rfl | rfl | rfl
    .exact .is (.int (by unfold Sh;decide))
    .exact .is (.int (by unfold Sh;decide))
    .exact .is (.str (Aw XU (Te "b" XU).2))
   have ga:=Zxx (t:=.tup [.int n,.str ("h" ++ wd n),.str o2,.tup ds]) a0 h2;refine Na ga ?_;refine Na ga ?_;refine ixP (bit (b:=ds.isEmpty)).1 (bit (b:=ds.isEmpty)).2 λd _ md=>?_
   have hd2:rb d:=by
    simp only[Yf,Ve,or_false]at md;rcases md with rfl | rfl
    .exact .no
    .exact hsd
   refine y2 a0 (by rw[XG];exact h2) ?_;refine fin _ _ _ _ _ _ tp (h1.set (x:=.tup [.int n,.str ("h" ++ wd n),.str o2,.tup ds]) ?_ (.mk hn Ig Nf hd2) rfl);rw[List.getElem?_set_self XH]
  refine Zt (b:=decide (way=0)) (λ_=>?_) λ_=>els;refine Zt (b:=decide (a<((ps.length:Nat):Int))) (λh2=>?_) λ_=>els;refine popP a0 (Dc h2) λx _ _=>?_;exact fin _ _ _ _ _ _ tp (hp.sub (List.eraseIdx_sublist _ _))
set_option maxHeartbeats 2000000 in
theorem Bl{w:W}(hD:Uv w.C)(hW:Sw w.C)(hT:Zqr w.C){ns:ZD}(n0:0<ns.length)(n8:ns.length<=8){t:T}(ht:Shp ns t):Td Yy w [.f (.lst (ns.map .str)),.f t] (lq (Shp ns)):=by
 intro zs i l k tp;have l0:(0:Int)<((ns.map T.str).length:Nat):=by rw[Yc];omega
 have l1:(((ns.map T.str).length:Nat):Int)<=1000000:=by rw[Yc];omega
 refine Ya rfl λD rt _=>?_
 have rt':∀r zs i l k' p,TP (Zb zs i l k')->Shp ns r->p.length=12->D.rt (.f r) (.o (Zb zs i l k')::p):=λr zs i l k' p tp hr hp=>by
  refine rt _ _ ?_
  match p,hp with
  | a::b::p,_=>exact⟨_,_,⟨_,rfl,hr⟩,tp,rfl⟩
 cases ht with
 | @whole a b ha hb _ =>
  refine S5 (ys:=[.int a,.int b]) rfl ?_;refine F9 (hT (lo:=-10 ^ 18) (hi:=10 ^ 18) XA) tp λr zs i l k hr tp=>?_;obtain⟨_,rfl,u,rfl,u0,u1⟩:=hr;refine F9 (hT (lo:=-10 ^ 18) (hi:=10 ^ 18) XA) tp λr zs i l k hr tp=>?_;obtain⟨_,rfl,v,rfl,v0,v1⟩:=hr;exact rt _ _ ⟨.f (.tup [.str "whole",.int (if v<u then v else u),.int (if u<v then v else u)]),_,⟨_,rfl,.whole ⟨by split<;>omega,by split<;>omega⟩ ⟨by split<;>omega,by split<;>omega⟩ (by split<;>split<;>omega)⟩,tp,rfl⟩
 | text h0 h1 =>
  refine F9 (hT (lo:=0) (hi:=200) XA) tp λr zs i l k hr tp=>?_;obtain⟨_,rfl,u,rfl,u0,u1⟩:=hr;exact rt _ _ ⟨_,_,⟨_,rfl,.text u0 u1⟩,tp,rfl⟩
 | truth =>
  refine Zm hD tp XH XH λr zs i l k r0 r1 tp=>?_;refine ixP r0 r1 λx _ mx=>?_;simp only[Yf,Ve,or_false]at mx;rcases mx with rfl | rfl | rfl
  .exact rt _ _ ⟨_,_,⟨_,rfl,.truth⟩,tp,rfl⟩
  .exact rt _ _ ⟨_,_,⟨_,rfl,.whole (by unfold Sh;decide) (by unfold Sh;decide) XA⟩,tp,rfl⟩
  .exact rt _ _ ⟨_,_,⟨_,rfl,.whole (by unfold Sh;decide) (by unfold Sh;decide) XA⟩,tp,rfl⟩
 | @row o n ho h0 h1 =>
  refine Zm hD tp l0 l1 λr zs i l k r0 r1 tp=>?_;refine Vf r0 r1 λo1 Ss=>?_;refine Zm hD tp XH XH λr zs i l k r0 r1 tp=>?_;refine Vf (ss:=[o,o1]) (bit (b:=decide (r=0))).1 (bit (b:=decide (r=0))).2 λo2 Nf=>?_
  have Nf:o2∈ns:=by
   simp only[Yf,Ve,or_false]at Nf;rcases Nf with rfl | rfl
   .exact ho
   .exact Ss
  refine F9 (hT (lo:=0) (hi:=20) XA) tp λr zs i l k hr tp=>?_;obtain⟨_,rfl,u,rfl,u0,u1⟩:=hr;exact rt _ _ ⟨_,_,⟨_,rfl,.row Nf u0 u1⟩,tp,rfl⟩
 | @map o n ho h0 h1 =>
  refine Zm hD tp l0 l1 λr zs i l k r0 r1 tp=>?_;refine Vf r0 r1 λo1 Ss=>?_;refine Zm hD tp XH XH λr zs i l k r0 r1 tp=>?_;refine Vf (ss:=[o,o1]) (bit (b:=decide (r=0))).1 (bit (b:=decide (r=0))).2 λo2 Nf=>?_
  have Nf:o2∈ns:=by
   simp only[Yf,Ve,or_false]at Nf;rcases Nf with rfl | rfl
   .exact ho
   .exact Ss
  refine F9 (hT (lo:=0) (hi:=20) XA) tp λr zs i l k hr tp=>?_;obtain⟨_,rfl,u,rfl,u0,u1⟩:=hr;exact rt _ _ ⟨_,_,⟨_,rfl,.map Nf u0 u1⟩,tp,rfl⟩
 | @record ps us hp hs=>exact Hy hD hW n0 n8 (k:=true) (b:=true) hs hp rt' tp (Zb zs i l k)
 | @choice ps us b hp hs=>exact Hy hD hW n0 n8 (k:=false) (b:=b) hs hp rt' tp (Zb zs i l k)
theorem maxB{lo hi:Int}{b c:Bool}(le:lo<=hi)(hc:c=decide ((if b=true then 1 else 0)<hi)){Q:Sl->Prop}(q:∀t,(t=.bl b/\lo<=(if b=true then 1 else 0)/\(if b=true then (1:Int) else 0)<=hi)\/(∃z,t=.int z/\lo<=z/\z<=hi)->Q (.f t)):on (Ld .max [.int lo,if c=true then .bl b else .int hi]) Q:=by
 cases c with
 | true =>
  have h1:=Dc hc.symm;show Q (.f (if decide ((if b=true then 1 else 0)>lo)=true then .bl b else .int lo));by_cases h2:(if b=true then (1:Int) else 0)>lo
  .rw[Gn h2,if_pos rfl];exact q _ (.inl ⟨rfl,by omega,by omega⟩)
  .rw[Gr h2,if_neg D5];exact q _ (.inr ⟨lo,rfl,Int.le_refl _,le⟩)
 | false =>
  show Q (.f (.int (if hi>lo then hi else lo)))
  split
  .exact q _ (.inr ⟨hi,rfl,le,Int.le_refl _⟩)
  .exact q _ (.inr ⟨lo,rfl,Int.le_refl _,le⟩)
theorem Mw{x:Str}(h:Sm x)(l u:ZR):Sm (Txt.slice x l u):=⟨D0 (Txt.slice_le x l u) h.1,λc m=>h.2 c (Xu x l u c m)⟩
theorem Eb{lo hi i:Int}(le:lo<=hi):lo<=(if (if i<hi then i else hi)>lo then (if i<hi then i else hi) else lo)+0/\(if (if i<hi then i else hi)>lo then (if i<hi then i else hi) else lo)+0<=hi:=by
 split<;>split<;>omega
theorem bnd_in{lo hi i:Int}(h1:Sh lo)(h2:Sh hi)(h:lo<=i/\i<=hi):Sh i:=by
 obtain⟨a,b⟩:=h1;obtain⟨c,d⟩:=h2;exact⟨by omega,by omega⟩
def ny(C:Cs):Prop:=∀{ns ss:ZD} {XD:ZX} {t:T},Gd ns XD ss->(∀x∈ns,x∈ss)->Shp ns t->on (C "_law_fixed" [.o (.dct XD),.f t]) λx=>∃u,(Shp ns u/\R3 XD u/\∀d,Jc t d->u=t)/\x=(.f u,[.dct XD])
set_option maxHeartbeats 4000000 in
theorem du{w:W}{ns ss:ZD}{XD:ZX}{t:T}(hf:Gd ns XD ss)(sub:∀x∈ns,x∈ss)(ht:Shp ns t):wF Uq w [.o (.dct XD),.f t] λx=>∃u,(Shp ns u/\R3 XD u/\∀d,Jc t d->u=t)/\x=(.f u,[.dct XD]):=by
 have sl:=sizeLine_eq;refine Ya rfl λD rt _=>?_;cases ht with
 | whole ha hb le=>exact rt _ _ ⟨_,⟨.whole ha hb le,λ_ _ e=>(by cases e),λ_ _=>rfl⟩,rfl⟩
 | truth=>exact rt _ _ ⟨_,⟨.truth,λ_ _ e=>(by cases e),λ_ _=>rfl⟩,rfl⟩
 | text h0 h1=>exact rt _ _ ⟨_,⟨.text h0 h1,λ_ _ e=>(by cases e),λ_ _=>rfl⟩,rfl⟩
 | row ho h0 h1=>exact rt _ _ ⟨_,⟨.row ho h0 h1,λ_ _ e=>(by cases e),λ_ _=>rfl⟩,rfl⟩
 | map ho h0 h1=>exact rt _ _ ⟨_,⟨.map ho h0 h1,λ_ _ e=>(by cases e),λ_ _=>rfl⟩,rfl⟩
 | choice hp hs=>exact rt _ _ ⟨_,⟨.choice hp hs,λ_ _ e=>(by cases e),λ_ _=>rfl⟩,rfl⟩
 | @record fs us hp hs =>
  have fl:=hp.l;refine Us (λrest p=>∃ps s3 s4 s5 s6 s7,p=[.o (.dct XD),.f (.tup [.str "record",.tup fs,.tup us]),.o (.lst ps),s3,s4,s5,s6,s7]/\ps.map Ut++rest.map Ut=fs.map Ut/\(∀p∈ps,C9 ns true p/\Sv XD p)/\∀x∈rest,x∈fs) ⟨[],_,_,_,_,_,rfl,rfl,λp m=>absurd m Ve,λx m=>m⟩ (λx r p D' hi nx _=>?_) λp hi=>?_
  .obtain⟨ps,s3,s4,s5,s6,s7,rfl,he,hq,hm⟩:=hi;obtain⟨n,y,o,ds,rfl,hn,hy,ho,hd⟩:=(hp.p x (hm _ Yu)).asR;have dz:∀x∈r,x∈fs:=λx m=>hm x (Y3 _ m);have hl:ps.length<sizeLine:=by have:=congrArg List.length he;simp at this;omega
   have more:∀d s3 s4 s5 s6 s7,rb d->(∀x,d=.tup [x]->∃s,Zg XD (.inr o)=some s/\Jc s x)->D'.nx [.o (.dct XD),.f (.tup [.str "record",.tup fs,.tup us]),.o (.lst (ps++[.tup [.int n,.str y,.str o,d]])),s3,s4,s5,s6,s7]:=λd s3 s4 s5 s6 s7 hd hx=>nx _ ⟨_,_,_,_,_,_,rfl,by rw[Xy,XQ];exact he,λp m=>by
    rcases qj.mp m with m | m
    .exact hq p m
    .cases Nm.mp m;exact⟨.mk hn hy ho hd,λn' y' o' d' e=>(by cases e;exact hx d' rfl)⟩,dz⟩
   obtain⟨f,e,hsf⟩:=hf.get (sub o ho);refine Jw e ?_;have no:∀x:T,T.tup []=.tup [x]->∃s,Zg XD (.inr o)=some s/\Jc s x:=λx z=>by cases z
   have one:∀{x:T},Jc f x->∀y:T,T.tup [x]=.tup [y]->∃s,Zg XD (.inr o)=some s/\Jc s y:=λh y z=>by cases z;exact⟨f,e,h⟩
   cases hsf with
   | record _ _=>cases hd<;>(refine Vr hl ?_;exact more _ _ _ _ _ _ .no no)
   | choice _ _=>cases hd<;>(refine Vr hl ?_;exact more _ _ _ _ _ _ .no no)
   | @whole lo hi' b1 b2 le =>
    cases hd with
    | no=>refine Vr hl ?_;exact more _ _ _ _ _ _ .no no
    | is h =>
     have fin:∀{z:Int} {s3 s4 s5 s6 s7:Sl},lo<=z/\z<=hi'->D'.nx [.o (.dct XD),.f (.tup [.str "record",.tup fs,.tup us]),.o (.lst (ps++[.tup [.int n,.str y,.str o,.tup [.int z]]])),s3,s4,s5,s6,s7]:=λh=>more _ _ _ _ _ _ (.is (.int (bnd_in b1 b2 h))) (one (.whole h.1 h.2));cases h with
     | @int i h=>refine Vr hl ?_;exact fin (Eb le)
     | str h=>refine Vr hl ?_;exact fin (Eb le)
     | nil=>refine Vr hl ?_;exact fin (Eb le)
     | @bl b =>
      refine maxB le rfl λt ht=>?_;rcases ht with ⟨rfl,h1,h2⟩ | ⟨z,rfl,h1,h2⟩
      .refine Vr hl ?_;exact fin ⟨by rw[Int.add_zero];exact h1,by rw[Int.add_zero];exact h2⟩
      .refine Vr hl ?_;exact fin ⟨by rw[Int.add_zero];exact h1,by rw[Int.add_zero];exact h2⟩
   | truth =>
    cases hd with
    | no=>refine Vr hl ?_;exact more _ _ _ _ _ _ .no no
    | is h=>cases h<;>(refine Vr hl ?_;exact more _ _ _ _ _ _ (.is .bl) (one .truth))
   | @text m h0 h1 =>
    have sh:∀x:Str,((Txt.slice x none (some m)).length:Int)<=m:=λx=>by
     obtain⟨k,rfl⟩:=Int.eq_ofNat_of_zero_le h0;have:=vp x none k;omega
    have em:Sm "" := by unfold Sm;decide +kernel
    cases hd with
    | no=>refine Vr hl ?_;exact more _ _ _ _ _ _ .no no
    | is h =>
     cases h with
     | str h =>
      refine Eo (by have:=h.1;omega) ?_;refine Vr hl ?_;exact more _ _ _ _ _ _ (.is (.str (Mw h _ _))) (one (.text (sh _)))
     | int h=>refine Vr hl ?_;exact more _ _ _ _ _ _ (.is (.str (Mw em _ _))) (one (.text (sh _)))
     | bl=>refine Vr hl ?_;exact more _ _ _ _ _ _ (.is (.str (Mw em _ _))) (one (.text (sh _)))
     | nil=>refine Vr hl ?_;exact more _ _ _ _ _ _ (.is (.str (Mw em _ _))) (one (.text (sh _)))
   | row _ _ _ =>
    cases hd with
    | no=>refine Vr hl ?_;exact more _ _ _ _ _ _ .no no
    | is h=>refine Vr hl ?_;exact more _ _ _ _ _ _ (.is .nil) (one .row)
   | map _ _ _ =>
    cases hd with
    | no=>refine Vr hl ?_;exact more _ _ _ _ _ _ .no no
    | is h=>refine Vr hl ?_;exact more _ _ _ _ _ _ (.is .nil) (one .map)
  .obtain⟨ps,s3,s4,s5,s6,s7,rfl,he,hq,hm⟩:=hi;have he:ps.map Ut=fs.map Ut:=by simpa using he
   exact rt _ _ ⟨_,⟨.record ⟨by have:=congrArg List.length he;simp at this;omega,by rw[he];exact hp.d,λp m=>(hq p m).1⟩ hs,λSg us' e p m=>(by cases e;exact(hq p m).2),λd z=>(by cases z)⟩,rfl⟩
def PShT(C:Cs):Prop:=∀{ns:ZD} {t:T},0<ns.length->ns.length<=8->Shp ns t->Tp C "_law_shape_turned" [.f (.lst (ns.map .str)),.f t] (lq (Shp ns))
theorem Gd.putU{ns ss:ZD}{XD:ZX}{x:Str}{v:T}(h:Gd ns XD ss)(hx:x∈ss)(hv:Shp ns v):Gd ns (Yw XD (.inr x) v) ss:=by
 obtain⟨us,h1,_,h3⟩:=h.put (h.n x hx) hv;rw[h3 hx]at h1;exact h1
set_option maxHeartbeats 2000000 in
theorem Xb{w:W}(hD:Uv w.C)(hS:PShT w.C)(hF:ny w.C)(hL:K1 w.C){root:Str}{XD:ZX}{ss:ZD}(h:Xv root XD ss):Td Vc w [.f (.tup [.str root,.dct XD])] Cz:=by
 intro zs i l k tp;have sl:=sizeLine_eq;have h8:=h.l8;have h0:=h.l0;have pm:=SRT.Ys ss;have hn:(SRT.G2 ss).length=ss.length:=pm.length_eq;have f0:Gd (SRT.G2 ss) XD ss:=⟨h.f.k,h.f.d,λx m=>pm.mem_iff.mpr m,λp m=>(h.f.p p m).mono λx m=>pm.mem_iff.mpr m⟩;have sub:∀x∈SRT.G2 ss,x∈ss:=λx m=>pm.mem_iff.mp m;refine Ya rfl λD rt _=>?_;refine Hl (h.f.srt XH) ?_;generalize SRT.G2 ss=us at hn f0 sub;have l0:(0:Int)<((us.map T.str).length:Nat):=by rw[Yc];omega
 have l1:(((us.map T.str).length:Nat):Int)<=1000000:=by rw[Yc];omega
 refine Zm hD tp XH XH λr zs i l k r0 r1 tp=>?_;refine Dv 0 12 r0 r1 rfl λm m0 m1 _=>?_;refine rngP XH XH ?_;refine Us (λrest p=>∃Vb zs i l k s2 s4 s5,p=[.o (Zb zs i l k),.f (.tup [.str root,.dct XD]),s2,.o (.dct Vb),s4,s5]/\OF s2 (.lst (us.map .str))/\TP (Zb zs i l k)/\Gd us Vb ss) ⟨XD,zs,i,l,k,_,_,_,rfl,.inl rfl,tp,f0⟩ (λx r p D' hi nx _=>?_) λp hi=>?_
 .obtain⟨Vb,zs,i,l,k,s2,s4,s5,rfl,qk,tp,hf⟩:=hi;have go:∀s2:Sl,OF s2 (.lst (us.map .str))->D'.nx=D'.nx:=λ_ _=>rfl;have hl:Vb.length<sizeLine:=by have:=hf.len;omega
  rcases qk with rfl | rfl
  all_goals
   refine Zm hD tp l0 l1 λr zs i l k r0 r1 tp=>?_;refine Vf r0 r1 λo ho=>?_;have ho:=sub o ho;obtain⟨t,e,ht⟩:=hf.get ho;refine Jw e ?_;refine F9 (hS XH XH ht) tp λr zs i l k hr tp=>?_;obtain⟨u,rfl,hu⟩:=hr;refine Nr hl ?_;exact nx _ ⟨_,_,_,_,_,_,_,_,rfl,.inr rfl,tp,hf.putU ho hu⟩
 obtain⟨Vb,zs,i,l,k,s2,s4,s5,rfl,qk,tp,hf⟩:=hi;refine Ay qk rfl ?_;refine Us (λrest p=>∃rs Vb s5,rest=rs.map T.str/\p=[.o (Zb zs i l k),.f (.tup [.str root,.dct XD]),.f (.lst (us.map .str)),.o (.dct Vb),s4,s5]/\Gd us Vb ss/\(∀x∈ss,x∈rs\/∀t,Zg Vb (.inr x)=some t->R3 Vb t)/\∀x∈rs,x∈ss) ⟨us,Vb,_,rfl,rfl,hf,λx m=>.inl (f0.n x m),sub⟩ (λx r p D' hi nx _=>?_) λp hi=>?_
 .obtain⟨rs,Vb,s5,hr,rfl,hf,hx,hm⟩:=hi;cases rs with
  | nil=>cases hr
  | cons y rs =>
   cases hr;have hy:=hm y Yu;obtain⟨t,e,ht⟩:=hf.get hy;refine Jw e ?_;refine Z9 (hF hf sub ht) λx hy'=>?_;obtain⟨u,⟨hu,hfu,Ig⟩,rfl⟩:=hy';refine Nr (by have:=hf.len;omega) ?_;have kp:qw Vb (Yw Vb (.inr y) u):=T8 λt' d e' f=>by rw[e]at e';cases e';exact Ig d f
   refine nx _ ⟨rs,_,_,rfl,rfl,hf.putU hy hu,λx m=>?_,λx m=>hm x (Y3 _ m)⟩;by_cases z:y=x
   .subst z;refine .inr λt' e'=>?_;rw[Yq,if_pos rfl]at e';cases e';exact hfu.keep kp
   .rcases hx x m with q | q
    .exact .inl ((Yf.mp q).resolve_left λw=>z w.symm)
    .refine .inr λt' e'=>?_;rw[Yq,if_neg λw=>z (Sum.inr.inj w)]at e';exact(q t' e').keep kp
 obtain⟨rs,Vb,s5,hr,rfl,hf,hx,hm⟩:=hi;refine Z9 (hL (root:=root) (XD:=Vb) (ss:=ss) ⟨⟨hf.k,hf.d,λx m=>m,λp m=>(hf.p p m).mono sub⟩,h0,h8,h.po,h.r,λx t e=>?_⟩) λx hx=>?_
 .have mx:x∈ss:=by
   have:=Lr e;rw[hf.k]at this;obtain⟨y,my,ey⟩:=Ry.mp this;cases ey;exact my
  rcases hx x mx with q | q
  .cases rs with
   | nil=>cases q
   | cons _ _=>cases hr
  .exact q t e
 obtain⟨kvs2,hm,rfl⟩:=hx;exact rt _ _ ⟨_,_,⟨_,_,_,rfl,hm⟩,tp,rfl⟩
def Zqs(C:Cs):Prop:=∀zs:ZL,on (C "_law_tape" [.f (.lst (zs.map .int))]) λx=>∃t,TP t/\x=(.o t,[])
def Xw(C:Cs):Prop:=∀{root:Str} {XD:ZX} {ss:ZD},Xv root XD ss->Tp C "_law_turned" [.f (.tup [.str root,.dct XD])] Cz
theorem law_ok{w:W}(hT:Zqs w.C)(hM:Tp w.C "_law_make" [] Cz)(hR:c9 w.C)(hU:Xw w.C)(zs:ZL):wF Wn w [.f (.lst (zs.map .int))] λx=>x=(.f (.bl true),[]):=by
 refine Ya rfl λD rt _=>?_;refine Z9 (hT zs) λx hx=>?_;obtain⟨t,tp,rfl⟩:=hx;obtain⟨K9,i,l,k,rfl,g⟩:=id tp;refine Us (λrest p=>∃K9 i l k s2 s3,p=[.f (.lst (zs.map .int)),.o (Zb K9 i l k),s2,s3]/\TP (Zb K9 i l k)) ⟨K9,i,l,k,_,_,rfl,tp⟩ (λx r p D' hi nx _=>?_) λp hi=>?_
 .obtain⟨K9,i,l,k,s2,s3,rfl,tp⟩:=hi;refine F9 hM tp λr K9 i l k hr tp=>?_;obtain⟨root,XD,ss,rfl,hm⟩:=hr;refine Z9 (hR hm) λx hx=>?_;subst hx;refine F9 (hU hm) tp λr K9 i l k hr tp=>?_;obtain⟨root,XD,ss,rfl,hm⟩:=hr;refine Z9 (hR hm) λx hx=>?_;subst hx;exact nx _ ⟨_,_,_,_,_,_,rfl,tp⟩
 .obtain⟨K9,i,l,k,s2,s3,rfl,tp⟩:=hi;exact rt _ _ rfl
noncomputable def tabL:List (Str×Df):=[("may_be_left_out",Yt),("form_of",Ga),("least_value",Vv),("leasts_of",V5),("least_by",Jk),("least_record",Y6),("least_choice",Y7),("_law_tape",Jf),("_law_draw",Jm),("_law_price",V7),("_law_prices",Vl),("_law_light",Ux),("_law_word",Jg),("_law_names",Uz),("_law_plain",V8),("_law_default",Vg),("_law_numbers",Vk),("_law_parts",V9),("_law_struck",Vn),("_law_make",Jb),("_law_number_turned",Yz),("_law_shape_turned",Yy),("_law_fixed",Uq),("_law_turned",Vc),("_law_written",Vy),("_law_is_own",Yp),("_law_count",Uj),("_law_right",V6),("law",Wn)]
noncomputable def tab(f:Str):Option Df:=(tabL.find? λp=>decide (p.1=f)).map (·.2)
def gl(x:Str):Option T:=none
noncomputable abbrev C(n:Nat):Cs:=Cn tab gl n
theorem Qj{n:Nat}{f:Str}{d:Df}{as:List Sl}{Q:Sl×ZZ->Prop}(e:tab f=some d)(h:wF d ⟨C n,gl⟩ as Q):on (C (n+1) f as) Q:=Zqm e h
theorem l9{n:Nat}{f:Str}{d:Df}{as:List Sl}{R:Sl->Prop}(e:tab f=some d)(h:Td d ⟨C n,gl⟩ as R):Tp (C (n+1)) f as R:=λt tp=>by
 obtain⟨zs,i,l,k,rfl,g⟩:=id tp;exact Zqm e (h zs i l k tp)
theorem Ub(n:Nat):Uv (C (n+1)):=λt m tp m0 m1=>by
 obtain⟨zs,i,l,k,rfl,h1,h2,h3,h4,h5⟩:=tp;exact Qj (d:=Jm) rfl (Zz0 h1 h2 h3 h4 h5 m0 m1)
theorem cnR{n:Nat}{f:Str}{d:Df}{as:List Sl}{x:Sl×ZZ}(e:tab f=some d)(h:Rt d ⟨C n,gl⟩ as=some x):C (n+1) f as=some x:=by
 show (tab f).bind _=_;rw[e];exact h
theorem gc(n:Nat):Sw (C (n+1)):=λm hm=>Z4 (cnR (d:=Jg) rfl (jw hm)) rfl
theorem ou(n:Nat):Tp (C (n+2)) "_law_names" [] Lo:=l9 (d:=Uz) rfl λzs i l k tp=>fe (w:=⟨C (n+1),gl⟩) (Ub n) tp
theorem ot(n:Nat){s:Str}(ns:ZD)(h:s="whole" \/ s="truth" \/ s="text"):Tp (C (n+2)) "_law_plain" [.f (.str s)] (lq (Zxy ns)):=l9 (d:=V8) rfl (kb (w:=⟨C (n+1),gl⟩) (Ub n) h ns)
theorem zq(n:Nat){ns:ZD}{t:T}(h:Shp ns t\/t=.tup [.str "record"]):Tp (C (n+2)) "_law_default" [.f t] (lq (DFit t)):=l9 (d:=Vg) rfl (Kw (w:=⟨C (n+1),gl⟩) (Ub n) h)
theorem zx(n:Nat):Tp (C (n+2)) "_law_numbers" [] La:=l9 (d:=Vk) rfl (Ee (w:=⟨C (n+1),gl⟩) (Ub n))
theorem gr(n:Nat){ns:ZD}{b:Bool}{ps:ZZ}(h:Y2 ns b ps):Tp (C (n+2)) "_law_struck" [.f (.tup ps)] mh:=l9 (d:=Vn) rfl (Xn (w:=⟨C (n+1),gl⟩) (Ub n) h)
theorem oh(n:Nat){ns:ZD}{XD:ZX}(s:Str)(n0:0<ns.length)(n8:ns.length<=8)(hk:∀x t,Zg XD x=some t->Shp ns t):Tp (C (n+3)) "_law_parts" [.f (.lst (ns.map .str)),.f (.dct XD),.f (.str s)] (E7 ns XD (decide (s="record"))):=l9 (d:=V9) rfl (gm (w:=⟨C (n+2),gl⟩) (Ub (n+1)) (gc (n+1)) (zx n) (λt h=>zq n h) n0 n8 hk s)
theorem om(n:Nat):nq (C (n+1)):=λht hp=>Qj (d:=V7) rfl (y8 (w:=⟨C n,gl⟩) ht hp)
theorem Pj(n:Nat):Fe (C (n+2)):=λh h8=>Qj (d:=Vl) rfl (X5 (w:=⟨C (n+1),gl⟩) (om n) h h8)
theorem Al(n:Nat):K1 (C (n+3)):=λh=>Qj (d:=Ux) rfl (bc (w:=⟨C (n+2),gl⟩) (Pj n) h)
theorem p_make(n:Nat):Tp (C (n+4)) "_law_make" [] Cz:=l9 (d:=Jb) rfl (ip (w:=⟨C (n+3),gl⟩) ⟨Ub (n+2),λns h=>ot (n+1) ns h,λs a b c=>oh n s a b c,λh=>gr (n+1) h,ou (n+1),Al n⟩)
theorem p_left(n:Nat):Zqh (C (n+1)):=Qj (d:=Yt) rfl (i4 (w:=⟨C n,gl⟩))
theorem p_form(n:Nat):Zqo (C (n+1)):=Qj (d:=Ga) rfl (Zzc (w:=⟨C n,gl⟩))
theorem p_lrec(n:Nat):Zqu (C (n+2)):=λc d=>Qj (d:=Y6) rfl (Br (w:=⟨C (n+1),gl⟩) (p_left n) c d)
theorem p_lcho(n:Nat):Zqa (C (n+1)):=λc d=>Qj (d:=Y7) rfl (Bs (w:=⟨C n,gl⟩) c d)
theorem p_lby(n:Nat):PLBy (C (n+3)):=λc d=>Qj (d:=Jk) rfl (Pn (w:=⟨C (n+2),gl⟩) (p_lrec n) (p_lcho (n+1)) c d)
theorem p_lof(n:Nat):PLOf (C (n+4)):=λa b=>Qj (d:=V5) rfl (Lh (w:=⟨C (n+3),gl⟩) (p_form (n+2)) (p_lby n) a b)
theorem p_lval(n:Nat):Zqp (C (n+5)):=λa b c=>Qj (d:=Vv) rfl (T5 (w:=⟨C (n+4),gl⟩) (p_lof n) a b c)
theorem Zxu:∀k M,k+1<=M->POwn k (C M)
 | 0,M,h=>by
  obtain⟨m,rfl⟩:∃m,M=m+1:=⟨M-1,by omega⟩;intro hm hv;rcases hv with ⟨c,z⟩ | ⟨s,e,f⟩
  .exact z.elim
  .exact Qj (d:=Yp) rfl (Jz (w:=⟨C m,gl⟩) hm e f)
 | k+1,M,h=>by
  obtain⟨m,rfl⟩:∃m,M=m+1:=⟨M-1,by omega⟩;intro hm hv;exact Qj (d:=Yp) rfl (ze (w:=⟨C m,gl⟩) (Zxu k m XH) hm hv)
theorem p_wr:∀k M,k<=M->PWr k (C M)
 | 0,M,h=>λ_ z=>z.elim
 | k+1,M,h=>by
  obtain⟨m,rfl⟩:∃m,M=m+1:=⟨M-1,by omega⟩;intro hm hv;exact Qj (d:=Vy) rfl (Se (w:=⟨C m,gl⟩) (p_wr k m XH) hm hv)
theorem Zxa:∀k M,k<=M->PCnt k (C M)
 | 0,M,h=>λz=>z.elim
 | k+1,M,h=>by
  obtain⟨m,rfl⟩:∃m,M=m+1:=⟨M-1,by omega⟩;intro hw;exact Qj (d:=Uj) rfl (count_ok (w:=⟨C m,gl⟩) (Zxa k m XH) hw)
theorem og:c9 (C 10):=λa=>Qj (d:=V6) rfl (yj (w:=⟨C 9,gl⟩) (Pj 7) (p_lval 4) (λk h=>Zxu k 9 XH) (λk h=>p_wr k 9 XH) (λk h=>Zxa k 9 XH) a)
theorem p_numt(n:Nat):Zqr (C (n+2)):=λh=>l9 (d:=Yz) rfl (Nh (w:=⟨C (n+1),gl⟩) (Ub n) h)
theorem p_sht(n:Nat):PShT (C (n+3)):=λa b c=>l9 (d:=Yy) rfl (Bl (w:=⟨C (n+2),gl⟩) (Ub (n+1)) (gc (n+1)) (p_numt n) a b c)
theorem oa(n:Nat):ny (C (n+1)):=λa b c=>Qj (d:=Uq) rfl (du (w:=⟨C n,gl⟩) a b c)
theorem gn(n:Nat):Xw (C (n+4)):=λh=>l9 (d:=Vc) rfl (Xb (w:=⟨C (n+3),gl⟩) (Ub (n+2)) (p_sht n) (oa (n+2)) (Al n) h)
theorem p_tape(n:Nat):Zqs (C (n+1)):=λzs=>Qj (d:=Jf) rfl (sf (w:=⟨C n,gl⟩) zs)
theorem bu(zs:ZL):Rt Wn ⟨Cn tab gl 10,gl⟩ [.f (.lst (zs.map .int))]=some (.f (.bl true),[]):=by
 obtain⟨x,e,rfl⟩:=jm (law_ok (w:=⟨C 10,gl⟩) (p_tape 9) (p_make 6) og (gn 6) zs);exact e
theorem De:FC "may_be_left_out" (top 1) Yt:=λX G A=>A.fc (N:=["field"]) X G XU XU λ_ _ _ _ _ _ us hl=>by obtain⟨_,rfl⟩:=qv hl;rfl
theorem Kq:FC "form_of" (top 3) Ga:=λX G A=>A.fc (N:=["make","name"]) X G XU XU λ_ _ _ _ _ _ us hl=>by obtain⟨_,_,rfl⟩:=Hw hl;rfl
theorem Cy:FC "least_value" (top 5) Vv:=λX G A=>A.fc (N:=["make","name","least"]) X G XU XU λ_ _ _ _ _ _ us hl=>by obtain⟨_,_,rfl⟩:=Hw hl;rfl
theorem L7:FC "leasts_of" (top 6) V5:=λX G A=>A.fc (N:=["make","leasts","turn"]) X G XU XU λ_ _ _ _ _ _ us hl=>by obtain⟨_,rfl⟩:=qv hl;rfl
theorem P8:FC "least_by" (top 7) Jk:=λX G A=>A.fc (N:=["shape","leasts","sort"]) X G XU XU λ_ _ _ _ _ _ us hl=>by obtain⟨_,_,rfl⟩:=Hw hl;rfl
theorem Bp:FC "least_record" (top 8) Y6:=λX G A=>A.fc (N:=["fields","leasts","parts"]) X G XU XU λ_ _ _ _ _ _ us hl=>by obtain⟨_,_,rfl⟩:=Hw hl;rfl
theorem Bu:FC "least_choice" (top 9) Y7:=λX G A=>A.fc (N:=["arms","leasts","counts","least"]) X G XU XU λ_ _ _ _ _ _ us hl=>by obtain⟨_,_,rfl⟩:=Hw hl;rfl
theorem Oz:FC "_law_tape" (top 11) Jf:=λX G A=>A.fc (N:=["_law_script"]) X G XU XU λ_ _ _ _ _ _ us hl=>by obtain⟨_,rfl⟩:=qv hl;rfl
theorem Oq:FC "_law_draw" (top 12) Jm:=λX G A=>A.fc (N:=["_law_tape_here","_law_many","_law_script","_law_spot","_law_left","_law_cell","_law_mixed"]) X G XU XU λ_ _ _ _ _ _ us hl=>by obtain⟨_,_,rfl⟩:=Hw hl;rfl
theorem L9:FC "_law_price" (top 13) V7:=λX G A=>A.fc (N:=["_law_shape","_law_prices_here","_law_some"]) X G XU XU λ_ _ _ _ _ _ us hl=>by obtain⟨_,_,rfl⟩:=Hw hl;rfl
theorem Rh:FC "_law_prices" (top 14) Vl:=λX G A=>A.fc (N:=["_law_make_here","_law_prices_here","_law_k","_law_name","_law_price_here"]) X G XU XU λ_ _ _ _ _ _ us hl=>by obtain⟨_,rfl⟩:=qv hl;rfl
theorem Fj:FC "_law_light" (top 15) Ux:=λX G A=>A.fc (N:=["_law_root","_law_forms","_law_name"]) X G XU XU λ_ _ _ _ _ _ us hl=>by obtain⟨_,_,rfl⟩:=Hw hl;rfl
theorem P9:FC "_law_word" (top 16) Jg:=λX G A=>A.fc (N:=["_law_number"]) X G XU XU λ_ _ _ _ _ _ us hl=>by obtain⟨_,rfl⟩:=qv hl;rfl
theorem Fq:FC "_law_names" (top 17) Uz:=λX G A=>A.fc (N:=["_law_tape_here","_law_pool","_law_turn"]) X G XU XU λ_ _ _ _ _ _ us hl=>by obtain⟨_,rfl⟩:=qv hl;rfl
theorem Fz:FC "_law_plain" (top 18) V8:=λX G A=>A.fc (N:=["_law_tape_here","_law_sort","_law_low"]) X G XU XU λ_ _ _ _ _ _ us hl=>by obtain⟨_,_,rfl⟩:=Hw hl;rfl
theorem Cf:FC "_law_default" (top 19) Vg:=λX G A=>A.fc (N:=["_law_tape_here","_law_shape"]) X G XU XU λ_ _ _ _ _ _ us hl=>by obtain⟨_,_,rfl⟩:=Hw hl;rfl
theorem Cg:FC "_law_numbers" (top 20) Vk:=λX G A=>A.fc (N:=["_law_tape_here","_law_some"]) X G XU XU λ_ _ _ _ _ _ us hl=>by obtain⟨_,rfl⟩:=qv hl;rfl
theorem Fx:FC "_law_parts" (top 21) V9:=λX G A=>A.fc (N:=["_law_tape_here","_law_names_here","_law_shapes","_law_sort","_law_parts_here","_law_number","_law_of","_law_part"]) X G XU XU λ_ _ _ _ _ _ us hl=>by obtain⟨_,_,_,_,rfl⟩:=us4 hl;rfl
theorem Rr:FC "_law_struck" (top 22) Vn:=λX G A=>A.fc (N:=["_law_tape_here","_law_parts_here","_law_mine"]) X G XU XU λ_ _ _ _ _ _ us hl=>by obtain⟨_,_,rfl⟩:=Hw hl;rfl
theorem Ox:FC "_law_make" (top 23) Jb:=λX G A=>A.fc (N:=["_law_tape_here","_law_names_here","_law_sorts","_law_mine","_law_shapes","_law_name","_law_sort","_law_forms","_law_parts_here"]) X G XU XU λ_ _ _ _ _ _ us hl=>by obtain⟨_,rfl⟩:=qv hl;rfl
theorem Gw:FC "_law_number_turned" (top 24) Yz:=λX G A=>A.fc (N:=["_law_tape_here","_law_number","_law_low","_law_high"]) X G XU XU λ_ _ _ _ _ _ us hl=>by obtain⟨_,_,_,_,rfl⟩:=us4 hl;rfl
theorem G5:FC "_law_shape_turned" (top 25) Yy:=λX G A=>A.fc (N:=["_law_tape_here","_law_names_here","_law_shape","_law_some","_law_of","_law_parts_here","_law_at","_law_way","_law_number","_law_more","_law_mine","_law_struck_here","_law_turned_here"]) X G XU XU λ_ _ _ _ _ _ us hl=>by obtain⟨_,_,_,rfl⟩:=us3 hl;rfl
theorem Fw:FC "_law_fixed" (top 26) Uq:=λX G A=>A.fc (N:=["_law_forms","_law_shape","_law_fields","_law_number","_law_name","_law_of","_law_default_here","_law_form"]) X G XU XU λ_ _ _ _ _ _ us hl=>by obtain⟨_,_,rfl⟩:=Hw hl;rfl
theorem Rl:FC "_law_turned" (top 27) Vc:=λX G A=>A.fc (N:=["_law_tape_here","_law_make_here","_law_names_here","_law_forms","_law_k","_law_name"]) X G XU XU λ_ _ _ _ _ _ us hl=>by obtain⟨_,_,rfl⟩:=Hw hl;rfl
theorem Ck{K:W.Frag}{mg:ZV}{h:Heap}{f cW bm:Addr}{fd:FuncData}(X:K.In h)(G:h.Ns mainGlobals mg)(A:FAL K "_law_written" (top 28) f fd cW)(hC:Gi K cW Qc.P=true)(aB:W.nsIn K mainGlobals "__builtins__"=some (some (.ref bm)))(hB:Zxz K bm Qc.P=true):Gc K mg "_law_written" Vy:=A.fc (T0:=Qc) (N:=["_law_make_here","_law_name","_law_value","_law_shape","_law_arms","_law_pairs","_law_field","_law_one"]) X G XU rfl (λ_ _ _=>rfl) ⟨λ_ X=>Wl hC X,λ_ X'=>blt_of hB (W.mg_of X G aB) X',by decide +kernel⟩ λ_ _ _ _ _ _ us hl=>by obtain⟨_,_,_,rfl⟩:=us3 hl;rfl
theorem Rp:FC "_law_is_own" (top 29) Yp:=λX G A=>A.fc (N:=["_law_make_here","_law_name","_law_thing","_law_shape","_law_keys","_law_good","_law_arms"]) X G XU XU λ_ _ _ _ _ _ us hl=>by obtain⟨_,_,_,rfl⟩:=us3 hl;rfl
theorem Fv:FC "_law_count" (top 30) Uj:=λX G A=>A.fc (N:=["_law_item","_law_parts_here"]) X G XU XU λ_ _ _ _ _ _ us hl=>by obtain⟨_,rfl⟩:=qv hl;rfl
theorem L8:FC "_law_right" (top 31) V6:=λX G A=>A.fc (N:=["_law_make_here","_law_prices_here","_law_name","_law_found"]) X G XU XU λ_ _ _ _ _ _ us hl=>by obtain⟨_,rfl⟩:=qv hl;rfl
theorem hx_law:(Zw (top 32)).names≠Mh:=by decide +kernel
theorem ck_law:chk XC Wn (top 32)=true:=by decide +kernel
theorem fc_law:FC "law" (top 32) Wn:=λX G A=>A.fc (N:=XC) X G XU XU λ_ _ _ _ _ _ us hl=>by obtain⟨_,rfl⟩:=qv hl;rfl
set_option maxHeartbeats 0 in
theorem all_mk{l:W.OpenLaw}{w:World}{K:W.Frag}{h:Heap}{mg:ZV}{fa f1 f2 f3 f4 f5 f6 f7 f8 f9 f10 f11 f12 f13 f14 f15 f16 f17 f18 f19 f20 f21 f22 f23 f24 f25 f26 f27 f28 f29:Addr}{d1 d2 d3 d4 d5 d6 d7 d8 d9 d10 d11 d12 d13 d14 d15 d16 d17 d18 d19 d20 d21 d22 d23 d24 d25 d26 d27 d28 d29:FuncData}{cW bm:Addr}(X:K.In h)(G:h.Ns mainGlobals mg)(hfa:mg "law"=some (.ref fa))
  (h1:FA K "may_be_left_out" (top 1) f1 d1)
  (h2:FA K "form_of" (top 3) f2 d2)
  (h3:FA K "least_value" (top 5) f3 d3)
  (h4:FA K "leasts_of" (top 6) f4 d4)
  (h5:FA K "least_by" (top 7) f5 d5)
  (h6:FA K "least_record" (top 8) f6 d6)
  (h7:FA K "least_choice" (top 9) f7 d7)
  (h8:FA K "_law_tape" (top 11) f8 d8)
  (h9:FA K "_law_draw" (top 12) f9 d9)
  (h10:FA K "_law_price" (top 13) f10 d10)
  (h11:FA K "_law_prices" (top 14) f11 d11)
  (h12:FA K "_law_light" (top 15) f12 d12)
  (h13:FA K "_law_word" (top 16) f13 d13)
  (h14:FA K "_law_names" (top 17) f14 d14)
  (h15:FA K "_law_plain" (top 18) f15 d15)
  (h16:FA K "_law_default" (top 19) f16 d16)
  (h17:FA K "_law_numbers" (top 20) f17 d17)
  (h18:FA K "_law_parts" (top 21) f18 d18)
  (h19:FA K "_law_struck" (top 22) f19 d19)
  (h20:FA K "_law_make" (top 23) f20 d20)
  (h21:FA K "_law_number_turned" (top 24) f21 d21)
  (h22:FA K "_law_shape_turned" (top 25) f22 d22)
  (h23:FA K "_law_fixed" (top 26) f23 d23)
  (h24:FA K "_law_turned" (top 27) f24 d24)
  (h25:FAL K "_law_written" (top 28) f25 d25 cW)
  (hC:Gi K cW Qc.P=true)
  (aB:W.nsIn K mainGlobals "__builtins__"=some (some (.ref bm)))
  (hB:Zxz K bm Qc.P=true)
  (h26:FA K "_law_is_own" (top 29) f26 d26)
  (h27:FA K "_law_count" (top 30) f27 d27)
  (h28:FA K "_law_right" (top 31) f28 d28)
  (h29:FA K "law" (top 32) f29 d29)
  (qo:W.nsIn K mainGlobals "len"=some none)
  (jx:W.nsIn K mainGlobals "all"=some none)
  (q0:W.nsIn K mainGlobals "any"=some none)
  (Sa:W.nsIn K mainGlobals "list"=some none)
  (We:W.nsIn K mainGlobals "tuple"=some none)
  (qu:W.nsIn K mainGlobals "min"=some none)
  (qa:W.nsIn K mainGlobals "max"=some none)
  (qi:W.nsIn K mainGlobals "int"=some none)
  (jq:W.nsIn K mainGlobals "abs"=some none)
  (So:W.nsIn K mainGlobals "dict"=some none)
  (U6:W.nsIn K mainGlobals "isinstance"=some none)
  (Tq:W.nsIn K mainGlobals "sorted"=some none)
  (qh:W.nsIn K mainGlobals "set"=some none)
  (W0:W.nsIn K mainGlobals "range"=some none)
  (qc:W.nsIn K mainGlobals "zip"=some none)
  (J0:W.nsIn K mainGlobals "enumerate"=some none)
  (ql:W.nsIn K mainGlobals "sum"=some none)
  (Su:W.nsIn K mainGlobals "repr"=some none)
  (qr:W.nsIn K mainGlobals "str"=some none)
  (Si:W.nsIn K mainGlobals "bool"=some none)
  (nl:E2 K=true)
  : ∃fd:FuncData,(∀(s:Shared) (v:Value),BindsTo s fd ⟨[v],[]⟩ [("_law_script",v)])/\∀base:Heap,K.In base->base.Ns mainGlobals mg->Dq l.prog w K mg base n4 11 fa fd ["_law_script"] (vg K):=by
 have e:=hfa.symm.trans (W.mg_of X G h29.a);cases e;have Zq1:=h29.F
 have ft:∀p∈tabL,Gc K mg p.1 p.2:=by
  unfold tabL;refine Vs.mpr ⟨De X G h1,Vs.mpr ⟨Kq X G h2,Vs.mpr ⟨Cy X G h3,Vs.mpr ⟨L7 X G h4,Vs.mpr ⟨P8 X G h5,Vs.mpr ⟨Bp X G h6,Vs.mpr ⟨Bu X G h7,Vs.mpr ⟨Oz X G h8,Vs.mpr ⟨Oq X G h9,Vs.mpr ⟨L9 X G h10,Vs.mpr ⟨Rh X G h11,Vs.mpr ⟨Fj X G h12,Vs.mpr ⟨P9 X G h13,Vs.mpr ⟨Fq X G h14,Vs.mpr ⟨Fz X G h15,Vs.mpr ⟨Cf X G h16,Vs.mpr ⟨Cg X G h17,Vs.mpr ⟨Fx X G h18,Vs.mpr ⟨Rr X G h19,Vs.mpr ⟨Ox X G h20,Vs.mpr ⟨Gw X G h21,Vs.mpr ⟨G5 X G h22,Vs.mpr ⟨Fw X G h23,Vs.mpr ⟨Rl X G h24,Vs.mpr ⟨Ck X G h25 hC aB hB,Vs.mpr ⟨Rp X G h26,Vs.mpr ⟨Fv X G h27,Vs.mpr ⟨L8 X G h28,Vs.mpr ⟨fc_law X G h29,λ_ m=>absurd m Ve⟩⟩⟩⟩⟩⟩⟩⟩⟩⟩⟩⟩⟩⟩⟩⟩⟩⟩⟩⟩⟩⟩⟩⟩⟩⟩⟩⟩⟩
 have bn:∀x∈U3,mg x=none:=by
  unfold U3;refine Vs.mpr ⟨W.mg_none_of X G qo,Vs.mpr ⟨W.mg_none_of X G jx,Vs.mpr ⟨W.mg_none_of X G q0,Vs.mpr ⟨W.mg_none_of X G Sa,Vs.mpr ⟨W.mg_none_of X G We,Vs.mpr ⟨W.mg_none_of X G qu,Vs.mpr ⟨W.mg_none_of X G qa,Vs.mpr ⟨W.mg_none_of X G qi,Vs.mpr ⟨W.mg_none_of X G jq,Vs.mpr ⟨W.mg_none_of X G So,Vs.mpr ⟨W.mg_none_of X G U6,Vs.mpr ⟨W.mg_none_of X G Tq,Vs.mpr ⟨W.mg_none_of X G qh,Vs.mpr ⟨W.mg_none_of X G W0,Vs.mpr ⟨W.mg_none_of X G qc,Vs.mpr ⟨W.mg_none_of X G J0,Vs.mpr ⟨W.mg_none_of X G ql,Vs.mpr ⟨W.mg_none_of X G Su,Vs.mpr ⟨W.mg_none_of X G qr,Vs.mpr ⟨W.mg_none_of X G Si,λ_ m=>absurd m Ve⟩⟩⟩⟩⟩⟩⟩⟩⟩⟩⟩⟩⟩⟩⟩⟩⟩⟩⟩⟩
 have hg:∀x t,gl x=some t->∃v u,mg x=some u/\RelV v u/\∀H F,IsT K mg H F t v:=by
  intro x t e;unfold gl at e;cases e
 obtain⟨oc,od,kV,doc,pm,an,cdv,ct,osl,rfl,lk,L1⟩:=Zq1.ex;refine⟨W.fnOf "law" "law" (Y5 (top 32)) (Z7 (top 32)) (Zw (top 32)) .none kV doc pm an cdv ct,λs v=>.of_eq rfl,λbase _ _=>?_⟩;obtain⟨c1,c2,c3,c4,c5⟩:=Kk ck_law;exact(P7 (w:=⟨Cn tab gl 10,gl⟩) (d:=Wn) (PV.funR Zq1) (λz=>absurd z hx_law) c1 c2 c3 c4 c5 bn (knot bn (tab_of ft) hg 10) hg).imp (i7 nl λzs _=>bu zs)
end K38
open PySem PySem.W PyProof.Rows
set_option maxRecDepth 100000 in
set_option maxHeartbeats 0 in
theorem K38.ws:PySem.Challenge.rw_makes_k38_least_values.wellSaid=true:=by
 delta OpenLaw.wellSaid
 iterate 18 refine look_both ?_ ?_
 case _ =>
  delta OpenRow.wellSaid
  refine look_both (look_both ?_ ?_) ?_
  case _ =>
   delta OpenRow.partSaid
   iterate 13 refine look_both ?_ ?_
   case _ =>
    delta looksOpen
    iterate 5 refine look_both ?_ ?_
    all_goals decide +kernel
   all_goals decide +kernel
  all_goals decide +kernel
 all_goals decide +kernel
theorem K38.cd_tab(P:Params):PV.Gi (K38.L0 P) 166 PV.Qc.P=true:=by kernel_rfl
set_option maxRecDepth 100000 in
set_option maxHeartbeats 0 in
theorem PySem.Challenge.cw_makes_k38_least_values_holds : PySem.Challenge.rw_makes_k38_least_values.Holds := by
 w_on
 refine holds_law K38.ws λsaid=>?_
 refine holds_open (q:=K38.viewK) (loose:=K38.Ym) (XP:=XL K38.viewK []) (YP:=Hook.says (W.kHook K38.heapK K38.asK K38.Fp)) (N:=1898)
  K38.leftK (Hook.of (W.kHook K38.heapK K38.asK K38.Fp)) (Hook.keeps (W.kHook K38.heapK K38.asK K38.Fp)) (λs e=>xl_of s (n6.mp e).1)
  XL.keeps (by rfl) (by rfl) (by rfl) (λs e=>recFacts_of (n6.mp e).2) (by rfl) (by assumption)
  XU ⟨rfl,rfl,rfl,rfl,rfl,by decide +kernel⟩ ?hw ?hc
 case hw=>w_witness2
 refine PV.walkPT (T0:=PV.Qc) rfl (l:=PySem.Challenge.rw_makes_k38_least_values) (K:=K38.L0) (k:=11) rfl rfl ⟨rfl,by decide,by decide,rfl⟩ (λw h Y=>PV.m4 (K38.ff _) (W.kIn_of Y)) (λp=>K38.ff p) (λw h X=>PV.Kv (c:=166) (K38.cd_tab _) X) ?F
 case F =>
  k_fill
  intro w mg fa h KX G hmg;refine' K38.all_mk KX G hmg ?h1 ?h2 ?h3 ?h4 ?h5 ?h6 ?h7 ?h8 ?h9 ?h10 ?h11 ?h12 ?h13 ?h14 ?h15 ?h16 ?h17 ?h18 ?h19 ?h20 ?h21 ?h22 ?h23 ?h24 ?h25 ?hC ?aB ?hB ?h26 ?h27 ?h28 ?h29 ?qo ?jx ?q0 ?Sa ?We ?qu ?qa ?qi ?jq ?So ?U6 ?Tq ?qh ?W0 ?qc ?J0 ?ql ?Su ?qr ?Si ?nl
  case h1|h2|h3|h4|h5|h6|h7|h8|h9|h10|h11|h12|h13|h14|h15|h16|h17|h18|h19|h20|h21|h22|h23|h24=>exact⟨by k_is,L2.Zh (by k_is) (by k_is) (by k_is)⟩
  case h25=>exact⟨by k_is,PV.Zzt (by k_is) (by k_is) (by k_is)⟩
  case hC=>kernel_rfl
  case aB=>k_is
  case hB=>kernel_rfl
  case h26|h27|h28|h29=>exact⟨by k_is,L2.Zh (by k_is) (by k_is) (by k_is)⟩
  case qo|jx|q0|Sa|We|qu|qa|qi|jq|So|U6|Tq|qh|W0|qc|J0|ql|Su|qr|Si=>k_is
  case nl=>kernel_rfl
