import PyProof.Rows.All
import Wide.All
import OpenK.AllK
import Wide.FinOn
import PySem.Challenge.RW_makes_k56_what_a_make_knows
set_option genSizeOf false
set_option genInjectivity false
set_option bootstrap.genMatcherCode false
noncomputable section
set_option maxHeartbeats 2000000
set_option Elab.async false
set_option linter.all false
set_option maxRecDepth 100000
local macro_rules | `(tactic| trivial) => `(tactic| first | exact .inl rfl | exact .inr rfl | rfl | decide | (intro _; rfl) | exact Or.inl rfl | exact Or.inr rfl | assumption | exact ⟨rfl, rfl, rfl, by decide +kernel, rfl, by decide +kernel, by decide +kernel⟩ | fail)
def XG:=@Int.toNat_natCast
def XY:=@List.length_set
def XJ:=@List.length_range
def XQ:=@List.append_nil
def XX:=@List.append_assoc
def XZ:=@List.any_eq_true
def ZE:=@List.pairwise_cons
def ZI:=@List.length_singleton
def ZO:=@Option.bind_eq_some_iff
section
open PySem
abbrev ZW:=Value->Shared->Prop
abbrev ZV:=Str->Option Value
abbrev ZY:=List (Addr×Obj)
abbrev ZK:=List (Str×NameKind)
abbrev ZG:=List (Option Nat)
abbrev ZF:=Array (Option Value)
abbrev ZM:=List Value
abbrev ZD:=List Str
abbrev ZT:=Option Value
abbrev ZC:=List Expr
abbrev ZN:=Array Value
abbrev ZL:=List Int
abbrev ZR:=Option Int
abbrev ZS:=Array Nat
abbrev ZH:=Option Nat
abbrev ZP:=Option Addr
abbrev ZU:=List Addr
abbrev ZA:=Unit->Shared->Prop
end
section
open PySem PyProof.Rows
def Z0:=@List.length_map
def Tj:=@List.not_mem_nil
def V7:=@List.size_toArray
def U1:=@List.mem_singleton
def M0a:=@List.map_append
def Bk:=@decide_eq_true
def Yz:=@Nat.le_refl
def Zb:=@wpAny_bind
def Yg:=@wpAny_pure
def D6:=@List.mem_map
def B4:=@List.getElem?_map
def B3:=@List.getElem?_eq_some_iff
def Tw:=@List.mem_append
def Z4:=@Option.map_eq_some_iff
def D7:=@List.length_append
def Dp:=@Option.some.inj
def Vk:=@List.mem_cons_self
def Vb:=@List.mem_cons_of_mem
def G0l:=@List.getElem?_append_left
def G0e:=@List.getElem_mem
def Ye:=@List.forall_mem_cons
def Mz:=@List.getElem?_eq_getElem
def B0n:=@beq_eq_false_iff_ne
def Wy:=@Nat.lt_of_lt_of_le
def D9:=@List.length_cons
def Qn:=@List.map_cons
def Yi:=@Heap.get?_push_of_some
def Y6:=@List.mem_cons
def B0s:=@beq_self_eq_true
def S8:=@of_decide_eq_true
def Ya:=@Bool.and_eq_true
def Uu:=@Nat.le_trans
def B5:=@Bool.false_ne_true
def Dv:=@Heap.get?_push_size
def Vt:=@Heap.lt_size
def L0t:=@List.length_take
def B2:=@Nat.zero_le
def S9:=@Array.length_toList
def Bv:=@Nat.ne_of_lt
def qg:=@List.all_eq_true
def B0z:=@Bool.and_eq_true_iff
def Nf:=@decide_eq_false
def S4:=@List.mem_append_right
def A0g:=@Array.getElem?_eq_getElem
end
namespace L2
open PySem PySem.Spec PyProof.Rows
noncomputable def inClass(s:Stmt)(j:Nat):Stmt:=match s with
 | .ClassDef _ _ _ body _ _ _ _ _ _ _=>body.getD j (.Pass ⟨0,0,0,0⟩)
 | _=>.Pass ⟨0,0,0,0⟩
noncomputable def Uy(s:Stmt):Arguments:=match s with
 | .FunctionDef _ a _ _ _ _ _ _ _ _=>a
 | _=>{ posonlyargs:=[],args:=[],vararg:=none,kwonlyargs:=[],kw_defaults:=[],kwarg:=none,defaults:=[] }
def Yw(s:Stmt):List Stmt:=match s with
 | .FunctionDef _ _ b _ _ _ _ _ _ _=>b
 | _=>[]
noncomputable def Zj(s:Stmt):Scope:=match s with
 | .FunctionDef _ _ _ _ _ _ sc _ _ _=>sc
 | _=>{ kind:=.function,names:=[],isGenerator:=false,isCoroutine:=false }
end L2
namespace K56
open PySem PySem.Spec PyProof.Rows
noncomputable def top(i:Nat):Stmt:=PySem.Challenge.pw_makes_k56_what_a_make_knows.main.body.getD i (.Pass ⟨0,0,0,0⟩)
end K56
namespace L2
open PySem PySem.W PySem.Calls PyProof.Rows
section
variable{tb:String->Option Builtin}{p:Program}{w:World}{m:Nat}{a:ZT}
def uf(tb:String->Option Builtin)(p:Program)(w:World)(m:Nat)(a:ZT):Nat->SharedT->Thread->Option SharedT
 | 0,_,_=>none
 | k+1,s,t=>bif through t then some s else bif stepOk m a t then (match stepT (denote tb) p w s t with | some (s',t')=>uf tb p w m a k s' t' | none=>none) else none
theorem Ay:∀{k:Nat} {s s':SharedT} {t:Thread},uf tb p w m a k s t=some s'->topRun tb p w m a k s.abs t=some s'.abs
 | 0,_,_,_,h=>by cases h
 | k+1,s,s',t,h=>by
  unfold uf at h;unfold topRun;cases ht:through t with
  | true=>rw[ht]at h;cases h;rfl
  | false =>
   rw[ht]at h;cases hk:stepOk m a t with
   | false=>rw[hk]at h;cases h
   | true =>
    rw[hk]at h;cases hs:stepT (denote tb) p w s t with
    | none=>rw[hs]at h;cases h
    | some r =>
     obtain⟨s₂,t₂⟩:=r;rw[hs]at h;rw[stepT_spec hs];exact Ay h
end
noncomputable def mkT:List Obj->Nat->BT->BT
 | [],_,t=>t
 | o::l,i,t=>mkT l (i+1) (t.ins i o)
noncomputable abbrev Sg(w:World)(os:OsState):Shared:=⟨boot_heap w.params,Array.mk [],boot_drawn,boot_toks,os⟩
noncomputable abbrev Zqj(w:World)(os:OsState):SharedT:=⟨mkT (boot_heap w.params).objs.toList 0 .nil,(boot_heap w.params).objs.size,(boot_heap w.params).life,Array.mk [],boot_drawn,boot_toks,os⟩
theorem boot_abs(w:World)(os:OsState):(Zqj w os).abs=Sg w os:=by kernel_rfl
noncomputable abbrev Rh(p:Program)(N:Nat)(w:World)(os:OsState):Option SharedT:=uf treeTable p w (boot_heap w.params).objs.size ((boot_heap w.params).nsMap mainGlobals "__annotations__") N (Zqj w os) (topStub p)
noncomputable abbrev di(p:Program)(w:World)(s:Shared):Bool:=staticsOk (importedModules p.main.body) (boot_heap w.params) s.heap && namesBound p s.heap && gensDone s && laidKept (boot_heap w.params) s.heap
theorem ns_ok(w:World):((boot_heap w.params).isNs mainGlobals && (Array.mk []:Array GenState).size == 0)=true:=by kernel_rfl
theorem Ge{j:Type _}{o:Option SharedT}{f:Shared->j}{r:j}(h:(o.map fun s=>f s.abs)=some r):∃s,o=some s/\f s.abs=r:=by
 obtain⟨s,e,q⟩:=Z4.mp h;exact⟨s,e,q⟩
theorem top_of{j Z:Type}{p:Program}{N:Nat}{w:World}{os:OsState}{f:Shared->j}{g:Shared->Z}{x:j}{y:Z}(h1:((Rh p N w os).map fun s=>di p w s.abs)=some true)
  (h2:((Rh p N w os).map fun s=>f s.abs)=some x) (h3:((Rh p N w os).map fun s=>g s.abs)=some y) :
  (topFrom treeTable p w N (Sg w os)).map (fun s=>(f s,g s))=some (x,y):=by
 obtain⟨s,e,c⟩:=Ge h1;obtain⟨s2,e2,c2⟩:=Ge h2;obtain⟨s3,e3,c3⟩:=Ge h3;rw[e]at e2 e3;cases e2;cases e3;have r:=Ay e;rw[boot_abs]at r;unfold topFrom;rw[show ((Sg w os).heap.isNs mainGlobals && (Sg w os).gens.size == 0)=true from ns_ok w];show Option.map _ (Option.bind (topRun treeTable p w (boot_heap w.params).objs.size ((boot_heap w.params).nsMap mainGlobals "__annotations__") N (Sg w os) (topStub p)) _)=_;rw[r];show Option.map _ (match di p w s.abs with | true=>some s.abs | false=>none)=_;rw[c];show some (f s.abs,g s.abs)=_;rw[c2,c3]
end L2
namespace K56
open PySem PySem.Spec PyProof.Rows L2
def viewK:Program:={ PySem.Challenge.pw_makes_k56_what_a_make_knows with main:={ PySem.Challenge.pw_makes_k56_what_a_make_knows.main with body:=[top 1,top 2,top 3,top 4,top 5,top 6,top 7,top 8,top 9,top 10,top 11,top 12,top 14,top 15,top 16,top 17,top 18,top 19,top 20,top 21,top 22,top 23,top 24,top 25,top 27,top 28,top 29,top 30,top 31,top 32,top 33,top 35,top 36,top 38,top 39,top 40,top 41,top 42,top 43,top 44,top 45,top 46,top 47,top 48,top 49,top 50,top 51,top 52,top 53] } }
def Yx:ZD:=[]
abbrev en(P:Params)(x:Str)(t:Tok)(v:Value):DictEntry:=⟨PyData.keyHash P x,.str x t,v⟩
abbrev fo(cls:Value)(nm q:Str)(s:Stmt)(kw doc pm:Value)(an:ZP)(cd ct:Value)(sl:ZF):Obj:=⟨cls,none,.func (W.fnOf nm q (L2.Uy s) (L2.Yw s) (L2.Zj s) .none kw doc pm an cd ct),sl⟩
abbrev fn(nm q:Str)(s:Stmt)(md:Str)(t:Nat)(c:Addr):Obj:=fo (.type "function") nm q s .none .none (.str md t) .none (.ref c) .none #[]
abbrev cd(x:Str)(a:Nat)(q:Str)(b c:Nat)(l k:Int)(r1 r2 r3 r4 r5:Addr)(e f:Int)(g:Nat):Obj:=⟨.type "code",.none,.fields #[.str x a,.str q b,.str "/claim/cut.py" c,.int l 0,.int k 0,.int 0 0,.int 0 0,.int 3 0,.ref r1,.bool Bool.true,.int 181 0,.ref r2,.none,.ref r3,.ref r4,.ref r5,.int e 0,.int f 0,.str "/claim/cut.py" g], #[]⟩
noncomputable def heapK:Params->W.Frag:=fun P =>
 (nat_lit 3, ⟨.type "dict", .none, .dict #[en P "__name__" 165 (.str "law_makes_k56_what_a_make_knows" 381), en P "__doc__" 166 (.none), en P "__package__" 167 (.none), en P "__loader__" 168 (.builtin "__main__.__loader__#opaque"), en P "__spec__" 169 (.none), en P "__annotations__" 170 (.ref 6), en P "__builtins__" 171 (.ref 4), en P "__file__" 173 (.str "/claim/cut.py" 172), en P "__cached__" 174 (.none), en P "LETTERS" 190 (.str "abcdefghijklmnopqrstuvwxyz" 189), en P "SIGNS" 192 (.str " !\"#$&'()*+,-./0123456789:;<=>?@ABCDEFGHIJKLMNOPQRSTUVWXYZ[\\]^_`abcdefghijklmnopqrstuvwxyz{|}~" 191), en P "GREATEST_WHOLE" 194 (.int 1000000000000000000 193), en P "GREATEST_NUMBER" 196 (.int 999 195), en P "LONGEST_TEXT" 198 (.int 200 197), en P "LONGEST_NAME" 200 (.int 8 199), en P "is_whole" 209 (.ref 21), en P "is_item_whole" 216 (.ref 28), en P "is_number" 223 (.ref 35), en P "is_text" 229 (.ref 40), en P "is_name" 235 (.ref 45), en P "rises" 241 (.ref 50), en P "MOST_PARTS" 245 (.int 20 244), en P "MOST_FIELDS" 247 (.int 8 246), en P "is_shape" 255 (.ref 57), en P "are_bounds" 263 (.ref 64), en P "are_members" 269 (.ref 69), en P "is_struck" 275 (.ref 74), en P "is_short_tuple" 282 (.ref 81), en P "is_field" 289 (.ref 88), en P "is_default" 296 (.ref 95), en P "is_arm" 303 (.ref 102), en P "is_single_value" 311 (.ref 109), en P "member_of" 320 (.ref 116), en P "MOST_FORMS" 324 (.int 8 323), en P "is_make" 330 (.ref 121), en P "form_of" 338 (.ref 128), en P "are_forms" 344 (.ref 133), en P "fits_in" 350 (.ref 138), en P "ofs_of" 356 (.ref 143), en P "fits_default" 366 (.ref 150), en P "knows_all" 374 (.ref 155), en P "has_all" 380 (.ref 160), en P "_law_tape" 389 (.ref 167), en P "_law_draw" 401 (.ref 174), en P "_law_plain" 411 (.ref 181), en P "_law_default" 419 (.ref 188), en P "_law_part" 432 (.ref 195), en P "_law_parted" 438 (.ref 200), en P "_law_plains" 447 (.ref 207), en P "_law_make" 463 (.ref 214), en P "_law_alike" 469 (.ref 219), en P "_law_near" 478 (.ref 226), en P "_law_turned" 484 (.ref 231), en P "_law_next" 494 (.ref 238), en P "_law_all_known" 500 (.ref 243), en P "_law_drawn" 506 (.ref 248), en P "_law_right" 516 (.ref 255), en P "law" 522 (.ref 260)] 58, #[]⟩) ::
 (nat_lit 20,cd "is_whole" 201 "is_whole" 202 203 8 3 15 16 17 18 19 207 8 208) ::
 (nat_lit 21,fn "is_whole" "is_whole" (top 7) "makes.items" 187 20) ::
 (nat_lit 27,cd "is_item_whole" 210 "is_item_whole" 211 212 10 1 22 23 24 25 26 214 10 215) ::
 (nat_lit 28,fn "is_item_whole" "is_item_whole" (top 8) "makes.items" 187 27) ::
 (nat_lit 34,cd "is_number" 217 "is_number" 218 219 12 1 29 30 31 32 33 221 12 222) ::
 (nat_lit 35,fn "is_number" "is_number" (top 9) "makes.items" 187 34) ::
 (nat_lit 39,⟨.type "code",.none,.fields #[.str "is_text" 224,.str "is_text" 225,.str "/claim/cut.py" 226,.int 14 0,.int 2 0,.int 0 0,.int 0 0,.int 3 0,.ref 36,.bool Bool.true,.int 181 0,.ref 37,.none,.none,.none,.ref 38,.int 227 0,.int 14 0,.str "/claim/cut.py" 228], #[]⟩) ::
 (nat_lit 40,fn "is_text" "is_text" (top 10) "makes.items" 187 39) ::
 (nat_lit 44,⟨.type "code",.none,.fields #[.str "is_name" 230,.str "is_name" 231,.str "/claim/cut.py" 232,.int 16 0,.int 1 0,.int 0 0,.int 0 0,.int 3 0,.ref 41,.bool Bool.true,.int 181 0,.ref 42,.none,.none,.none,.ref 43,.int 233 0,.int 16 0,.str "/claim/cut.py" 234], #[]⟩) ::
 (nat_lit 45,fn "is_name" "is_name" (top 11) "makes.items" 187 44) ::
 (nat_lit 49,⟨.type "code",.none,.fields #[.str "rises" 236,.str "rises" 237,.str "/claim/cut.py" 238,.int 20 0,.int 1 0,.int 0 0,.int 0 0,.int 3 0,.ref 46,.bool Bool.true,.int 181 0,.ref 47,.none,.none,.none,.ref 48,.int 239 0,.int 20 0,.str "/claim/cut.py" 240], #[]⟩) ::
 (nat_lit 50,fn "rises" "rises" (top 12) "makes.items" 187 49) ::
 (nat_lit 56,cd "is_shape" 248 "is_shape" 249 250 25 1 51 52 53 54 55 253 25 254) ::
 (nat_lit 57,fn "is_shape" "is_shape" (top 16) "makes.shapes" 242 56) ::
 (nat_lit 63,cd "are_bounds" 256 "are_bounds" 257 258 42 2 58 59 60 61 62 261 42 262) ::
 (nat_lit 64,fn "are_bounds" "are_bounds" (top 17) "makes.shapes" 242 63) ::
 (nat_lit 68,⟨.type "code",.none,.fields #[.str "are_members" 264,.str "are_members" 265,.str "/claim/cut.py" 266,.int 44 0,.int 3 0,.int 0 0,.int 0 0,.int 3 0,.ref 65,.bool Bool.true,.int 181 0,.ref 66,.none,.none,.none,.ref 67,.int 267 0,.int 44 0,.str "/claim/cut.py" 268], #[]⟩) ::
 (nat_lit 69,fn "are_members" "are_members" (top 18) "makes.shapes" 242 68) ::
 (nat_lit 73,⟨.type "code",.none,.fields #[.str "is_struck" 270,.str "is_struck" 271,.str "/claim/cut.py" 272,.int 50 0,.int 2 0,.int 0 0,.int 0 0,.int 3 0,.ref 70,.bool Bool.true,.int 181 0,.ref 71,.none,.none,.none,.ref 72,.int 273 0,.int 50 0,.str "/claim/cut.py" 274], #[]⟩) ::
 (nat_lit 74,fn "is_struck" "is_struck" (top 19) "makes.shapes" 242 73) ::
 (nat_lit 80,cd "is_short_tuple" 276 "is_short_tuple" 277 278 54 1 75 76 77 78 79 280 54 281) ::
 (nat_lit 81,fn "is_short_tuple" "is_short_tuple" (top 20) "makes.shapes" 242 80) ::
 (nat_lit 87,cd "is_field" 283 "is_field" 284 285 56 1 82 83 84 85 86 287 56 288) ::
 (nat_lit 88,fn "is_field" "is_field" (top 21) "makes.shapes" 242 87) ::
 (nat_lit 94,cd "is_default" 290 "is_default" 291 292 58 1 89 90 91 92 93 294 58 295) ::
 (nat_lit 95,fn "is_default" "is_default" (top 22) "makes.shapes" 242 94) ::
 (nat_lit 101,cd "is_arm" 297 "is_arm" 298 299 60 1 96 97 98 99 100 301 60 302) ::
 (nat_lit 102,fn "is_arm" "is_arm" (top 23) "makes.shapes" 242 101) ::
 (nat_lit 108,cd "is_single_value" 304 "is_single_value" 305 306 64 2 103 104 105 106 107 309 64 310) ::
 (nat_lit 109,fn "is_single_value" "is_single_value" (top 24) "makes.shapes" 242 108) ::
 (nat_lit 115,cd "member_of" 312 "member_of" 313 314 70 2 110 111 112 113 114 318 70 319) ::
 (nat_lit 116,fn "member_of" "member_of" (top 25) "makes.shapes" 242 115) ::
 (nat_lit 120,⟨.type "code",.none,.fields #[.str "is_make" 325,.str "is_make" 326,.str "/claim/cut.py" 327,.int 77 0,.int 1 0,.int 0 0,.int 0 0,.int 3 0,.ref 117,.bool Bool.true,.int 181 0,.ref 118,.none,.none,.none,.ref 119,.int 328 0,.int 77 0,.str "/claim/cut.py" 329], #[]⟩) ::
 (nat_lit 121,fn "is_make" "is_make" (top 28) "makes.forms" 321 120) ::
 (nat_lit 127,cd "form_of" 331 "form_of" 332 333 85 2 122 123 124 125 126 336 85 337) ::
 (nat_lit 128,fn "form_of" "form_of" (top 29) "makes.forms" 321 127) ::
 (nat_lit 132,⟨.type "code",.none,.fields #[.str "are_forms" 339,.str "are_forms" 340,.str "/claim/cut.py" 341,.int 87 0,.int 1 0,.int 0 0,.int 0 0,.int 3 0,.ref 129,.bool Bool.true,.int 181 0,.ref 130,.none,.none,.none,.ref 131,.int 342 0,.int 87 0,.str "/claim/cut.py" 343], #[]⟩) ::
 (nat_lit 133,fn "are_forms" "are_forms" (top 30) "makes.forms" 321 132) ::
 (nat_lit 137,⟨.type "code",.none,.fields #[.str "fits_in" 345,.str "fits_in" 346,.str "/claim/cut.py" 347,.int 91 0,.int 2 0,.int 0 0,.int 0 0,.int 3 0,.ref 134,.bool Bool.true,.int 181 0,.ref 135,.none,.none,.none,.ref 136,.int 348 0,.int 91 0,.str "/claim/cut.py" 349], #[]⟩) ::
 (nat_lit 138,fn "fits_in" "fits_in" (top 31) "makes.forms" 321 137) ::
 (nat_lit 142,⟨.type "code",.none,.fields #[.str "ofs_of" 351,.str "ofs_of" 352,.str "/claim/cut.py" 353,.int 95 0,.int 1 0,.int 0 0,.int 0 0,.int 3 0,.ref 139,.bool Bool.true,.int 181 0,.ref 140,.none,.none,.none,.ref 141,.int 354 0,.int 95 0,.str "/claim/cut.py" 355], #[]⟩) ::
 (nat_lit 143,fn "ofs_of" "ofs_of" (top 32) "makes.forms" 321 142) ::
 (nat_lit 149,cd "fits_default" 357 "fits_default" 358 359 101 2 144 145 146 147 148 364 101 365) ::
 (nat_lit 150,fn "fits_default" "fits_default" (top 33) "makes.forms" 321 149) ::
 (nat_lit 154,⟨.type "code",.none,.fields #[.str "knows_all" 369,.str "knows_all" 370,.str "/claim/cut.py" 371,.int 110 0,.int 3 0,.int 0 0,.int 0 0,.int 3 0,.ref 151,.bool Bool.true,.int 181 0,.ref 152,.none,.none,.none,.ref 153,.int 372 0,.int 110 0,.str "/claim/cut.py" 373], #[]⟩) ::
 (nat_lit 155,fn "knows_all" "knows_all" (top 35) "makes.chains" 367 154) ::
 (nat_lit 159,⟨.type "code",.none,.fields #[.str "has_all" 375,.str "has_all" 376,.str "/claim/cut.py" 377,.int 112 0,.int 2 0,.int 0 0,.int 0 0,.int 3 0,.ref 156,.bool Bool.true,.int 181 0,.ref 157,.none,.none,.none,.ref 158,.int 378 0,.int 112 0,.str "/claim/cut.py" 379], #[]⟩) ::
 (nat_lit 160,fn "has_all" "has_all" (top 36) "makes.chains" 367 159) ::
 (nat_lit 166,cd "_law_tape" 383 "_law_tape" 384 385 117 1 161 162 163 164 165 387 117 388) ::
 (nat_lit 167,fn "_law_tape" "_law_tape" (top 38) "law_makes_k56_what_a_make_knows" 381 166) ::
 (nat_lit 173,cd "_law_draw" 390 "_law_draw" 391 392 119 2 168 169 170 171 172 399 119 400) ::
 (nat_lit 174,fn "_law_draw" "_law_draw" (top 39) "law_makes_k56_what_a_make_knows" 381 173) ::
 (nat_lit 180,cd "_law_plain" 402 "_law_plain" 403 404 133 3 175 176 177 178 179 409 133 410) ::
 (nat_lit 181,fn "_law_plain" "_law_plain" (top 40) "law_makes_k56_what_a_make_knows" 381 180) ::
 (nat_lit 187,cd "_law_default" 412 "_law_default" 413 414 142 2 182 183 184 185 186 417 142 418) ::
 (nat_lit 188,fn "_law_default" "_law_default" (top 41) "law_makes_k56_what_a_make_knows" 381 187) ::
 (nat_lit 194,cd "_law_part" 420 "_law_part" 421 422 150 5 189 190 191 192 193 430 150 431) ::
 (nat_lit 195,fn "_law_part" "_law_part" (top 42) "law_makes_k56_what_a_make_knows" 381 194) ::
 (nat_lit 199,⟨.type "code",.none,.fields #[.str "_law_parted" 433,.str "_law_parted" 434,.str "/claim/cut.py" 435,.int 161 0,.int 4 0,.int 0 0,.int 0 0,.int 3 0,.ref 196,.bool Bool.true,.int 181 0,.ref 197,.none,.none,.none,.ref 198,.int 436 0,.int 161 0,.str "/claim/cut.py" 437], #[]⟩) ::
 (nat_lit 200,fn "_law_parted" "_law_parted" (top 43) "law_makes_k56_what_a_make_knows" 381 199) ::
 (nat_lit 206,cd "_law_plains" 439 "_law_plains" 440 441 169 1 201 202 203 204 205 445 169 446) ::
 (nat_lit 207,fn "_law_plains" "_law_plains" (top 44) "law_makes_k56_what_a_make_knows" 381 206) ::
 (nat_lit 213,cd "_law_make" 448 "_law_make" 449 450 175 1 208 209 210 211 212 461 175 462) ::
 (nat_lit 214,fn "_law_make" "_law_make" (top 45) "law_makes_k56_what_a_make_knows" 381 213) ::
 (nat_lit 218,⟨.type "code",.none,.fields #[.str "_law_alike" 464,.str "_law_alike" 465,.str "/claim/cut.py" 466,.int 192 0,.int 2 0,.int 0 0,.int 0 0,.int 3 0,.ref 215,.bool Bool.true,.int 181 0,.ref 216,.none,.none,.none,.ref 217,.int 467 0,.int 192 0,.str "/claim/cut.py" 468], #[]⟩) ::
 (nat_lit 219,fn "_law_alike" "_law_alike" (top 46) "law_makes_k56_what_a_make_knows" 381 218) ::
 (nat_lit 225,cd "_law_near" 470 "_law_near" 471 472 208 2 220 221 222 223 224 476 208 477) ::
 (nat_lit 226,fn "_law_near" "_law_near" (top 47) "law_makes_k56_what_a_make_knows" 381 225) ::
 (nat_lit 230,⟨.type "code",.none,.fields #[.str "_law_turned" 479,.str "_law_turned" 480,.str "/claim/cut.py" 481,.int 215 0,.int 2 0,.int 0 0,.int 0 0,.int 3 0,.ref 227,.bool Bool.true,.int 181 0,.ref 228,.none,.none,.none,.ref 229,.int 482 0,.int 215 0,.str "/claim/cut.py" 483], #[]⟩) ::
 (nat_lit 231,fn "_law_turned" "_law_turned" (top 48) "law_makes_k56_what_a_make_knows" 381 230) ::
 (nat_lit 237,cd "_law_next" 485 "_law_next" 486 487 246 3 232 233 234 235 236 492 246 493) ::
 (nat_lit 238,fn "_law_next" "_law_next" (top 49) "law_makes_k56_what_a_make_knows" 381 237) ::
 (nat_lit 242,⟨.type "code",.none,.fields #[.str "_law_all_known" 495,.str "_law_all_known" 496,.str "/claim/cut.py" 497,.int 250 0,.int 3 0,.int 0 0,.int 0 0,.int 3 0,.ref 239,.bool Bool.true,.int 181 0,.ref 240,.none,.none,.none,.ref 241,.int 498 0,.int 250 0,.str "/claim/cut.py" 499], #[]⟩) ::
 (nat_lit 243,fn "_law_all_known" "_law_all_known" (top 50) "law_makes_k56_what_a_make_knows" 381 242) ::
 (nat_lit 247,⟨.type "code",.none,.fields #[.str "_law_drawn" 501,.str "_law_drawn" 502,.str "/claim/cut.py" 503,.int 259 0,.int 3 0,.int 0 0,.int 0 0,.int 3 0,.ref 244,.bool Bool.true,.int 181 0,.ref 245,.none,.none,.none,.ref 246,.int 504 0,.int 259 0,.str "/claim/cut.py" 505], #[]⟩) ::
 (nat_lit 248,fn "_law_drawn" "_law_drawn" (top 51) "law_makes_k56_what_a_make_knows" 381 247) ::
 (nat_lit 254,cd "_law_right" 507 "_law_right" 508 509 266 3 249 250 251 252 253 514 266 515) ::
 (nat_lit 255,fn "_law_right" "_law_right" (top 52) "law_makes_k56_what_a_make_knows" 381 254) ::
 (nat_lit 259,⟨.type "code",.none,.fields #[.str "law" 517,.str "law" 518,.str "/claim/cut.py" 519,.int 271 0,.int 1 0,.int 0 0,.int 0 0,.int 3 0,.ref 256,.bool Bool.true,.int 181 0,.ref 257,.none,.none,.none,.ref 258,.int 520 0,.int 271 0,.str "/claim/cut.py" 521], #[]⟩) ::
 (nat_lit 260,fn "law" "law" (top 53) "law_makes_k56_what_a_make_knows" 381 259) ::
 []
def asK:ZU:=[3,20,21,27,28,34,35,39,40,44,45,49,50,56,57,63,64,68,69,73,74,80,81,87,88,94,95,101,102,108,109,115,116,120,121,127,128,132,133,137,138,142,143,149,150,154,155,159,160,166,167,173,174,180,181,187,188,194,195,199,200,206,207,213,214,218,219,225,226,230,231,237,238,242,243,247,248,254,255,259,260]
theorem Qf(P:Params):asK=(heapK P).map (·.1):=by kernel_rfl
noncomputable abbrev Dl:W.Hook:=W.kHook heapK asK Qf
abbrev xtK(s:Shared):Bool:=W.xlAt viewK [] s && W.recOk (W.RowW.records PySem.Challenge.rw_makes_k56_what_a_make_knows.row.toRowW) s
abbrev Hv(w:World):Prop:=(W.openEnds treeTable PySem.Challenge.pw_makes_k56_what_a_make_knows w 2686).map (fun s=>(W.openSeen viewK Yx (importedModules PySem.Challenge.pw_makes_k56_what_a_make_knows.main.body) xtK true s,Dl.obs s))=some (W.openGood viewK Yx,Dl.val w)
abbrev Vh(s:Shared):=W.openSeen viewK Yx (importedModules PySem.Challenge.pw_makes_k56_what_a_make_knows.main.body) xtK true s
abbrev wK(w:World)(b:Bool):World:=w.withFollow "special-get-raises" b
theorem chkF(w:World)(os:OsState):((L2.Rh PySem.Challenge.pw_makes_k56_what_a_make_knows 2686 (wK w false) os).map fun s=>L2.di PySem.Challenge.pw_makes_k56_what_a_make_knows (wK w false) s.abs)=some true:=by kernel_rfl
theorem chkR(w:World)(os:OsState):((L2.Rh PySem.Challenge.pw_makes_k56_what_a_make_knows 2686 (wK w true) os).map fun s=>L2.di PySem.Challenge.pw_makes_k56_what_a_make_knows (wK w true) s.abs)=some true:=by kernel_rfl
theorem seenF1(w:World)(os:OsState):((L2.Rh PySem.Challenge.pw_makes_k56_what_a_make_knows 2686 (wK w false) os).map fun s=>(Vh s.abs).1)=some (W.openGood viewK Yx).1:=by kernel_rfl
theorem seenF2(w:World)(os:OsState):((L2.Rh PySem.Challenge.pw_makes_k56_what_a_make_knows 2686 (wK w false) os).map fun s=>(Vh s.abs).2.1)=some (W.openGood viewK Yx).2.1:=by kernel_rfl
theorem seenF3(w:World)(os:OsState):((L2.Rh PySem.Challenge.pw_makes_k56_what_a_make_knows 2686 (wK w false) os).map fun s=>(Vh s.abs).2.2)=some (W.openGood viewK Yx).2.2:=by kernel_rfl
theorem seenT1(w:World)(os:OsState):((L2.Rh PySem.Challenge.pw_makes_k56_what_a_make_knows 2686 (wK w true) os).map fun s=>(Vh s.abs).1)=some (W.openGood viewK Yx).1:=by kernel_rfl
theorem seenT2(w:World)(os:OsState):((L2.Rh PySem.Challenge.pw_makes_k56_what_a_make_knows 2686 (wK w true) os).map fun s=>(Vh s.abs).2.1)=some (W.openGood viewK Yx).2.1:=by kernel_rfl
theorem seenT3(w:World)(os:OsState):((L2.Rh PySem.Challenge.pw_makes_k56_what_a_make_knows 2686 (wK w true) os).map fun s=>(Vh s.abs).2.2)=some (W.openGood viewK Yx).2.2:=by kernel_rfl
theorem Ax{w:World}{os:OsState}(h1:((L2.Rh PySem.Challenge.pw_makes_k56_what_a_make_knows 2686 w os).map fun s=>(Vh s.abs).1)=some (W.openGood viewK Yx).1)(h2:((L2.Rh PySem.Challenge.pw_makes_k56_what_a_make_knows 2686 w os).map fun s=>(Vh s.abs).2.1)=some (W.openGood viewK Yx).2.1)
  (h3:((L2.Rh PySem.Challenge.pw_makes_k56_what_a_make_knows 2686 w os).map fun s=>(Vh s.abs).2.2)=some (W.openGood viewK Yx).2.2):((L2.Rh PySem.Challenge.pw_makes_k56_what_a_make_knows 2686 w os).map fun s=>Vh s.abs)=some (W.openGood viewK Yx):=by
 obtain⟨s,e,c1⟩:=L2.Ge (f:=fun s=>(Vh s).1) h1;obtain⟨s2,e2,c2⟩:=L2.Ge (f:=fun s=>(Vh s).2.1) h2;obtain⟨s3,e3,c3⟩:=L2.Ge (f:=fun s=>(Vh s).2.2) h3;rw[e]at e2 e3;cases e2;cases e3;rw[e];exact congrArg some (Prod.ext c1 (Prod.ext c2 c3))
theorem seenF(w:World)(os:OsState):((L2.Rh PySem.Challenge.pw_makes_k56_what_a_make_knows 2686 (wK w false) os).map fun s=>Vh s.abs)=some (W.openGood viewK Yx):=Ax (seenF1 w os) (seenF2 w os) (seenF3 w os)
theorem seenT(w:World)(os:OsState):((L2.Rh PySem.Challenge.pw_makes_k56_what_a_make_knows 2686 (wK w true) os).map fun s=>Vh s.abs)=some (W.openGood viewK Yx):=Ax (seenT1 w os) (seenT2 w os) (seenT3 w os)
theorem obsF(w:World)(os:OsState):((L2.Rh PySem.Challenge.pw_makes_k56_what_a_make_knows 2686 (wK w false) os).map fun s=>Dl.obs s.abs)=some (Dl.val (wK w false)):=by kernel_rfl
theorem obsT(w:World)(os:OsState):((L2.Rh PySem.Challenge.pw_makes_k56_what_a_make_knows 2686 (wK w true) os).map fun s=>Dl.obs s.abs)=some (Dl.val (wK w true)):=by kernel_rfl
theorem A3(w:World)(h1:∀os,((L2.Rh PySem.Challenge.pw_makes_k56_what_a_make_knows 2686 w os).map fun s=>L2.di PySem.Challenge.pw_makes_k56_what_a_make_knows w s.abs)=some true)(h2:∀os,((L2.Rh PySem.Challenge.pw_makes_k56_what_a_make_knows 2686 w os).map fun s=>Vh s.abs)=some (W.openGood viewK Yx))(h3:∀os,((L2.Rh PySem.Challenge.pw_makes_k56_what_a_make_knows 2686 w os).map fun s=>Dl.obs s.abs)=some (Dl.val w)):Hv w:=by
 obtain⟨⟨hp,g,d,k,os⟩,hs,hv⟩:=Z4.mp (W.boot_open (p:=PySem.Challenge.pw_makes_k56_what_a_make_knows) (N:=2686) rfl (by decide) (fun s=>rfl) w);simp only[Prod.mk.injEq]at hv;obtain⟨rfl,rfl,rfl,rfl⟩:=hv;show Option.map _ (Option.bind (W.fencedOpening treeTable PySem.Challenge.pw_makes_k56_what_a_make_knows w 2686) (W.topFrom treeTable PySem.Challenge.pw_makes_k56_what_a_make_knows w 2686))=_;rw[hs];exact L2.top_of (h1 os) (h2 os) (h3 os)
theorem leftF(w:World):Hv (w.withFollow "special-get-raises" false):=A3 _ (chkF w) (seenF w) (obsF w)
theorem leftT(w:World):Hv (w.withFollow "special-get-raises" true):=A3 _ (chkR w) (seenT w) (obsT w)
theorem leftK:W.LeftO PySem.Challenge.pw_makes_k56_what_a_make_knows viewK Yx xtK Dl.obs Dl.val 2686:=W.byRow2 "special-get-raises" leftF leftT
end K56
namespace L2
open PySem PySem.Spec PyProof.Rows
abbrev Key:=Sum Int Str
noncomputable def Mn:Key->Value->Bool
 | .inl k,v=>Value.isInt k v
 | .inr x,v=>Value.isStrOf x v
def keyH(w:World):Key->Int
 | .inl k=>hashInt k
 | .inr x=>hashStr w x
theorem Zs:∀{k:Key} {v:Value},Mn k v=true->(∃i t,k=Sum.inl i/\v=Value.int i t)\/(∃x t,k=Sum.inr x/\v=Value.str x t)
 | .inl i,v,h=>by
  obtain⟨t,e⟩:=Value.isInt_shape (k:=i) (v:=v) h;exact .inl ⟨i,t,rfl,e⟩
 | .inr x,v,h=>by
  obtain⟨t,e⟩:=Value.isStrOf_shape (x:=x) (v:=v) h;exact .inr ⟨x,t,rfl,e⟩
theorem W2(i:Int)(t:Tok):Mn (.inl i) (.int i t)=true:=by simp[Mn,Value.isInt]
theorem W1(x:Str)(t:Tok):Mn (.inr x) (.str x t)=true:=by simp[Mn,Value.isStrOf]
theorem key_ll(a b:Int):decide ((Sum.inl a:Key)=Sum.inl b)=(a == b):=by
 by_cases e:a=b
 .subst e;simp
 .have h:¬ (Sum.inl a:Key)=Sum.inl b:=fun q=>e (Sum.inl.inj q);rw[Nf h];exact(B0n.mpr e).symm
theorem key_rr(a b:Str):decide ((Sum.inr a:Key)=Sum.inr b)=decide (a=b):=by
 by_cases e:a=b
 .subst e;simp
 .have h:¬ (Sum.inr a:Key)=Sum.inr b:=fun q=>e (Sum.inr.inj q);rw[Nf h,Nf e]
theorem key_lr(a:Int)(b:Str):decide ((Sum.inl a:Key)=Sum.inr b)=false:=Nf (fun q=>nomatch q)
theorem key_rl(a:Str)(b:Int):decide ((Sum.inr a:Key)=Sum.inl b)=false:=Nf (fun q=>nomatch q)
noncomputable def Zg(prog:Program)(w:World):PySem.KeyKind prog w Key where
 is:=Mn
 hash:=keyH w
 inj:=fun v a b ha hb=>by
  rcases Zs ha with ⟨i,t,rfl,rfl⟩ | ⟨x,t,rfl,rfl⟩
  .rcases Zs hb with ⟨j,u,rfl,e⟩ | ⟨y,u,rfl,e⟩
   .injection e with e1 _;rw[e1]
   .exact nomatch e
  .rcases Zs hb with ⟨j,u,rfl,e⟩ | ⟨y,u,rfl,e⟩
   .exact nomatch e
   .injection e with e1 _;rw[e1]
 byValue:=fun k v h=>by
  rcases Zs h with ⟨i,t,rfl,rfl⟩ | ⟨x,t,rfl,rfl⟩<;>rfl
 pyHash:=fun hv h=>by
  rcases Zs hv with ⟨i,t,rfl,rfl⟩ | ⟨x,t,rfl,rfl⟩
  .exact wpAny_pyHash_int h
  .exact wpAny_pyHash_str h
 eqBool:=fun hu hv h=>by
  rcases Zs hu with ⟨i,t,rfl,rfl⟩ | ⟨x,t,rfl,rfl⟩
  .rcases Zs hv with ⟨j,u,rfl,rfl⟩ | ⟨y,u,rfl,rfl⟩
   .rw[key_ll]at h;exact wpAny_eqBool_int h
   .rw[key_lr]at h;exact SeqAt.EqAt.int_str i t y u _ _ _ _ h
  .rcases Zs hv with ⟨j,u,rfl,rfl⟩ | ⟨y,u,rfl,rfl⟩
   .rw[key_rl]at h;exact SeqAt.EqAt.str_int x t j u _ _ _ _ h
   .rw[key_rr]at h;exact wpAny_eqBool_str h
 «strs»:=fun k x t v h=>by
  rcases Zs h with ⟨i,u,rfl,e⟩ | ⟨y,u,rfl,e⟩
  .exact nomatch e
  .injection e with e1 _
   subst e1;cases v<;>rfl
theorem Po(prog:Program)(w:World)(i:Int)(t:Tok):(Zg prog w).is (.inl i) (.int i t)=true:=W2 i t
theorem Pa(prog:Program)(w:World)(x:Str)(t:Tok):(Zg prog w).is (.inr x) (.str x t)=true:=W1 x t
inductive V where
 | non | bl(b:Bool) | int(i:Int) | str(x:Str) | byt(b:Array UInt8) | flt(b:UInt64) | ref(a:Addr) | ty(n:String)
 deriving DecidableEq
abbrev ZQ:=List V
abbrev ZJ:=List (Option V)
def RelV:V->Value->Prop
 | .non,u=>u=Value.none
 | .bl b,u=>u=Value.bool b
 | .int i,u=>∃t,u=Value.int i t
 | .str x,u=>∃t,u=Value.str x t
 | .byt b,u=>∃t,u=Value.bytes b t
 | .flt b,u=>∃t,u=Value.float b t
 | .ref a,u=>u=Value.ref a
 | .ty n,u=>u=Value.type n
abbrev Zw:ZQ->ZM->Prop:=Paired RelV
theorem Zw.length{xs:ZQ}{us:ZM}(r:Zw xs us):xs.length=us.length:=Paired.length r
theorem Zw.get:∀{xs:ZQ} {us:ZM} {i:Nat} {x:V},Zw xs us->xs[i]?=some x->∃u,us[i]?=some u/\RelV x u
 | _,_,_,_,.nil,e=>by simp at e
 | _,_,0,_,.cons r _,e=>by simp at e;subst e;exact⟨_,rfl,r⟩
 | _,_,i+1,x,.cons _ t,e=>by
  obtain⟨u,h1,h2⟩:=Zw.get (i:=i) (x:=x) t (by simpa using e);exact⟨u,by simpa using h1,h2⟩
theorem Zw.set{x:V}{u:Value}(r:RelV x u):∀{xs:ZQ} {us:ZM} (i:Nat),Zw xs us->Zw (xs.set i x) (us.set i u)
 | _,_,_,.nil=>.nil
 | _,_,0,.cons _ t=>.cons r t
 | _,_,i+1,.cons q t=>.cons q (Zw.set r i t)
theorem Zw.append:∀{xs ys:ZQ} {us ws:ZM},Zw xs us->Zw ys ws->Zw (xs++ys) (us++ws)
 | _,_,_,_,.nil,s=>s
 | _,_,_,_,.cons r t,s=>.cons r (Zw.append t s)
theorem Zw.take:∀{xs:ZQ} {us:ZM} (n:Nat),Zw xs us->Zw (xs.take n) (us.take n)
 | _,_,0,_=>.nil
 | _,_,_+1,.nil=>.nil
 | _,_,n+1,.cons r t=>.cons r (Zw.take n t)
theorem Zw.drop:∀{xs:ZQ} {us:ZM} (n:Nat),Zw xs us->Zw (xs.drop n) (us.drop n)
 | _,_,0,r=>r
 | _,_,_+1,.nil=>.nil
 | _,_,n+1,.cons _ t=>Zw.drop n t
def Bw:Option V->ZT->Prop
 | some v,some u=>RelV v u
 | none,none=>True
 | _,_=>False
def KV{j:Type}:List (j×V)->List (j×Value)->Prop:=Paired fun(p:j×V) (q:j×Value)=>p.1=q.1/\RelV p.2 q.2
def kV:Key->V
 | .inl i=>.int i
 | .inr x=>.str x
inductive HO where
 | lst(xs:ZQ)
 | tup (xs:ZQ)
 | dK (XB:List (Key×V)) | dT (XB:List (List Key×V))
 | set (S:Int->Bool) (n:Nat)
 | ins (C dx:Addr) (fs:List (Str×V))
 | own (x:Addr)
 | xd (fs:List (Str×V))
 | met (f x:Addr)
 | rng (lo hi:Int)
 | frz (o:Obj) (u:HO)
 | tbl (ps:ZN)
 | ext (φ:Heap->Prop)
abbrev Hp:=Addr->Option HO
def upd(H:Hp)(a:Addr)(o:HO):Hp:=fun b=>if b=a then some o else H b
theorem Zx{H:Hp}{a:Addr}{o:HO}:upd H a o a=some o:=by unfold upd;rw[if_pos rfl]
theorem Zz{H:Hp}{a b:Addr}{o:HO}(h:b≠a):upd H a o b=H b:=by unfold upd;rw[if_neg h]
theorem ne_of{H:Hp}{a b:Addr}{o u:HO}(h:H a=some o)(h':H b=some u)(d:o≠u):a≠b:=by
 intro e;subst e;rw[h]at h';exact d (Dp h')
theorem Zi{H:Hp}{a b:Addr}{o:HO}(h:H a=some o)(h':H b=none):a≠b:=by
 intro e;subst e;rw[h]at h';cases h'
section
variable(P:Program)(w:World)
def Wv(h:Heap)(a:Addr)(its:ZN):Prop:=∃o,h.get? a=some o/\o.cls=.type "tuple" /\ (∃n,o.data=.seq its n)/\o.dict=none
theorem Wv.tup{h:Heap}{a:Addr}{its:ZN}(x:Wv h a its):IsTup h a its:=let ⟨o,e,c,d,_⟩:=x;⟨o,e,c,d⟩
theorem Wv.lt{h:Heap}{a:Addr}{its:ZN}(x:Wv h a its):a<h.objs.size:=x.tup.lt
theorem Wv.new(h:Heap)(its:ZN):Wv (h.push { cls:=.type "tuple",data:=.seq its }) h.objs.size its:=⟨_,Dv _ rfl,rfl,⟨_,rfl⟩,rfl⟩
def Zh(H:Hp)(h:Heap)(a:Addr):HO->Prop
 | .lst xs=>xs.length<=sizeLine/\∃(its:ZM) (n:Nat),Zw xs its/\h.get? a=some { cls:=.type "list",data:=.seq its.toArray n }
 | .tup xs=>xs.length<=sizeLine/\∃its:ZM,Zw xs its/\Wv h a its.toArray
 | .dK XB=>XB.length<=sizeLine/\(a == sysModules)=false/\∃vs,KV XB vs/\h.DictOf (Zg P w) a vs
 | .dT XB=>XB.length<=sizeLine/\(a == sysModules)=false/\∃xs:List (List Key×Addr×Value),
   Paired (fun(p:List Key×V) (q:List Key×Addr×Value)=>p.1=q.1/\H q.2.1=some (.tup (p.1.map kV))/\RelV p.2 q.2.2) XB xs /\
   ∃o es ep,h.get? a=some o/\o.ExactDict/\o.data=.dict es ep/\es.toList=xs.map (entryOfKey (tupleKind (Zg P w)))/\(xs.map (·.1)).Nodup
 | .set S n=>h.SetOf (intKind P w) a S n
 | .ins C dx fs=>H dx=some (.own a)/\fs.length<=1000/\dx≠a/\h.get? a=some (W.instObj C dx) /\
   ∃mA,h.Ns1 dx mA/\(∀f,Bw (fs.lookup f) (mA f))/\PySem.Within mA (fs.map (·.1))
 | .own _=>∃o,h.get? a=some o
 | .xd fs=>∃mA,h.Ns1 a mA/\∀f,Bw (fs.lookup f) (mA f)
 | .rng lo hi=>∃t u v,h.get? a=some { cls:=.type "range",data:=.fields #[.int lo t,.int hi u,.int 1 v] }
 | .frz o u=>h.get? a=some o/\Zh H h a u
 | .tbl ps=>h.get? a=some { cls:=.none,data:=.fields ps }
 | .met f x=>h.get? a=some (W.methodObj (.ref f) (.ref x))
 | .ext φ=>φ h/\(∃o,h.get? a=some o)/\∀h1 h2:Heap,φ h1->(∀o,h1.get? a=some o->h2.get? a=some o)->φ h2
def D8(H:Hp)(h:Heap):Prop:=∀a o,H a=some o->Zh P w H h a o
end
section
variable{P:Program}{w:World}{H H':Hp}{h h':Heap}{a:Addr}{o:HO}
theorem Zh.lt(x:Zh P w H h a o):a<h.objs.size:=by
 cases o with
 | lst xs=>obtain⟨_,_,_,_,e⟩:=x;exact Vt e
 | tup xs=>obtain⟨_,_,_,p⟩:=x;exact p.lt
 | dK XB=>obtain⟨_,_,_,_,o,_,_,e,_⟩:=x;exact Vt e
 | dT XB=>obtain⟨_,_,_,_,o,_,_,e,_⟩:=x;exact Vt e
 | set S n=>obtain⟨o,_,_,_,e,_⟩:=x;exact Vt e
 | ins C dx fs=>obtain⟨_,_,_,e,_⟩:=x;exact Vt e
 | own y=>obtain⟨_,e⟩:=x;exact Vt e
 | xd fs=>obtain⟨_,⟨_,_,_,e,_⟩,_⟩:=x;exact Vt e
 | rng lo hi=>obtain⟨_,_,_,e⟩:=x;exact Vt e
 | frz ob u=>obtain⟨e,_⟩:=x;exact Vt e
 | tbl ps=>exact Vt (show h.get? a=some _ from x)
 | met f y=>exact Vt (show h.get? a=some _ from x)
 | ext φ=>obtain⟨_,⟨_,e⟩,_⟩:=x;exact Vt e
theorem Paired.mapP{j Z:Type}{F G:j->Z->Prop}:∀{l₁:List j} {l₂:List Z},Paired F l₁ l₂->(∀a b,F a b->G a b)->Paired G l₁ l₂
 | _,_,.nil,_=>.nil
 | _,_,.cons r t,f=>.cons (f _ _ r) (Paired.mapP t f)
theorem Zh.stay(x:Zh P w H h a o)(k:∀b u,(b=a\/H b=some (.own a))->h.get? b=some u->h'.get? b=some u)
  (ho:∀b,H b=some (.own a)->H' b=some (.own a)) (ht:∀b xs,H b=some (.tup xs)->H' b=some (.tup xs)):Zh P w H' h' a o:=by
 induction o with
 | lst xs=>obtain⟨z,its,n,r,e⟩:=x;exact⟨z,its,n,r,k _ _ (.inl rfl) e⟩
 | tup xs=>obtain⟨z,its,r,ob,e,c⟩:=x;exact⟨z,its,r,ob,k _ _ (.inl rfl) e,c⟩
 | dK XB=>obtain⟨z,y,vs,r,ob,es,ep,e,c⟩:=x;exact⟨z,y,vs,r,ob,es,ep,k _ _ (.inl rfl) e,c⟩
 | dT XB =>
  obtain⟨z,y,xs,r,ob,es,ep,e,c⟩:=x;exact⟨z,y,xs,Paired.mapP r fun p q z=>⟨z.1,ht _ _ z.2.1,z.2.2⟩,ob,es,ep,k _ _ (.inl rfl) e,c⟩
 | set S n=>obtain⟨ob,es,ep,t,e,c⟩:=x;exact⟨ob,es,ep,t,k _ _ (.inl rfl) e,c⟩
 | ins C dx fs =>
  obtain⟨d,z,ne,e,mA,⟨od,es,ep,e2,c⟩,r⟩:=x;exact⟨ho _ d,z,ne,k _ _ (.inl rfl) e,mA,⟨od,es,ep,k _ _ (.inr d) e2,c⟩,r⟩
 | own y=>obtain⟨ob,e⟩:=x;exact⟨ob,k _ _ (.inl rfl) e⟩
 | xd fs=>obtain⟨mA,⟨od,es,ep,e,c⟩,r⟩:=x;exact⟨mA,⟨od,es,ep,k _ _ (.inl rfl) e,c⟩,r⟩
 | rng lo hi=>obtain⟨t,u,v,e⟩:=x;exact⟨t,u,v,k _ _ (.inl rfl) e⟩
 | frz ob u ih=>obtain⟨e,q⟩:=x;exact⟨k _ _ (.inl rfl) e,ih q⟩
 | tbl ps =>
  have e:h.get? a=some { cls:=.none,data:=.fields ps }:=x;show h'.get? a=some { cls:=.none,data:=.fields ps };exact k a _ (.inl rfl) e
 | met f y =>
  have e:h.get? a=some (W.methodObj (.ref f) (.ref y)):=x;show h'.get? a=some (W.methodObj (.ref f) (.ref y));exact k a _ (.inl rfl) e
 | ext φ=>obtain⟨p,⟨o,e⟩,st⟩:=x;exact⟨st _ _ p fun o q=>k _ _ (.inl rfl) q,⟨o,k _ _ (.inl rfl) e⟩,st⟩
theorem D8.lt(x:D8 P w H h)(e:H a=some o):a<h.objs.size:=(x a o e).lt
theorem D8.fresh(x:D8 P w H h)(e:h.objs.size<=a):H a=none:=by
 cases q:H a with
 | none=>rfl
 | some u=>exact absurd (Wy (x.lt q) e) (Nat.lt_irrefl _)
theorem D8.kept(x:D8 P w H h)(k:∀b u,h.get? b=some u->h'.get? b=some u):D8 P w H h':=fun a o e =>
 (x a o e).stay (fun b u _ q=>k b u q) (fun _ q=>q) fun _ _ q=>q
theorem D8.laid(x:D8 P w H h)(k:∀b u,h.get? b=some u->h'.get? b=some u)(hp:h.objs.size<=a)(new:Zh P w (upd H a o) h' a o):D8 P w (upd H a o) h':=fun b u e=>by
 have hn:=x.fresh hp;by_cases hb:b=a
 .subst hb;rw[Zx]at e;cases e;exact new
 .rw[Zz hb]at e;exact(x b u e).stay (fun c v _ q=>k c v q) (fun c q=>by rw[Zz (Zi q hn)];exact q) fun c xs q=>by rw[Zz (Zi q hn)];exact q
end
def Rd(H:Hp)(a:Addr)(u:HO):Prop:=H a=some u\/∃o,H a=some (.frz o u)
theorem Rd.of{H:Hp}{a:Addr}{u:HO}(h:H a=some u):Rd H a u:=.inl h
theorem Rd.ok{P:Program}{w:World}{H:Hp}{h:Heap}{a:Addr}{u:HO}(r:Rd H a u)(x:D8 P w H h):Zh P w H h a u:=by
 rcases r with r | ⟨o,r⟩
 .exact x a u r
 .obtain⟨_,q⟩:=x a _ r;exact q
def Mut:Option HO->Prop
 | some (.lst _)=>True
 | some (.dK _)=>True
 | some (.dT _)=>True
 | some (.set _ _)=>True
 | some (.ins _ _ _)=>True
 | some (.ext _)=>True
 | _=>False
section
variable{P:Program}{w:World}{H:Hp}{h h':Heap}{x e:Addr}{o':HO}
theorem D8.write(ok:D8 P w H h)(mu:Mut (H x))(he:e=x\/H e=some (.own x))(k:∀b u,b≠e->h.get? b=some u->h'.get? b=some u)(heo:∃u,h'.get? e=some u)
  (new:Zh P w (upd H x o') h' x o'):D8 P w (upd H x o') h':=fun b u q=>by
 have nown:∀c y,H c=some (.own y)->c≠x:=fun c y r z=>by subst z;rw[r]at mu;exact mu
 have ntup:∀c xs,H c=some (.tup xs)->c≠x:=fun c xs r z=>by subst z;rw[r]at mu;exact mu
 by_cases hb:b=x
 .subst hb;rw[Zx]at q;cases q;exact new
 .rw[Zz hb]at q;by_cases hbe:b=e
  .have q':H b=some (.own x):=by
    rcases he with z | z
    .exact absurd (hbe.trans z) hb
    .rw[hbe];exact z
   rw[q]at q';cases q';obtain⟨v,hv⟩:=heo;exact⟨v,by rw[hbe];exact hv⟩
  .refine(ok b u q).stay (fun c v hc r=>k c v ?_ r) (fun c r=>by rw[Zz (nown c b r)];exact r) fun c xs r=>by rw[Zz (ntup c xs r)];exact r
   rcases hc with rfl | hc
   .exact hbe
   .rintro rfl;rcases he with z | z
    .exact nown c b hc z
    .rw[hc]at z;cases z;exact hb rfl
end
structure Un(fs ex:ZU)(H H':Hp)(h h':Heap):Prop where
 keep:∀b o,h.get? b=some o->H b=none->b ∉ fs->b ∉ ex->h'.get? b=some o
 slot:∀b o,h.get? b=some o->H b=none->b∈fs->b ∉ ex->∃sl,h'.get? b=some { o with slots:=sl }
 free:∀b o,h.get? b=some o->H b=none->b ∉ ex->H' b=none
 there:∀b o,h.get? b=some o->b ∉ ex->∃o',h'.get? b=some o'
 tups:∀b xs,H b=some (.tup xs)->H' b=some (.tup xs)
 frzs:∀b o u,H b=some (.frz o u)->H' b=some (.frz o u)
 tbls:∀b ps,H b=some (.tbl ps)->∃more,H' b=some (.tbl (ps++more))
section
variable{fs fs' ex ex':ZU}{H H1 H2:Hp}{h h1 h2 h':Heap}{a x e:Addr}{o:HO}
theorem Un.any(u:Un fs ex H H1 h h1){b:Addr}{ob:Obj}(q:h.get? b=some ob)(n:H b=none)(hx:b ∉ ex):∃sl,h1.get? b=some { ob with slots:=sl }:=by
 by_cases hb:b∈fs
 .exact u.slot b ob q n hb hx
 .exact⟨ob.slots,u.keep b ob q n hb hx⟩
theorem Un.trans(a:Un fs ex H H1 h h1)(b:Un fs ex H1 H2 h1 h2):Un fs ex H H2 h h2 where
 keep:=fun c ob q n hc hx=>b.keep c ob (a.keep c ob q n hc hx) (a.free c ob q n hx) hc hx
 slot:=fun c ob q n hc hx=>by
  obtain⟨sl,e1⟩:=a.slot c ob q n hc hx;obtain⟨sl',e2⟩:=b.slot c _ e1 (a.free c ob q n hx) hc hx;exact⟨sl',e2⟩
 free:=fun c ob q n hx=>by
  obtain⟨o',e1⟩:=a.there c ob q hx;exact b.free c o' e1 (a.free c ob q n hx) hx
 there:=fun c ob q hx=>by
  obtain⟨o',e1⟩:=a.there c ob q hx;exact b.there c o' e1 hx
 tups:=fun c xs q=>b.tups c xs (a.tups c xs q)
 frzs:=fun c ob xs q=>b.frzs c ob xs (a.frzs c ob xs q)
 tbls:=fun c ps q=>by
  obtain⟨m1,e1⟩:=a.tbls c ps q;obtain⟨m2,e2⟩:=b.tbls c _ e1;exact⟨m1++m2,by rw[e2,Array.append_assoc]⟩
theorem Un.kept(k:∀b u,h.get? b=some u->h'.get? b=some u):Un fs ex H H h h' :=
 ⟨fun b ob q _ _ _=>k b ob q,fun b ob q _ _ _=>⟨ob.slots,k b ob q⟩,fun _ _ _ n _=>n,fun b ob q _=>⟨ob,k b ob q⟩,fun _ _ q=>q,fun _ _ _ q=>q,fun _ ps q=>⟨#[],by rw[q];simp⟩⟩
theorem Un.refl:Un fs ex H H h h:=Un.kept fun _ _ q=>q
theorem Un.laid(k:∀b u,h.get? b=some u->h'.get? b=some u)(hp:h.objs.size<=a)(hn:H a=none):Un fs ex H (upd H a o) h h' where
 keep:=fun b u q _ _ _=>k b u q
 slot:=fun b u q _ _ _=>⟨u.slots,k b u q⟩
 free:=fun b u q n _=>by rw[Zz (Bv (Wy (Vt q) hp))];exact n
 there:=fun b u q _=>⟨u,k b u q⟩
 tups:=fun b xs q=>by rw[Zz (Zi q hn)];exact q
 frzs:=fun b u xs q=>by rw[Zz (Zi q hn)];exact q
 tbls:=fun b ps q=>⟨#[],by rw[Zz (Zi q hn),q];simp⟩
theorem Un.write(mu:Mut (H x))(he:e=x\/H e=some (.own x))(k:∀b u,b≠e->h.get? b=some u->h'.get? b=some u)(heo:∃u,h'.get? e=some u):Un fs ex H (upd H x o) h h':=by
 have hx:∀b,H b=none->b≠x:=fun b n z=>by subst z;rw[n]at mu;exact mu
 have hb:∀b,H b=none->b≠e:=fun b n z=>by
  subst z;rcases he with r | r
  .exact hx b n r
  .rw[n]at r;cases r
 have hm:∀b u,H b=some u->¬ Mut (some u)->b≠x:=fun b u q nm z=>by subst z;rw[q]at mu;exact nm mu
 refine⟨fun b u q n _ _=>k b u (hb b n) q,fun b u q n _ _=>⟨u.slots,k b u (hb b n) q⟩,fun b u q n _=>by rw[Zz (hx b n)];exact n,fun b u q _=>?_,
  fun b xs q=>by rw[Zz (hm b _ q fun z=>z)];exact q,fun b u xs q=>by rw[Zz (hm b _ q fun z=>z)];exact q,fun b ps q=>⟨#[],by rw[Zz (hm b _ q fun z=>z),q];simp⟩⟩
 by_cases hbe:b=e
 .subst hbe;exact heo
 .exact⟨u,k b u hbe q⟩
end
noncomputable def trk(h:Heap)(H:Hp):ZU:=(List.range h.objs.size).filter fun a=>(H a).isSome
def Fw(h:Heap)(H:Hp):Heap:=W.hideAll h (trk h H)
theorem xq(h:Heap)(H:Hp):(Fw h H).objs.size=h.objs.size:=W.hideAll_size _ _
theorem bo{h:Heap}{H:Hp}{b:Addr}{o:Obj}(e:h.get? b=some o)(n:H b=none):(Fw h H).get? b=some o :=
 W.hideAll_get _ e fun hm=>by
  have q:(H b).isSome=true:=(List.mem_filter.mp hm).2;rw[n]at q;simp at q
theorem oa{h:Heap}{H:Hp}{b:Addr}{o:Obj}(e:(Fw h H).get? b=some o):h.get? b=some o/\H b=none:=by
 have e':h.get? b=some o:=W.of_hideAll (trk h H) e;refine⟨e', ?_⟩;cases q:H b with
 | none=>rfl
 | some x =>
  have hm:b∈trk h H:=List.mem_filter.mpr ⟨List.mem_range.mpr (Vt e'),by simp[q]⟩;have z:(Fw h H).get? b=none:=W.hideAll_none (trk h H) hm;rw[z]at e;cases e
structure Mod(K:W.Frag)(mg:ZV)(base:Heap):Prop where
 kin:K.In base
 glob:base.Ns mainGlobals mg
 blt:∃mb,base.Ns builtinsNs mb/\∀x:Str,x ≠ "__name__" -> mb x=bootBuiltins x
 nolimit:base.NoLimit
structure Cx where
 prog:Program
 w:World
 K:W.Frag
 mg:ZV
 base:Heap
 A:Around
 N:ZD
 s₀:Shared
 H₀:Hp
 env:Env
 outer:List Env
 stack:List Env
 ex:ZU
 fn:Str->Bool
 calm:Bool
 pn:ZY
 xe:ZW
noncomputable def frs(l:List Env):ZU:=l.filterMap (·.frame)
abbrev Cx.fs(X:Cx):ZU:=frs X.outer
def Vis(sc:Scope)(x:Str):Prop:=sc.names.lookup x=some .local\/sc.names.lookup x=some .cell\/sc.names.lookup x=some .free
def Loc(sc:Scope)(x:Str):Prop:=sc.names.lookup x=some .local\/sc.names.lookup x=some .cell
def Look(env:Env)(h:Heap)(m:ZV)(x:Str)(u:Value):Prop :=
 (env.kindOf x=some .local/\m x=some u)\/((env.kindOf x=some .cell\/env.kindOf x=some .free)/\∃c,env.cells.lookup x=some c/\h.IsCell c (some u))
structure Cx.Ok(X:Cx):Prop where
 mod:Mod X.K X.mg X.base
 kind:X.env.scope.kind=.function
 glob:X.env.globals=mainGlobals
 blt:X.env.builtins=builtinsNs
 above:X.s₀.heap.objs.size<=X.env.locals
 inj:∀x y c,X.env.cells.lookup x=some c->X.env.cells.lookup y=some c->x=y
 has:∀x,(X.env.kindOf x=some .cell\/X.env.kindOf x=some .free)->∃c,X.env.cells.lookup x=some c
 cab:∀x c,X.fn x=true->X.env.cells.lookup x=some c->X.s₀.heap.objs.size<=c
 hd:X.calm=true->X.A.handled=none
 frames:X.A.frames=some X.stack
 stk:X.stack=X.outer\/(X.stack=X.env::X.outer/\X.env.frame=some X.env.locals)
 exf:∀b∈X.ex,b≠X.env.locals/\∀x c,X.env.cells.lookup x=some c->c≠b
 bs:∀b o,X.base.get? b=some o->X.s₀.heap.get? b=some o/\X.H₀ b=none
 bsz:X.base.objs.size<=X.s₀.heap.objs.size
 noex:∀b o,X.base.get? b=some o->b ∉ X.ex
 exfs:∀b∈X.ex,b ∉ X.fs
 funs:X.s₀.heap.FunFrames X.base X.outer
 frf:∀b∈X.fs,X.H₀ b=none
structure Inv(X:Cx)(XF:ZY)(j:ZJ)(H:Hp)(s:Shared):Prop where
 ok:X.Ok
 os:s.os=X.s₀.os
 bare:AllBare s.gens
 base:Un X.fs X.ex X.H₀ H X.s₀.heap s.heap
 loc:∃m,s.heap.Ns X.env.locals m/\∀(i:Nat) (x:Str) (v:V),X.N[i]?=some x->j[i]?=some (some v)->Vis X.env.scope x->∃u,RelV v u/\Look X.env s.heap m x u
 cell:∀x c,X.env.cells.lookup x=some c->∃v,s.heap.IsCell c v
 free:H X.env.locals=none
 freeC:∀x c,X.env.cells.lookup x=some c->H c=none
 pin:∀p∈X.pn++XF,s.heap.get? p.1=some p.2/\H p.1=none/\p.1≠X.env.locals/\p.1 ∉ X.fs/\∀v,p.2.data≠.cell v
 hok:D8 X.prog X.w H s.heap
 len:j.length=X.N.length
section
variable{X:Cx}{XF:ZY}{Z:ZJ}{H H':Hp}{s:Shared}{h':Heap}
theorem Cx.Ok.nofr(ok:X.Ok){b:Addr}{o:Obj}(e:X.base.get? b=some o):b ∉ X.fs:=fun hb=>by
 have:=(ok.funs.mem hb).1;rw[e]at this;cases this
theorem Inv.bs(I:Inv X XF Z H s):∀b o,X.base.get? b=some o->s.heap.get? b=some o/\H b=none:=fun b o e =>
 ⟨I.base.keep b o (I.ok.bs b o e).1 (I.ok.bs b o e).2 (I.ok.nofr e) (I.ok.noex b o e),I.base.free b o (I.ok.bs b o e).1 (I.ok.bs b o e).2 (I.ok.noex b o e)⟩
theorem Inv.bk(I:Inv X XF Z H s):∀b o,X.base.get? b=some o->s.heap.get? b=some o:=fun b o e=>(I.bs b o e).1
theorem Inv.mod(I:Inv X XF Z H s):Mod X.K X.mg X.base:=I.ok.mod
theorem Inv.kIn(I:Inv X XF Z H s):X.K.In s.heap:=I.ok.mod.kin.keeps I.bk
theorem Inv.fr(I:Inv X XF Z H s):∃m,Fr X.base X.env.locals s.heap m :=
 let ⟨m,hn,_⟩:=I.loc
 ⟨m,hn,I.bk,Uu I.ok.bsz I.ok.above⟩
theorem Inv.lt(I:Inv X XF Z H s):X.env.locals<s.heap.objs.size:=let ⟨_,hn,_⟩:=I.loc;hn.lt
theorem Inv.sz(I:Inv X XF Z H s):X.s₀.heap.objs.size<=s.heap.objs.size:=Uu I.ok.above (Nat.le_of_lt I.lt)
theorem Inv.nofs(I:Inv X XF Z H s){a:Addr}(h:s.heap.objs.size<=a):a ∉ X.fs:=fun hb=>by
 obtain⟨_,o,ho,_⟩:=I.ok.funs.mem hb;exact absurd (Wy (Vt ho) (Uu I.sz h)) (Nat.lt_irrefl _)
theorem Inv.cne(I:Inv X XF Z H s):∀x c,X.env.cells.lookup x=some c->c≠X.env.locals:=fun x c e z=>by
 obtain⟨v,o,ho,hd⟩:=I.cell x c e;obtain⟨m,⟨o',es,ep,R1,hd',_⟩,_⟩:=I.loc;rw[z,R1]at ho;cases ho;rw[hd']at hd;cases hd
theorem Inv.funs(I:Inv X XF Z H s):s.heap.FunFrames X.base X.outer:=by
 have all:∀(l:List Env),(∀b∈frs l,b∈X.fs)->X.s₀.heap.FunFrames X.base l->s.heap.FunFrames X.base l:=by
  intro l
  induction l with
  | nil=>intro _ _;trivial
  | cons env r ih =>
   intro hs hl;obtain⟨hk,⟨L,o,hf,hn,ho,hd⟩,hr⟩:=hl;have hL:L∈X.fs:=hs L (by unfold frs;rw[List.filterMap_cons,hf];exact Vk);obtain⟨sl,e⟩:=I.base.slot L o ho (I.ok.frf L hL) hL fun z=>I.ok.exfs L z hL;exact⟨hk,⟨L,_,hf,hn,e,hd⟩,ih (fun b hb=>hs b (by unfold frs;rw[List.filterMap_cons,hf];exact Vb _ hb)) hr⟩
 exact all X.outer (fun _ hb=>hb) I.ok.funs
theorem Inv.stack(I:Inv X XF Z H s):s.heap.FunFrames X.base X.stack:=by
 rcases I.ok.stk with e | ⟨e,hf⟩
 .rw[e];exact I.funs
 .rw[e];obtain⟨m,hn,_⟩:=I.loc;refine .cons (by rw[I.ok.kind];decide) hf hn ?_ I.funs;exact Heap.get?_none_of_le (Uu I.ok.bsz I.ok.above)
theorem Inv.stkSub(I:Inv X XF Z H s):∀b∈frs X.stack,b∈X.env.locals::X.fs:=fun b hb=>by
 rcases I.ok.stk with e | ⟨e,hf⟩
 .rw[e]at hb;exact Vb _ hb
 .rw[e]at hb;unfold frs at hb;rw[List.filterMap_cons,hf]at hb;exact hb
theorem Inv.stkFree(I:Inv X XF Z H s):∀b∈frs X.stack,H b=none:=fun b hb=>by
 rcases Y6.mp (I.stkSub b hb) with e | hb
 .rw[e];exact I.free
 .obtain⟨_,o,ho,_⟩:=I.ok.funs.mem hb;exact I.base.free b o ho (I.ok.frf b hb) fun z=>I.ok.exfs b z hb
theorem Inv.step{g':Array GenState}{t':Nat}{d':Drawn}{ch:ZU}(I:Inv X XF Z H s)
  (nq:∀b∈ch,(b∈X.ex\/X.s₀.heap.objs.size<=b)/\b≠X.env.locals/\(∀x c,X.env.cells.lookup x=some c->c≠b)/\∀p∈X.pn++XF,p.1≠b)
  (keep:∀b o,b≠X.env.locals->b ∉ X.fs->b ∉ ch->s.heap.get? b=some o->H b=none->h'.get? b=some o)
  (slot:∀b o,b≠X.env.locals->b∈X.fs->b ∉ ch->s.heap.get? b=some o->H b=none->∃sl,h'.get? b=some { o with slots:=sl }) (free:∀b o,b ∉ ch->s.heap.get? b=some o->H b=none->H' b=none)
  (there:∀b o,b ∉ ch->s.heap.get? b=some o->∃o',h'.get? b=some o')
  (tups:∀b xs,H b=some (.tup xs)->H' b=some (.tup xs)) (frzs:∀b o u,H b=some (.frz o u)->H' b=some (.frz o u)) (tbls:∀b ps,H b=some (.tbl ps)->∃more,H' b=some (.tbl (ps++more)))
  (ns:∀m,s.heap.Ns X.env.locals m->h'.Ns X.env.locals m) (hok:D8 X.prog X.w H' h') (hg:AllBare g') :
  Inv X XF Z H' { s with heap:=h',gens:=g',drawn:=d',toks:=t' }:=by
 have neL:∀b o,X.s₀.heap.get? b=some o->b≠X.env.locals:=fun b o e=>Bv (Wy (Vt e) I.ok.above)
 have neC:∀b o,X.s₀.heap.get? b=some o->b ∉ X.ex->b ∉ ch:=fun b o e hx hb=>by
  rcases(nq b hb).1 with z | z
  .exact hx z
  .exact absurd (Wy (Vt e) z) (Nat.lt_irrefl _)
 have cellK:∀x c,X.env.cells.lookup x=some c->∀v,s.heap.IsCell c v->h'.IsCell c v:=fun x c e v ⟨o,ho,hd⟩=>by
  have nch:c ∉ ch:=fun z=>(nq c z).2.2.1 x c e rfl;by_cases hc:c∈X.fs
  .obtain⟨sl,q⟩:=slot c o (I.cne x c e) hc nch ho (I.freeC x c e);exact⟨_,q,hd⟩
  .exact⟨o,keep c o (I.cne x c e) hc nch ho (I.freeC x c e),hd⟩
 refine⟨I.ok,I.os,hg,⟨fun b o e n hb hx=>?_,fun b o e n hb hx=>?_,fun b o e n hx=>?_,fun b o e hx=>?_,fun b xs e=>tups b xs (I.base.tups b xs e),fun b o xs e=>frzs b o xs (I.base.frzs b o xs e),fun b ps e=>?_⟩, ?_,fun x c e=>?_, ?_,fun x c e=>?_,fun p hp=>?_,hok,I.len⟩
 .exact keep b o (neL b o e) hb (neC b o e hx) (I.base.keep b o e n hb hx) (I.base.free b o e n hx)
 .obtain⟨sl,e1⟩:=I.base.slot b o e n hb hx;obtain⟨sl',e2⟩:=slot b _ (neL b o e) hb (neC b o e hx) e1 (I.base.free b o e n hx);exact⟨sl',e2⟩
 .obtain⟨o',e1⟩:=I.base.there b o e hx;exact free b o' (neC b o e hx) e1 (I.base.free b o e n hx)
 .obtain⟨o',e1⟩:=I.base.there b o e hx;exact there b o' (neC b o e hx) e1
 .obtain⟨m1,e1⟩:=I.base.tbls b ps e;obtain⟨m2,e2⟩:=tbls b _ e1;exact⟨m1++m2,by rw[e2,Array.append_assoc]⟩
 .obtain⟨m,hn,hl⟩:=I.loc;refine⟨m,ns m hn,fun i x v e1 e2 e3=>?_⟩;obtain⟨u,r,l⟩:=hl i x v e1 e2 e3;refine⟨u,r, ?_⟩;rcases l with l | ⟨k,c,e,z⟩
  .exact .inl l
  .exact .inr ⟨k,c,e,cellK x c e _ z⟩
 .obtain⟨v,z⟩:=I.cell x c e;exact⟨v,cellK x c e v z⟩
 .obtain⟨m,⟨o,_,_,ho,_⟩,_⟩:=I.loc;exact free _ o (fun z=>(nq _ z).2.1 rfl) ho I.free
 .obtain⟨v,o,ho,hd⟩:=I.cell x c e;exact free c o (fun z=>(nq c z).2.2.1 x c e rfl) ho (I.freeC x c e)
 .obtain⟨e,n,ne,nf,d⟩:=I.pin p hp;have nch:p.1 ∉ ch:=fun z=>(nq p.1 z).2.2.2 p hp rfl;exact⟨keep p.1 p.2 ne nf nch e n,free p.1 p.2 nch e n,ne,nf,d⟩
theorem Inv.un{t':Nat}(I:Inv X XF Z H s)(u:Un X.fs [] H H' s.heap h')(hok:D8 X.prog X.w H' h'):Inv X XF Z H' { s with heap:=h',toks:=t' }:=by
 obtain⟨m,⟨o,es,ep,ho,r⟩,_⟩:=id I.loc;obtain⟨sl,hL⟩:=u.any ho I.free (by simp)
 exact I.step (g':=s.gens) (d':=s.drawn) (ch:=[]) (fun _ z=>nomatch z) (fun b o _ hb _ e n=>u.keep b o e n hb (by simp)) (fun b o _ hb _ e n=>u.slot b o e n hb (by simp)) (fun b o _ e n=>u.free b o e n (by simp)) (fun b o _ e=>u.there b o e (by simp)) u.tups u.frzs u.tbls (fun m' hm=>by
  obtain⟨o',Ce,ep',R1,r'⟩:=hm;rw[ho]at R1;cases R1;exact⟨_,Ce,ep',hL,r'⟩) hok I.bare
theorem Inv.call{g':Array GenState}{t':Nat}{d':Drawn}{ch:ZU}(I:Inv X XF Z H s)(u:Un (frs X.stack) ch H H' s.heap h')(hok:D8 X.prog X.w H' h')(hg:AllBare g')
  (nq:∀b∈ch,(b∈X.ex\/X.s₀.heap.objs.size<=b)/\b≠X.env.locals/\(∀x c,X.env.cells.lookup x=some c->c≠b)/\∀p∈X.pn++XF,p.1≠b) :
  Inv X XF Z H' { s with heap:=h',gens:=g',drawn:=d',toks:=t' }:=by
 obtain⟨m,⟨o,es,ep,ho,r⟩,_⟩:=id I.loc;obtain⟨sl,hL⟩:=u.any ho I.free fun z=>(nq _ z).2.1 rfl
 exact I.step (ch:=ch) nq (fun b o hL hb hc e n=>u.keep b o e n (fun z=>(Y6.mp (I.stkSub b z)).elim hL hb) hc) (fun b o _ _ hc e n=>u.any e n hc) (fun b o hc e n=>u.free b o e n hc) (fun b o hc e=>u.there b o e hc) u.tups u.frzs u.tbls (fun m' hm=>by
  obtain⟨o',Ce,ep',R1,r'⟩:=hm;rw[ho]at R1;cases R1;exact⟨_,Ce,ep',hL,r'⟩) hok hg
theorem Inv.turned{t':Nat}{it:Addr}(I:Inv X XF Z H s)(k:∀b o,b≠it->s.heap.get? b=some o->h'.get? b=some o)(hn:H it=none)(hL:it≠X.env.locals)
  (h1:it∈X.ex\/X.s₀.heap.objs.size<=it) (h2:∀x c,X.env.cells.lookup x=some c->c≠it) (h3:∀p∈X.pn++XF,p.1≠it):Inv X XF Z H { s with heap:=h',toks:=t' }:=by
 have nit:∀b u,H b=some u->b≠it:=fun b u e z=>by rw[z,hn]at e;cases e
 refine I.step (g':=s.gens) (d':=s.drawn) (ch:=[it]) (fun b hb=>?_) (fun b o _ _ hc e _=>k b o (fun z=>hc (by simp[z])) e) (fun b o _ _ hc e _=>⟨o.slots,k b o (fun z=>hc (by simp[z])) e⟩) (fun _ _ _ _ n=>n)
  (fun b o hc e=>⟨o,k b o (fun z=>hc (by simp[z])) e⟩) (fun _ _ e=>e) (fun _ _ _ e=>e) (fun b ps e=>⟨#[],by rw[e];simp⟩) (fun m hm=>?_) (fun b u e=>?_) I.bare
 .have e:b=it:=by simpa using hb
  subst e;exact⟨h1,hL,h2,h3⟩
 .obtain⟨o,es,ep,ho,r⟩:=hm;exact⟨o,es,ep,k _ o (Ne.symm hL) ho,r⟩
 .refine(I.hok b u e).stay (fun c v hc q=>k c v ?_ q) (fun _ q=>q) fun _ _ q=>q;rcases hc with z | z
  .rw[z];exact nit b u e
  .exact nit c _ z
theorem Inv.tok(I:Inv X XF Z H s)(t:Nat):Inv X XF Z H { s with toks:=t }:=I.un (h':=s.heap) (t':=t) Un.refl I.hok
theorem Inv.kept{t':Nat}(I:Inv X XF Z H s)(k:∀b u,s.heap.get? b=some u->h'.get? b=some u):Inv X XF Z H { s with heap:=h',toks:=t' }:=I.un (Un.kept k) (I.hok.kept k)
theorem Inv.laid{a:Addr}{o:HO}{t':Nat}(I:Inv X XF Z H s)(k:∀b u,s.heap.get? b=some u->h'.get? b=some u)(hp:s.heap.objs.size<=a)(new:Zh X.prog X.w (upd H a o) h' a o) :
  Inv X XF Z (upd H a o) { s with heap:=h',toks:=t' }:=I.un (Un.laid k hp (I.hok.fresh hp)) (I.hok.laid k hp new)
theorem Inv.write{x e:Addr}{o:HO}{t':Nat}(I:Inv X XF Z H s)(mu:Mut (H x))(he:e=x\/H e=some (.own x))(k:∀b u,b≠e->s.heap.get? b=some u->h'.get? b=some u)(heo:∃u,h'.get? e=some u)
  (new:Zh X.prog X.w (upd H x o) h' x o):Inv X XF Z (upd H x o) { s with heap:=h',toks:=t' }:=I.un (Un.write mu he k heo) (I.hok.write mu he k heo new)
theorem Inv.pins_of{pins':ZY}(I:Inv X XF Z H s)(h:∀p∈pins',s.heap.get? p.1=some p.2/\H p.1=none/\p.1≠X.env.locals/\p.1 ∉ X.fs/\∀v,p.2.data≠.cell v):Inv X pins' Z H s :=
 ⟨I.ok,I.os,I.bare,I.base,I.loc,I.cell,I.free,I.freeC,fun p hp=>(Tw.mp hp).elim (fun z=>I.pin p (List.mem_append_left _ z)) (h p),I.hok,I.len⟩
theorem Pp{N:ZD}(hN:N.Nodup){i j:Nat}{x:Str}(a:N[i]?=some x)(b:N[j]?=some x):i=j:=by
 obtain⟨h1,e1⟩:=B3.mp a;obtain⟨h2,e2⟩:=B3.mp b;exact(List.getElem_inj hN).mp (e1.trans e2.symm)
theorem Wc{M:Model}{A:Around}{E:ZW}{i:Nat}{x:Str}{v:V}{u:Value}{Q:ZA}(I:Inv X XF Z H s)(hN:X.N.Nodup)(hi:X.N[i]?=some x)(hx:Loc X.env.scope x)(r:RelV v u)
  (h:∀s',Inv X XF (Z.set i (some v)) H s'->(∃a,Heap.SameBut a s.heap s'.heap/\(a=X.env.locals\/X.env.cells.lookup x=some a))->Q () s') (hf:X.fn x=true\/X.env.scope.names.lookup x=some .local:=by first | exact .inl rfl | exact .inr rfl | assumption):wpAny M A (storeName X.env x u) Q E s:=by
 obtain⟨m,hn,hl⟩:=id I.loc;have hcls:(X.env.scope.kind == .class || (X.env.scope.kind == .module && X.env.locals != X.env.globals))=false:=by rw[I.ok.kind];rfl
 have hiσ:i<Z.length:=by rw[I.len];exact(B3.mp hi).1
 have cne:=I.cne
 have tracked:∀{a:Addr} {h':Heap},(∃o,s.heap.get? a=some o/\H a=none)->Heap.SameBut a s.heap h'->D8 X.prog X.w H h':=fun {a h'} ha hs b ob e=>by
  obtain⟨_,_,P6⟩:=ha;refine(I.hok b ob e).stay (fun c w' hc q=>(hs.2 c ?_).trans q) (fun _ q=>q) fun _ _ q=>q;rintro rfl;rcases hc with rfl | hc
  .rw[P6]at e;cases e
  .rw[P6]at hc;cases hc
 rcases hx with hk | hk
 .refine wpAny_storeName_local hk hn (fun h' hn' hs=>?_) hcls;obtain⟨oL,_,_,hoL,_⟩:=id hn;refine h _ ⟨I.ok,I.os,I.bare,⟨fun b o e n hb hx=>?_,fun b o e n hb hx=>?_,I.base.free,fun b o e hx=>?_,I.base.tups,I.base.frzs,I.base.tbls⟩,⟨_,hn',fun j y v' e1 e2 e3=>?_⟩,fun y c e=>?_,I.free,I.freeC,fun p hp=>?_,tracked ⟨oL,hoL,I.free⟩ hs,by simpa using I.len⟩ ⟨_,hs,.inl rfl⟩
  .exact(hs.2 b (Bv (Wy (Vt e) I.ok.above))).trans (I.base.keep b o e n hb hx)
  .obtain⟨sl,e1⟩:=I.base.slot b o e n hb hx;exact⟨sl,(hs.2 b (Bv (Wy (Vt e) I.ok.above))).trans e1⟩
  .obtain⟨o',e1⟩:=I.base.there b o e hx;exact⟨o',(hs.2 b (Bv (Wy (Vt e) I.ok.above))).trans e1⟩
  .by_cases hj:j=i
   .subst hj;rw[hi]at e1;cases e1;rw[List.getElem?_set_self hiσ]at e2;cases e2;exact⟨u,r,.inl ⟨hk,by simp⟩⟩
   .rw[List.getElem?_set_ne (Ne.symm hj)]at e2;obtain⟨u',r',q⟩:=hl j y v' e1 e2 e3;refine⟨u',r', ?_⟩;rcases q with ⟨k,e⟩ | ⟨k,c,e,z⟩
    .refine .inl ⟨k, ?_⟩;have:y≠x:=fun e=>hj (Pp hN e1 (e ▸ hi));simp[this,e]
    .exact .inr ⟨k,c,e,z.sameBut hs (cne y c e)⟩
  .obtain⟨w',z⟩:=I.cell y c e;exact⟨w',z.sameBut hs (cne y c e)⟩
  .obtain⟨e,n,ne,nf,d⟩:=I.pin p hp;exact⟨(hs.2 p.1 ne).trans e,n,ne,nf,d⟩
 .have hfn:X.fn x=true:=by
   rcases hf with z | z
   .exact z
   .rw[z]at hk;cases hk
  obtain⟨c,hc⟩:=I.ok.has x (.inl hk);obtain⟨w',z⟩:=I.cell x c hc;refine wpAny_storeName_cell I.ok.kind hk hc z (fun h' qc hs=>?_);obtain⟨oc,hoc,hocd⟩:=id z;refine h { s with heap:=h' } ⟨I.ok,I.os,I.bare,⟨fun b o e n hb hx=>?_,fun b o e n hb hx=>?_,I.base.free,fun b o e hx=>?_,I.base.tups,I.base.frzs,I.base.tbls⟩,⟨m,hn.sameBut hs (Ne.symm (cne x c hc)),fun j y v' e1 e2 e3=>?_⟩,fun y c' e=>?_,I.free,I.freeC,fun p hp=>?_,tracked ⟨oc,hoc,I.freeC x c hc⟩ hs,by simpa using I.len⟩ ⟨c,hs,.inr hc⟩
  .exact(hs.2 b (Bv (Wy (Vt e) (I.ok.cab x c hfn hc)))).trans (I.base.keep b o e n hb hx)
  .obtain⟨sl,e1⟩:=I.base.slot b o e n hb hx;exact⟨sl,(hs.2 b (Bv (Wy (Vt e) (I.ok.cab x c hfn hc)))).trans e1⟩
  .obtain⟨o',e1⟩:=I.base.there b o e hx;exact⟨o',(hs.2 b (Bv (Wy (Vt e) (I.ok.cab x c hfn hc)))).trans e1⟩
  .by_cases hj:j=i
   .subst hj;rw[hi]at e1;cases e1;rw[List.getElem?_set_self hiσ]at e2;cases e2;exact⟨u,r,.inr ⟨.inl hk,c,hc,qc⟩⟩
   .rw[List.getElem?_set_ne (Ne.symm hj)]at e2;obtain⟨u',r',q⟩:=hl j y v' e1 e2 e3;refine⟨u',r', ?_⟩;rcases q with q | ⟨k,c',e,z'⟩
    .exact .inl q
    .refine .inr ⟨k,c',e,z'.sameBut hs ?_⟩;rintro rfl;exact hj (Pp hN e1 (I.ok.inj _ _ _ e hc ▸ hi))
  .by_cases hcc:c'=c
   .subst hcc;exact⟨_,qc⟩
   .obtain⟨w2,z2⟩:=I.cell y c' e;exact⟨w2,z2.sameBut hs hcc⟩
  .obtain⟨e,n,ne,nf,d⟩:=I.pin p hp;refine⟨(hs.2 p.1 ?_).trans e,n,ne,nf,d⟩;intro q;rw[q,hoc]at e;have q':oc=p.2:=Dp e;exact d w' (by rw[<-q'];exact hocd)
theorem Q8{M:Model}{A:Around}{E:ZW}{i:Nat}{x:Str}{v:V}{u:Value}{Q:ZA}(I:Inv X XF Z H s)(hN:X.N.Nodup)(hi:X.N[i]?=some x)(hx:Loc X.env.scope x)(r:RelV v u)
  (h:∀s',Inv X XF (Z.set i (some v)) H s'->Q () s') (hf:X.fn x=true\/X.env.scope.names.lookup x=some .local:=by first | exact .inl rfl | exact .inr rfl | assumption):wpAny M A (storeName X.env x u) Q E s :=
 Wc I hN hi hx r (fun s' I' _=>h s' I') hf
theorem Inv.call'{s':Shared}{ch:ZU}(I:Inv X XF Z H s)(ho:s'.os=s.os)(u:Un (frs X.stack) ch H H' s.heap s'.heap)(hok:D8 X.prog X.w H' s'.heap)(hg:AllBare s'.gens)
  (nq:∀b∈ch,(b∈X.ex\/X.s₀.heap.objs.size<=b)/\b≠X.env.locals/\(∀x c,X.env.cells.lookup x=some c->c≠b)/\∀p∈X.pn++XF,p.1≠b):Inv X XF Z H' s':=by
 obtain⟨h',g',d',t',o'⟩:=s';have e:o'=s.os:=ho;subst e;exact I.call (g':=g') (t':=t') (d':=d') u hok hg nq
end
abbrev XK:=Value->ZP->Hp->Prop
abbrev St:=ZJ
abbrev VK:=V->Hp->Prop
abbrev TE:=St->Hp->VK->Prop
abbrev TT:=St->Hp->(Bool->Hp->Prop)->Prop
abbrev TA:=St->Hp->(ZQ->Hp->Prop)->Prop
structure Ends where
 nx:St->Hp->Prop
 rt:VK
 bk:St->Hp->Prop:=fun _ _=>False
 ct:St->Hp->Prop:=fun _ _=>False
abbrev TS:=Ends->St->Hp->Prop
def EP(X:Cx)(XF:ZY)(j:St)(Q:VK)(u:Value)(s':Shared):Prop:=∃v H',Inv X XF j H' s'/\RelV v u/\Q v H'
def TP(X:Cx)(XF:ZY)(j:St)(Q:Bool->Hp->Prop)(b:Bool)(s':Shared):Prop:=∃H',Inv X XF j H' s'/\Q b H'
def AP(X:Cx)(XF:ZY)(j:St)(Q:ZQ->Hp->Prop)(us:ZM)(s':Shared):Prop:=∃vs H',Inv X XF j H' s'/\Zw vs us/\Q vs H'
def SP(X:Cx)(XF:ZY)(D:Ends)(f:Flow)(s':Shared):Prop :=
 match f with
 | .next=>∃σ' H',Inv X XF σ' H' s'/\D.nx σ' H'
 | .brk=>∃σ' H',Inv X XF σ' H' s'/\D.bk σ' H'
 | .cont=>∃σ' H',Inv X XF σ' H' s'/\D.ct σ' H'
 | .ret u=>∃v σ' H',Inv X XF σ' H' s'/\RelV v u/\D.rt v H'
def PE(X:Cx)(e:Expr)(t:TE):Prop :=
 ∀(XF:ZY) (s:Shared) (j:St) (H:Hp) (Q:VK),Inv X XF j H s->t j H Q->wpAny (model X.prog X.w) X.A (eval e X.env) (EP X XF j Q) X.xe s
def PT(X:Cx)(e:Expr)(t:TT):Prop :=
 ∀(XF:ZY) (s:Shared) (j:St) (H:Hp) (Q:Bool->Hp->Prop),Inv X XF j H s->t j H Q->wpAny (model X.prog X.w) X.A (isTrue e X.env (eval e X.env)) (TP X XF j Q) X.xe s
def PW(X:Cx)(e:Expr)(t:TT):Prop :=
 ∀(whole:Sem Value) (XF:ZY) (s:Shared) (j:St) (H:Hp) (Q:Bool->Hp->Prop),Inv X XF j H s->t j H Q->wpAny (model X.prog X.w) X.A (isTrue e X.env whole) (TP X XF j Q) X.xe s
theorem PW.pt{X:Cx}{e:Expr}{t:TT}(h:PW X e t):PT X e t:=h _
def PA(X:Cx)(es:ZC)(t:TA):Prop :=
 ∀(pos:Pos) (XF:ZY) (s:Shared) (j:St) (H:Hp) (Q:ZQ->Hp->Prop),Inv X XF j H s->t j H Q->wpAny (model X.prog X.w) X.A (spliced (backTo pos (starEach es X.env))) (AP X XF j Q) X.xe s
def PS(X:Cx)(st:Stmt)(t:TS):Prop :=
 ∀(XF:ZY) (s:Shared) (j:St) (H:Hp) (D:Ends),Inv X XF j H s->t D j H->wpAny (model X.prog X.w) X.A (exec st X.env) (SP X XF D) X.xe s
def Ru(X:Cx)(st:List Stmt)(t:TS):Prop :=
 ∀(XF:ZY) (s:Shared) (j:St) (H:Hp) (D:Ends),Inv X XF j H s->t D j H->wpAny (model X.prog X.w) X.A (execs st X.env) (SP X XF D) X.xe s
theorem Z3{j:Type}{t:Sem j}{Q Q':j->Shared->Prop}{M:Model}{A:Around}{E:ZW}{s:Shared}(h:wpAny M A t Q E s)(hQ:∀a s,Q a s->Q' a s):wpAny M A t Q' E s:=wpAny_mono h hQ fun _ _ x=>x
section
variable{X:Cx}
inductive wt(i:Nat)(j:St)(H:Hp)(Q:VK):Prop
 | mk(v)(Vj:j[i]?=some (some v))(Vq:Q v H):wt i j H Q
def tVar(i:Nat):TE:=fun j H Q=>wt i j H Q
def tC(v:V):TE:=fun _ H Q=>Q v H
theorem pe_var{i:Nat}{x:Str}{pos:Pos}(hN:X.N[i]?=some x)(hv:Vis X.env.scope x)(hd:(x == ("__debug__" : Str))=false:=by decide)(P9:(x == ("__classdict__" : Str))=false:=by decide):PE X (.Name x pos) (tVar i):=by
 intro XF s j H Q I h;obtain⟨v,e,h⟩:=h;obtain⟨m,hn,hl⟩:=I.loc;obtain⟨u,r,l⟩:=hl i x v hN e hv;have fin:EP X XF j Q u s:=⟨v,H,I,r,h⟩;rcases l with ⟨hk,hm⟩ | ⟨hk,c,hc,P8⟩
 .exact wpAny_Name (wpAny_loadName_local I.ok.kind hk hn hm fin) hd
 .rcases hk with hk | hk
  .exact wpAny_Name (wpAny_loadName_cell I.ok.kind hk hc P8 fin) hd
  .exact wpAny_Name (wpAny_loadName_free I.ok.kind hk hc P8 fin P9) hd
theorem pe_int{i j pos}:PE X (.Constant (.int i) j pos) (tC (.int i)):=fun _ _ _ H _ I h=>wpAny_Constant_int ⟨.int i,H,I.tok _,⟨_,rfl⟩,h⟩
theorem pe_bl{b j pos}:PE X (.Constant (.bool b) j pos) (tC (.bl b)):=fun _ _ _ H _ I h=>Constant_bool ⟨.bl b,H,I,rfl,h⟩
theorem pe_non{j pos}:PE X (.Constant .none j pos) (tC .non):=fun _ _ _ H _ I h=>Constant_none ⟨.non,H,I,rfl,h⟩
theorem pe_str{x j pos}:PE X (.Constant (.str x) j pos) (tC (.str x)):=fun _ _ _ H _ I h=>Calls.Constant_str ⟨.str x,H,I.tok _,⟨_,rfl⟩,h⟩
def Gl(X:Cx)(x:Str):Prop:=X.env.kindOf x=some .globalImplicit
theorem A4{E:ZW}{XF:ZY}{s:Shared}{j:St}{H:Hp}{x:Str}{u:Value}{pos:Pos}{Q:ZW}(I:Inv X XF j H s)(hg:Gl X x)(hm:X.mg x=some u)(h:Q u s)
  (hd:(x == ("__debug__" : Str))=false:=by decide):wpAny (model X.prog X.w) X.A (eval (.Name x pos) X.env) Q E s :=
 Calls.Name_function_global I.ok.kind hg (Calls.loadGlobal_global (by rw[I.ok.glob];exact I.mod.glob.keeps I.bk) hm h) hd
theorem N0{E:ZW}{XF:ZY}{s:Shared}{j:St}{H:Hp}{x:Str}{u:Value}{pos:Pos}{Q:ZW}(I:Inv X XF j H s)(hg:Gl X x)(hm:X.mg x=none)(hv:bootBuiltins x=some u)(h:Q u s)
  (hn:x ≠ "__name__" := by decide) (hd:(x == ("__debug__" : Str))=false:=by decide):wpAny (model X.prog X.w) X.A (eval (.Name x pos) X.env) Q E s:=by
 obtain⟨mb,h1,h2⟩:=I.mod.blt;exact Calls.Name_function_global I.ok.kind hg (Calls.loadGlobal_builtin (by rw[I.ok.glob];exact I.mod.glob.keeps I.bk) hm (by rw[I.ok.blt];exact h1.keeps I.bk) ((h2 x hn).trans hv) h) hd
theorem ah{x:Str}{v:V}{u:Value}{pos:Pos}(hg:Gl X x)(hm:X.mg x=some u)(r:RelV v u)(hd:(x == ("__debug__" : Str))=false:=by decide):PE X (.Name x pos) (tC v) :=
 fun _ _ _ H _ I h=>A4 I hg hm ⟨v,H,I,r,h⟩ hd
theorem ae{x:Str}{v:V}{u:Value}{pos:Pos}(hg:Gl X x)(hm:X.mg x=none)(hv:bootBuiltins x=some u)(r:RelV v u)(hn:x ≠ "__name__" := by decide)(hd:(x == ("__debug__" : Str))=false:=by decide):PE X (.Name x pos) (tC v) :=
 fun _ _ _ H _ I h=>N0 I hg hm hv ⟨v,H,I,r,h⟩ hn hd
variable{a b:Expr}{ta tb:TE}{pos:Pos}
inductive tB_I(Q:(Bool->Hp->Prop))(x:V)(H1:Hp):Prop
 | mk(c)(Vj:x=.bl c)(Vq:Q c H1):tB_I Q x H1
def tB(t:TE):TT:=fun j H Q=>t j H fun x H1=>tB_I Q x H1
theorem pt_val{e:Expr}{t:TE}(h:PE X e t)(he:∀whole,isTrue e X.env whole=(do let v <-whole;standAt e.pos;holding [v] (truthy v)):=by intro _;rfl):PT X e (tB t):=by
 intro XF s j H Q I hw;refine isTrue_plain (Z3 (h XF s j H _ I hw) fun v s1 ⟨x,H1,I1,r1,q1⟩=>?_) (he _);obtain⟨d,rfl,q⟩:=q1;cases r1;exact wpAny_truthy_bool ⟨H1,I1,q⟩
variable{tA tB':TT}{rest:ZC}
def tAnd(t u:TT):TT:=fun j H Q=>t j H fun c H1=>if c=true then u j H1 Q else Q false H1
def tOr(t u:TT):TT:=fun j H Q=>t j H fun c H1=>if c=true then Q true H1 else u j H1 Q
def tNot(t:TT):TT:=fun j H Q=>t j H fun c H1=>Q (!c) H1
theorem pw_and1(ha:PT X a tA):PW X (.BoolOp .And [a] pos) tA:=by
 intro wh XF s j H Q I h;refine isTrue_and (Z3 (ha XF s j H Q I h) fun c s1 e=>?_);cases c with
 | true=>exact isTrue_and_nil e
 | false=>exact e
theorem pw_or1(ha:PT X a tA):PW X (.BoolOp .Or [a] pos) tA:=by
 intro wh XF s j H Q I h;refine isTrue_or (Z3 (ha XF s j H Q I h) fun c s1 e=>?_);cases c with
 | false=>exact isTrue_or_nil e
 | true=>exact e
theorem pw_and(ha:PT X a tA)(hb:PW X (.BoolOp .And (b::rest) pos) tB'):PW X (.BoolOp .And (a::b::rest) pos) (tAnd tA tB'):=by
 intro wh XF s j H Q I h;refine isTrue_and (Z3 (ha XF s j H _ I h) fun c s1 ⟨H1,I1,q1⟩=>?_);cases c with
 | true=>exact hb wh XF s1 j H1 Q I1 q1
 | false=>exact⟨H1,I1,q1⟩
theorem pw_or(ha:PT X a tA)(hb:PW X (.BoolOp .Or (b::rest) pos) tB'):PW X (.BoolOp .Or (a::b::rest) pos) (tOr tA tB'):=by
 intro wh XF s j H Q I h;refine isTrue_or (Z3 (ha XF s j H _ I h) fun c s1 ⟨H1,I1,q1⟩=>?_);cases c with
 | true=>exact⟨H1,I1,q1⟩
 | false=>exact hb wh XF s1 j H1 Q I1 q1
theorem pt_not(ha:PT X a tA):PT X (.UnaryOp .Not a pos) (tNot tA):=by
 intro XF s j H Q I h;exact isTrue_not (ha XF s j H (fun c H1=>Q (!c) H1) I h)
inductive Hr(tb:TE)(j:St)(Q:VK)(x:V)(H1:Hp):Prop
 | mk(c)(Vj:x=.bl c)(Vq:if c=true then tb j H1 Q else Q (.bl false) H1):Hr tb j Q x H1
def tAndV(ta tb:TE):TE:=fun j H Q=>ta j H fun x H1=>Hr tb j Q x H1
inductive wu(tb:TE)(j:St)(Q:VK)(x:V)(H1:Hp):Prop
 | mk(c)(Vj:x=.bl c)(Vq:if c=true then Q (.bl true) H1 else tb j H1 Q):wu tb j Q x H1
def tOrV(ta tb:TE):TE:=fun j H Q=>ta j H fun x H1=>wu tb j Q x H1
inductive Hl(Q:VK)(x:V)(H1:Hp):Prop
 | mk(c)(Vj:x=.bl c)(Vq:Q (.bl (!c)) H1):Hl Q x H1
def tNotV(ta:TE):TE:=fun j H Q=>ta j H fun x H1=>Hl Q x H1
theorem km{op}{t:TE}(h:PE X a t):PE X (.BoolOp op [a] pos) t:=fun XF s j H Q I hw=>BoolOp_one (h XF s j H Q I hw)
theorem pe_and(ha:PE X a ta)(hb:PE X (.BoolOp .And (b::rest) pos) tb):PE X (.BoolOp .And (a::b::rest) pos) (tAndV ta tb):=by
 intro XF s j H Q I h;refine BoolOp_and (Z3 (ha XF s j H _ I h) fun v s1 ⟨x,H1,I1,r1,q1⟩=>?_);obtain⟨c,rfl,q1⟩:=q1;cases r1;refine wpAny_truthy_bool ?_;cases c with
 | true=>exact hb XF s1 j H1 Q I1 q1
 | false=>exact⟨.bl false,H1,I1,rfl,q1⟩
theorem pe_or(ha:PE X a ta)(hb:PE X (.BoolOp .Or (b::rest) pos) tb):PE X (.BoolOp .Or (a::b::rest) pos) (tOrV ta tb):=by
 intro XF s j H Q I h;refine BoolOp_or (Z3 (ha XF s j H _ I h) fun v s1 ⟨x,H1,I1,r1,q1⟩=>?_);obtain⟨c,rfl,q1⟩:=q1;cases r1;refine wpAny_truthy_bool ?_;cases c with
 | false=>exact hb XF s1 j H1 Q I1 q1
 | true=>exact⟨.bl true,H1,I1,rfl,q1⟩
theorem pe_not(ha:PE X a ta):PE X (.UnaryOp .Not a pos) (tNotV ta):=by
 intro XF s j H Q I h;refine UnaryOp_ (Z3 (ha XF s j H _ I h) fun v s1 ⟨x,H1,I1,r1,q1⟩=>?_);obtain⟨c,rfl,q1⟩:=q1;cases r1;exact not_of (wpAny_truthy_bool ⟨.bl (!c),H1,I1,rfl,q1⟩)
def tIf(t:TT)(ta tb:TE):TE:=fun j H Q=>t j H fun c H1=>if c=true then ta j H1 Q else tb j H1 Q
theorem kc{c:Expr}(hc:PT X c tA)(ha:PE X a ta)(hb:PE X b tb):PE X (.IfExp c a b pos) (tIf tA ta tb):=by
 intro XF s j H Q I h;refine wpAny_IfExp (Z3 (hc XF s j H _ I h) fun d s1 ⟨H1,I1,q1⟩=>?_);cases d with
 | true=>exact ha XF s1 j H1 Q I1 q1
 | false=>exact hb XF s1 j H1 Q I1 q1
end
def Jj(K:W.Frag)(H:Hp)(a:Addr)(xs:ZQ):Prop :=
 Rd H a (.lst xs) \/
  ∃(o:Obj) (its:ZN) (n:Nat),K.lookup a=some o/\o.cls=.type "list" /\ o.dict=none/\o.data=.seq its n/\its.size<=sizeLine/\Zw xs its.toList
def Vy(K:W.Frag)(H:Hp)(a:Addr)(xs:ZQ):Prop :=
 Rd H a (.tup xs) \/
  ∃(o:Obj) (its:ZN) (n:Nat),K.lookup a=some o/\o.cls=.type "tuple" /\ o.dict=none/\o.data=.seq its n/\its.size<=sizeLine/\Zw xs its.toList
noncomputable def absV:Value->Option V
 | .none=>some .non
 | .bool b=>some (.bl b)
 | .int i _=>some (.int i)
 | .str x _=>some (.str x)
 | .bytes b _=>some (.byt b)
 | .float b _=>some (.flt b)
 | .ref a=>some (.ref a)
 | .type n=>some (.ty n)
 | _=>none
theorem RelV.abs{x:V}{u:Value}(r:RelV x u):absV u=some x:=by
 cases x with
 | non=>cases r;rfl
 | bl _=>cases r;rfl
 | int _=>obtain⟨t,rfl⟩:=r;rfl
 | str _=>obtain⟨t,rfl⟩:=r;rfl
 | byt _=>obtain⟨t,rfl⟩:=r;rfl
 | flt _=>obtain⟨t,rfl⟩:=r;rfl
 | ref _=>cases r;rfl
 | ty _=>cases r;rfl
theorem RelV.inj{x y:V}{u:Value}(r:RelV x u)(q:RelV y u):x=y:=Dp (r.abs.symm.trans q.abs)
theorem Zw.inj:∀{xs ys:ZQ} {us:ZM},Zw xs us->Zw ys us->xs=ys
 | _,_,_,.nil,.nil=>rfl
 | _,_,_,.cons r t,.cons r' t'=>by rw[r.inj r',Zw.inj t t']
section
variable{X:Cx}{XF:ZY}{j:St}{H:Hp}{s:Shared}{a:Addr}{xs ys:ZQ}
theorem Jj.of{K:W.Frag}(h:H a=some (.lst xs)):Jj K H a xs:=.inl (.inl h)
theorem Vy.of{K:W.Frag}(h:H a=some (.tup xs)):Vy K H a xs:=.inl (.inl h)
theorem Inv.list(I:Inv X XF j H s)(h:Jj X.K H a xs):∃its:ZM,Zw xs its/\PlainL s.heap a its.toArray/\xs.length<=sizeLine:=by
 rcases h with h | ⟨o,its,n,hk,hc,hd,hs,hz,r⟩
 .obtain⟨z,its,n,r,e⟩:=h.ok I.hok;exact⟨its,r,⟨_,n,e,rfl,rfl,rfl⟩,z⟩
 .refine⟨its.toList,r,⟨o,n,I.kIn a o hk,hc,hd,by simpa using hs⟩, ?_⟩;have e:=r.length;simp only[S9]at e;omega
theorem Inv.tuple(I:Inv X XF j H s)(h:Vy X.K H a xs):∃its:ZM,Zw xs its/\IsTup s.heap a its.toArray/\xs.length<=sizeLine:=by
 rcases h with h | ⟨o,its,n,hk,hc,hd,hs,hz,r⟩
 .obtain⟨z,its,r,p⟩:=h.ok I.hok;exact⟨its,r,p.tup,z⟩
 .refine⟨its.toList,r,⟨o,I.kIn a o hk,hc,n,by simpa using hs⟩, ?_⟩;have e:=r.length;simp only[S9]at e;omega
theorem Inv.list_inj(I:Inv X XF j H s)(h:Jj X.K H a xs)(h':Jj X.K H a ys):xs=ys:=by
 obtain⟨its,r,⟨o,n,e,_,_,d⟩,_⟩:=I.list h;obtain⟨its',r',⟨o',n',e',_,_,d'⟩,_⟩:=I.list h';rw[e]at e';cases e';rw[d]at d'
 injection d' with d1 _
 have:its=its':=by simpa using congrArg Array.toList d1
 subst this;exact r.inj r'
theorem Inv.tuple_inj(I:Inv X XF j H s)(h:Vy X.K H a xs)(h':Vy X.K H a ys):xs=ys:=by
 obtain⟨its,r,⟨o,e,_,n,d⟩,_⟩:=I.tuple h;obtain⟨its',r',⟨o',e',_,n',d'⟩,_⟩:=I.tuple h';rw[e]at e';cases e';rw[d]at d'
 injection d' with d1 _
 have:its=its':=by simpa using congrArg Array.toList d1
 subst this;exact r.inj r'
end
noncomputable abbrev Cx.wish(X:Cx)(E:ZW):Cx:={ X with xe:=E }
noncomputable abbrev Cx.nox(X:Cx):Cx:=X.wish fun _ _=>False
theorem Cx.Ok.wish{X:Cx}(ok:X.Ok)(E:ZW):(X.wish E).Ok :=
 ⟨ok.mod,ok.kind,ok.glob,ok.blt,ok.above,ok.inj,ok.has,ok.cab,ok.hd,ok.frames,ok.stk,ok.exf,ok.bs,ok.bsz,ok.noex,ok.exfs,ok.funs,ok.frf⟩
theorem Cx.Ok.unwish{X:Cx}{E:ZW}(ok:(X.wish E).Ok):X.Ok :=
 ⟨ok.mod,ok.kind,ok.glob,ok.blt,ok.above,ok.inj,ok.has,ok.cab,ok.hd,ok.frames,ok.stk,ok.exf,ok.bs,ok.bsz,ok.noex,ok.exfs,ok.funs,ok.frf⟩
section
variable{X:Cx}{XF:ZY}{j:St}{H:Hp}{s:Shared}{E:ZW}
theorem Inv.wish(I:Inv X XF j H s)(E:ZW):Inv (X.wish E) XF j H s:=⟨I.ok.wish E,I.os,I.bare,I.base,I.loc,I.cell,I.free,I.freeC,I.pin,I.hok,I.len⟩
theorem Inv.unwish(I:Inv (X.wish E) XF j H s):Inv X XF j H s:=⟨I.ok.unwish,I.os,I.bare,I.base,I.loc,I.cell,I.free,I.freeC,I.pin,I.hok,I.len⟩
theorem SP.unwish{D:Ends}{f:Flow}{s':Shared}(h:SP (X.wish E) XF D f s'):SP X XF D f s':=by
 cases f with
 | next=>obtain⟨σ',H',I,q⟩:=h;exact⟨σ',H',I.unwish,q⟩
 | brk=>obtain⟨σ',H',I,q⟩:=h;exact⟨σ',H',I.unwish,q⟩
 | cont=>obtain⟨σ',H',I,q⟩:=h;exact⟨σ',H',I.unwish,q⟩
 | ret u=>obtain⟨v,σ',H',I,r,q⟩:=h;exact⟨v,σ',H',I.unwish,r,q⟩
theorem Ru.nox{st:List Stmt}{t:TS}(h:Ru X.nox st t):Ru X st t:=fun XF s j H D I hw =>
 wpAny_mono (h XF s j H D (I.wish _) hw) (fun _ _ q=>q.unwish) fun _ _ z=>False.elim z
end
section
variable{X:Cx}{st:Stmt}{rest:List Stmt}{t u:TS}{e:Expr}{te:TE}{pos:Pos}
def Zxq:TS:=fun D j H=>D.nx j H
def tSeq(t u:TS):TS:=fun D j H=>t { D with nx:=u D } j H
theorem ue:Ru X [] Zxq:=fun _ _ j H _ I h=>wpAny_execs_nil ⟨j,H,I,h⟩
theorem ye(h1:PS X st t)(h2:Ru X rest u):Ru X (st::rest) (tSeq t u):=by
 intro XF s j H D I h;refine wpAny_execs_cons (Z3 (h1 XF s j H { D with nx:=u D } I h) fun f s1 q=>?_);cases f with
 | next =>
  obtain⟨σ',H',I',q⟩:=q;exact h2 XF s1 σ' H' D I' q
 | ret v=>exact q
 | brk=>exact q
 | cont=>exact q
def tBreak:TS:=fun D j H=>D.bk j H
def tCont:TS:=fun D j H=>D.ct j H
theorem az:PS X (.Pass pos) Zxq:=fun _ _ j H _ I h=>wpAny_Pass ⟨j,H,I,h⟩
theorem y2:PS X (.Break pos) tBreak:=fun _ _ j H _ I h=>wpAny_Break ⟨j,H,I,h⟩
theorem Pd:PS X (.Continue pos) tCont:=fun _ _ j H _ I h=>wpAny_Continue ⟨j,H,I,h⟩
theorem Inv.quiet{XF:ZY}{j:St}{H:Hp}{s:Shared}(I:Inv X XF j H s):interactive X.env=false:=by simp[interactive,I.ok.kind]
def tDrop(te:TE):TS:=fun D j H=>te j H fun _ H1=>D.nx j H1
theorem ax(he:PE X e te)(hs:swapsWith e none pos.line X.env=pure false:=by rfl):PS X (.Expr e pos) (tDrop te):=by
 intro XF s j H D I h;exact wpAny_Expr_any (Z3 (he XF s j H _ I h) fun v s1 ⟨x,H1,I1,r1,q1⟩=>⟨j,H1,I1,q1⟩) I.quiet hs
def tRet(te:TE):TS:=fun D j H=>te j H D.rt
theorem ps_ret(he:PE X e te):PS X (.Return (some e) pos) (tRet te):=by
 intro XF s j H D I h;exact wpAny_Return_some (Z3 (he XF s j H _ I h) fun v s1 ⟨x,H1,I1,r1,q1⟩=>⟨x,j,H1,I1,r1,q1⟩)
def tRetN:TS:=fun D _ H=>D.rt .non H
theorem u9:PS X (.Return none pos) tRetN:=fun _ _ j H _ I h=>wpAny_Return_none ⟨.non,j,H,I,rfl,h⟩
def tIfS(c:TT)(t u:TS):TS:=fun D j H=>c j H fun b H1=>if b=true then t D j H1 else u D j H1
theorem ps_if{c:Expr}{a b:List Stmt}{tc:TT}(hc:PT X c tc)(ha:Ru X a t)(hb:Ru X b u):PS X (.If c a b pos) (tIfS tc t u):=by
 intro XF s j H D I h;refine wpAny_If (Z3 (hc XF s j H _ I h) fun d s1 ⟨H1,I1,q1⟩=>?_);cases d with
 | true=>exact ha XF s1 j H1 D I1 q1
 | false=>exact hb XF s1 j H1 D I1 q1
end
abbrev TG:=V->St->Hp->(St->Hp->Prop)->Prop
abbrev ng:=ZQ->St->Hp->(St->Hp->Prop)->Prop
def PG(X:Cx)(target:Expr)(t:TG):Prop :=
 ∀(XF:ZY) (s:Shared) (j:St) (H:Hp) (v:V) (u:Value) (Q:St->Hp->Prop),Inv X XF j H s->RelV v u->t v j H Q ->
  wpAny (model X.prog X.w) X.A (assign target X.env u) (fun _ s'=>∃σ' H',Inv X XF σ' H' s'/\Q σ' H') X.xe s
def PGs(X:Cx)(ts:ZC)(t:ng):Prop :=
 ∀(XF:ZY) (s:Shared) (j:St) (H:Hp) (vs:ZQ) (us:ZM) (Q:St->Hp->Prop),Inv X XF j H s->Zw vs us->t vs j H Q ->
  wpAny (model X.prog X.w) X.A (assignInOrder ((assignEach ts X.env).map (·.2)) us) (fun _ s'=>∃σ' H',Inv X XF σ' H' s'/\Q σ' H') X.xe s
abbrev TSet:=V->V->V->Hp->(Hp->Prop)->Prop
def PSet(X:Cx)(t:TSet):Prop :=
 ∀(XF:ZY) (s:Shared) (j:St) (H:Hp) (o i v:V) (ov iv u:Value) (Q:Hp->Prop),Inv X XF j H s->RelV o ov->RelV i iv->RelV v u->t o i v H Q ->
  wpAny (model X.prog X.w) X.A (setItem ov iv u) (fun _ s'=>∃H',Inv X XF j H' s'/\Q H') X.xe s
section
variable{X:Cx}{pos:Pos}
def mw(i:Nat):TG:=fun v j H Q=>Q (j.set i (some v)) H
theorem af{i:Nat}{x:Str}(hN:X.N.Nodup)(hi:X.N[i]?=some x)(hx:Loc X.env.scope x)(hf:X.fn x=true\/X.env.scope.names.lookup x=some .local:=by first | exact .inl rfl | exact .inr rfl | assumption):PG X (.Name x pos) (mw i):=by
 intro XF s j H v u Q I r h;exact wpAny_assign_Name (Q8 I hN hi hx r (fun s' I'=>⟨_,H,I',h⟩) hf)
def gNil:ng:=fun vs j H Q=>vs=[]/\Q j H
inductive Iv(t:TG)(u:ng)(vs:ZQ)(j:St)(H:Hp)(Q:(St->Hp->Prop)):Prop
 | mk(v r)(Vj:vs=v::r)(Vq:t v j H fun σ' H'=>u r σ' H' Q):Iv t u vs j H Q
def gCons(t:TG)(u:ng):ng:=fun vs j H Q=>Iv t u vs j H Q
theorem ag:PGs X [] gNil:=by
 intro XF s j H vs us Q I r h;obtain⟨e,h⟩:=h;subst e;cases r;exact assignInOrder_nil ⟨j,H,I,h⟩
theorem kb{e:Expr}{es:ZC}{t:TG}{u:ng}(h1:PG X e t)(h2:PGs X es u)
  (hs:(assignEach (e::es) X.env).map (·.2)=assign e X.env::(assignEach es X.env).map (·.2):=by rfl):PGs X (e::es) (gCons t u):=by
 intro XF s j H vs us Q I r h;obtain⟨v,vr,e1,h⟩:=h;subst e1;cases r with
 | cons r rr =>
  rw[hs];refine assignInOrder_cons (Z3 (h1 XF s j H _ _ _ I r h) fun _ s1 ⟨σ1,H1,I1,q1⟩=>?_);exact h2 XF s1 σ1 H1 _ _ Q I1 rr q1
inductive b9(K:W.Frag)(n:Nat)(t:ng)(v:V)(j:St)(H:Hp)(Q:(St->Hp->Prop)):Prop
 | mk(a xs)(Vj:v=.ref a)(Vq:Vy K H a xs)(Jd:xs.length=n)(Km:t xs j H Q):b9 K n t v j H Q
def gTup(K:W.Frag)(n:Nat)(t:ng):TG:=fun v j H Q=>b9 K n t v j H Q
theorem pg_tup{es:ZC}{k:Nat}{t:ng}{n:Nat}(hc:X.calm=true)(h:PGs X es t)
  (hn:(assignEach es X.env).length=n:=by rfl) (Rr:(assignEach es X.env).findIdx? (·.1)=none:=by rfl):PG X (.Tuple es k pos) (gTup X.K n t):=by
 intro XF s j H v u Q I r hw;obtain⟨a,xs,e1,hq,hl,hw⟩:=hw;subst e1;cases r;obtain⟨its,rv,ht,hz⟩:=I.tuple hq;refine assign_Tuple_tuple (I.ok.hd hc) ht (by simp[hn, <-hl,rv.length]) Rr fun h' hx=>?_;have I1:Inv X XF j H { s with heap:=h' }:=I.kept (t':=s.toks) fun b o e=>hx b o (Bv (Vt e)) e;exact h XF _ j H xs _ Q I1 (by simpa using rv) hw
def gSub(to ti:TE)(t:TSet):TG:=fun v j H Q=>to j H fun o H1=>ti j H1 fun i H2=>t o i v H2 fun H3=>Q j H3
theorem pg_sub{o i:Expr}{to ti:TE}{t:TSet}(ho:PE X o to)(hi:PE X i ti)(hs:PSet X t)
  (ha:∀v,assign (.Subscript o i pos) X.env v=(do
   let ov <-holding [v] (eval o X.env)
   let iv <-holding [v,ov] (eval i X.env)
   standAt pos
   holding [v,ov,iv] (setItem ov iv v)
   release [v,ov,iv] []):=by intro _;rfl):PG X (.Subscript o i pos) (gSub to ti t):=by
 intro XF s j H v u Q I r h;rw[ha];refine Zb (wpAny_holding (Z3 (ho XF s j H _ I h) fun ov s1 ⟨x,H1,I1,r1,q1⟩=>?_));refine Zb (wpAny_holding (Z3 (hi XF s1 j H1 _ I1 q1) fun iv s2 ⟨y,H2,I2,r2,q2⟩=>?_));refine Zb (wpAny_standAt (Zb (wpAny_holding (Z3 (hs XF s2 j H2 x y v ov iv u _ I2 r1 r2 r q2) fun _ s3 ⟨H3,I3,q3⟩=>?_))));exact wpAny_release ⟨j,H3,I3,q3⟩
def tAsg(te:TE)(g:TG):TS:=fun D j H=>te j H fun x H1=>g x j H1 D.nx
theorem y3{tg e:Expr}{te:TE}{g:TG}(he:PE X e te)(hg:PG X tg g)(hs:swapsWithSole [tg] e pos.line X.env=pure false:=by rfl)(hw:swappedStores [tg] e X.env=pure none:=by rfl)
  (h1:(assignEach [tg] X.env).map (·.2)=[assign tg X.env]:=by rfl):PS X (.Assign [tg] e pos) (tAsg te g):=by
 intro XF s j H D I h;refine wpAny_Assign_stores (Z3 (he XF s j H _ I h) fun v s1 ⟨x,H1,I1,r1,q1⟩=>?_) hs hw;rw[h1];exact Z3 (hg XF s1 j H1 x v _ I1 r1 q1) fun _ s2 q=>q
theorem ps_set{i:Nat}{x:Str}{e:Expr}{te:TE}{pos':Pos}(hN:X.N.Nodup)(hi:X.N[i]?=some x)(hx:Loc X.env.scope x)(he:PE X e te)(hs:swapsWith e (some (.Name x pos')) pos.line X.env=pure false:=by rfl)(hf:X.fn x=true\/X.env.scope.names.lookup x=some .local:=by first | exact .inl rfl | exact .inr rfl | assumption) :
  PS X (.Assign [.Name x pos'] e pos) (tAsg te (mw i)):=by
 intro XF s j H D I h;refine wpAny_Assign_Name (Z3 (he XF s j H _ I h) fun v s1 ⟨y,H1,I1,r1,q1⟩=>?_) hs;exact Q8 I1 hN hi hx r1 (fun s2 I2=>⟨_,H1,I2,q1⟩) hf
end
section
variable{X:Cx}{pos:Pos}
def tWhile(c:TT)(tb:TS):TS:=fun D j H=>∃W:Nat->St->Hp->Prop,(∃m,W m j H)/\∀m j H,W m j H ->
 c j H fun b H1=>if b=true then ∃N:St->Hp->Prop,(∀σ' H',N σ' H'->∃m',m'<m/\W m' σ' H')/\tb { D with nx:=N,ct:=N,bk:=D.nx } j H1 else D.nx j H1
theorem y0{c:Expr}{body:List Stmt}{tc:TT}{tb:TS}(hp:PassesOwn (model X.prog X.w) X.A X.env X.xe)(hc:PT X c tc)(hb:Ru X body tb):PS X (.While c body [] pos) (tWhile tc tb):=by
 intro XF s j H D I h;obtain⟨W,⟨m0,w0⟩,turn⟩:=h;refine wpAny_While (codeAny_whileLoop (fun n s'=>∃σ' H',Inv X XF σ' H' s'/\W n σ' H') ?_ m0 ⟨j,H,I,w0⟩);rintro n s1 ⟨σ1,H1,I1,w1⟩;refine wpAny_passesOwn hp (Z3 (hc XF s1 σ1 H1 _ I1 (turn n σ1 H1 w1)) fun b s2 ⟨H2,I2,q2⟩=>?_);cases b with
 | true =>
  obtain⟨N,hN,q2⟩:=q2;rw[if_pos rfl];refine wpAny_passesOwn hp (Z3 (hb XF s2 σ1 H2 _ I2 q2) fun f s3 q3=>?_);cases f with
  | next =>
   obtain⟨σ3,H3,I3,n3⟩:=q3;obtain⟨m',hm,w3⟩:=hN σ3 H3 n3;exact⟨m',hm,σ3,H3,I3,w3⟩
  | cont =>
   obtain⟨σ3,H3,I3,n3⟩:=q3;obtain⟨m',hm,w3⟩:=hN σ3 H3 n3;exact⟨m',hm,σ3,H3,I3,w3⟩
  | brk=>exact q3
  | ret v=>exact q3
 | false =>
  rw[if_neg B5];exact wpAny_execs_nil ⟨σ1,H2,I2,q2⟩
end
structure It where
 go:Nat->Hp->Prop
 yld:Nat->Hp->V->Hp->Prop
 stop:Nat->Hp->Prop
def Nk(X:Cx)(XF:ZY)(H:Hp)(b:Addr):Prop :=
 H b=none/\b≠X.env.locals/\b ∉ X.fs/\(b∈X.ex\/X.s₀.heap.objs.size<=b)/\(∀x c,X.env.cells.lookup x=some c->c≠b)/\∀p∈X.pn++XF,p.1≠b
theorem Inv.fpOk{X:Cx}{XF:ZY}{j:St}{H H':Hp}{s:Shared}{b:Addr}(I:Inv X XF j H s)(hb:s.heap.objs.size<=b)(hn:H' b=none):Nk X XF H' b:=by
 refine⟨hn,Nat.ne_of_gt (Wy I.lt hb),I.nofs hb,.inr (Uu I.sz hb),fun x c e z=>?_,fun p hp z=>?_⟩
 .obtain⟨v,q⟩:=I.cell x c e;exact absurd (Wy q.lt (by rw[z];exact hb)) (Nat.lt_irrefl _)
 .exact absurd (Wy (Vt (I.pin p hp).1) (by rw[z];exact hb)) (Nat.lt_irrefl _)
structure Turn(P:Program)(w:World)(K:W.Frag)(tg:Expr)(J:It)(fp:ZU)(it:Addr)(tn:Nat->Heap->Prop):Prop where
 mem:it∈fp
 obj:∀i h,tn i h->∀b∈fp,∃o,h.get? b=some o/\∀v,o.data≠.cell v
 keep:∀i h h',tn i h->(∀b∈fp,∀o,h.get? b=some o->h'.get? b=some o)->tn i h'
 item:∀(X:Cx),X.prog=P->X.w=w->X.K=K->X.calm=true->∀(i:Nat) (XF:ZY) (s:Shared) (j:St) (H:Hp) (E:ZW),Inv X XF j H s->(∀b∈fp,Nk X XF H b)->tn i s.heap->J.go i H ->
  wpAny (model P w) X.A (pyNext (.ref it)) (fun r s1=>∃u,r=some u /\
   wpAny (model P w) X.A (letOwnedTupleGo tg (.ref it) u) (fun _ s2=>∃x H',Inv X XF j H' s2/\RelV x u/\J.yld i H x H'/\tn (i+1) s2.heap/\∀b∈fp,H' b=none) E s1) E s
 done:∀(X:Cx),X.prog=P->X.w=w->X.K=K->X.calm=true->∀(i:Nat) (XF:ZY) (s:Shared) (j:St) (H:Hp) (E:ZW),Inv X XF j H s->(∀b∈fp,Nk X XF H b)->tn i s.heap->J.stop i H ->
  wpAny (model P w) X.A (pyNext (.ref it)) (fun r s1=>r=none/\Inv X XF j H s1) E s
 self:∀(A:Around) (i:Nat) (s:Shared) (Q:ZW) (E:ZW),tn i s.heap->Q (.ref it) s->wpAny (model P w) A (pyIter (.ref it)) Q E s
abbrev TI:=St->Hp->(It->Hp->Prop)->Prop
def PIE(X:Cx)(XF:ZY)(j:St)(tg:Expr)(R:It->Hp->Prop)(itv:Value)(s2:Shared):Prop :=
 ∃(it:Addr) (fp:ZU) (tn:Nat->Heap->Prop) (J:It) (H':Hp),itv=.ref it/\Inv X XF j H' s2/\Turn X.prog X.w X.K tg J fp it tn/\tn 0 s2.heap/\(∀b∈fp,Nk X XF H' b)/\R J H'
def PI(X:Cx)(tg iter:Expr)(wi:TI):Prop :=
 ∀(XF:ZY) (s:Shared) (j:St) (H:Hp) (R:It->Hp->Prop),Inv X XF j H s->wi j H R ->
  wpAny (model X.prog X.w) X.A (eval iter X.env) (fun v s1=>wpAny (model X.prog X.w) X.A (pyIter v) (PIE X XF j tg R) X.xe s1) X.xe s
theorem W7{M:Model}{A:Around}{E:ZW}{s:Shared}{tg:Expr}{it:Addr}{u:Value}{o:Obj}{n:String}{vs:ZN}{Q:ZA}(ho:s.heap.get? it=some o)(hc:o.cls=.type n)(hd:o.data=.fields vs)
    (hn:["enumerate","zip","dict_itemiterator","dict_reverseitemiterator","odict_iterator","itertools.zip_longest","itertools.pairwise"].contains n=false) (hQ:Q () s):wpAny M A (letOwnedTupleGo tg (.ref it) u) Q E s:=by
  unfold letOwnedTupleGo
  cases tg<;>first
    | exact Yg hQ
    | (cases u<;>first
        | exact Yg hQ
        | (refine Zb (wpAny_load ho ?_)
           rw[hc,hd];show wpAny M A (if (["enumerate","zip","dict_itemiterator","dict_reverseitemiterator","odict_iterator","itertools.zip_longest","itertools.pairwise"].contains n && vs[0]? == some (rawInt _))=true then _ else _) Q E s;rw[if_neg (by intro h;rw[hn,Bool.false_and]at h;cases h)];exact Yg hQ))
def Itl(K:W.Frag)(a:Addr):It :=
 ⟨fun i H=>∃xs x,Jj K H a xs/\xs[i]?=some x,fun i H x H'=>H'=H/\∀xs,Jj K H a xs->xs[i]?=some x,fun i H=>∃xs,Jj K H a xs/\xs.length<=i⟩
def Itt(K:W.Frag)(a:Addr):It :=
 ⟨fun i H=>∃xs x,Vy K H a xs/\xs[i]?=some x,fun i H x H'=>H'=H/\∀xs,Vy K H a xs->xs[i]?=some x,fun i H=>∃xs,Vy K H a xs/\xs.length<=i⟩
def Itr(lo:Int)(n:Nat):It:=⟨fun i _=>i<n,fun i H x H'=>H'=H/\x=.int (lo+i),fun i _=>n<=i⟩
theorem Xb{P:Program}{w:World}{K:W.Frag}{tg:Expr}(a it:Addr):Turn P w K tg (Itl K a) [it] it (fun i h=>h.IsListIter it a i) where
 mem:=by simp
 obj:=fun i h st b hb=>by
  have e:b=it:=by simpa using hb
  subst e;obtain⟨o,e,c,d⟩:=st;exact⟨o,e,fun v z=>by rw[d]at z;cases z⟩
 keep:=fun i h h' st k=>st.at fun o e=>k it (by simp) o e
 item:=by
  intro X hP hw hK hc i XF s j H E I hf st hg;subst hP hw hK;obtain⟨xs,x,hq,hx⟩:=hg;obtain⟨its,rv,p,hz⟩:=I.list hq;obtain⟨u,hu,ru⟩:=rv.get hx;obtain⟨f0,f1,f2,f3,f4,f5⟩:=hf it (by simp);refine wpAny_pyNext_list_item st p.isList (x:=u) (by simpa using hu) fun h' Lu sb=>?_;have I1:Inv X XF j H { s with heap:=h' }:=I.turned (t':=s.toks) (fun b o hb e=>(sb.2 b hb).trans e) f0 f1 f3 f4 f5;obtain⟨o,e,c,d⟩:=id Lu;exact⟨u,rfl,W7 (s:={ s with heap:=h' }) e c d (by decide) ⟨x,H,I1,ru,⟨rfl,fun ys hy=>by rw[I.list_inj hy hq];exact hx⟩,Lu,fun b hb=>(hf b hb).1⟩⟩
 done:=by
  intro X hP hw hK hc i XF s j H E I hf st hg;subst hP hw hK;obtain⟨xs,hq,hx⟩:=hg;obtain⟨its,rv,p,hz⟩:=I.list hq;obtain⟨f0,f1,f2,f3,f4,f5⟩:=hf it (by simp);have hl:=rv.length;exact wpAny_pyNext_list_end (I.ok.hd hc) st p.isList (by simp;omega) fun h' eb=>⟨rfl,I.turned (t':=s.toks) (fun b o hb e=>eb b o hb e) f0 f1 f3 f4 f5⟩
 self:=fun _ _ _ _ _ st h=>wpAny_pyIter_listiter st h
theorem Et{P:Program}{w:World}{K:W.Frag}{tg:Expr}(a it:Addr):Turn P w K tg (Itt K a) [it] it (fun i h=>h.IsTupleIter it a i) where
 mem:=by simp
 obj:=fun i h st b hb=>by
  have e:b=it:=by simpa using hb
  subst e;obtain⟨o,e,c,d⟩:=st;exact⟨o,e,fun v z=>by rw[d]at z;cases z⟩
 keep:=fun i h h' st k=>st.at fun o e=>k it (by simp) o e
 item:=by
  intro X hP hw hK hc i XF s j H E I hf st hg;subst hP hw hK;obtain⟨xs,x,hq,hx⟩:=hg;obtain⟨its,rv,p,hz⟩:=I.tuple hq;obtain⟨u,hu,ru⟩:=rv.get hx;obtain⟨f0,f1,f2,f3,f4,f5⟩:=hf it (by simp);refine wpAny_pyNext_tuple_item st (show s.heap.IsTuple a its.toArray from p) (x:=u) (by simpa using hu) fun h' Lu sb=>?_;have I1:Inv X XF j H { s with heap:=h' }:=I.turned (t':=s.toks) (fun b o hb e=>(sb.2 b hb).trans e) f0 f1 f3 f4 f5;obtain⟨o,e,c,d⟩:=id Lu;exact⟨u,rfl,W7 (s:={ s with heap:=h' }) e c d (by decide) ⟨x,H,I1,ru,⟨rfl,fun ys hy=>by rw[I.tuple_inj hy hq];exact hx⟩,Lu,fun b hb=>(hf b hb).1⟩⟩
 done:=by
  intro X hP hw hK hc i XF s j H E I hf st hg;subst hP hw hK;obtain⟨xs,hq,hx⟩:=hg;obtain⟨its,rv,p,hz⟩:=I.tuple hq;obtain⟨f0,f1,f2,f3,f4,f5⟩:=hf it (by simp);have hl:=rv.length;exact wpAny_pyNext_tuple_end (I.ok.hd hc) st (show s.heap.IsTuple a its.toArray from p) (by simp;omega) fun h' eb=>⟨rfl,I.turned (t':=s.toks) (fun b o hb e=>eb b o hb e) f0 f1 f3 f4 f5⟩
 self:=fun _ _ _ _ _ st h=>wpAny_pyIter_tupleiter st h
theorem Ec{P:Program}{w:World}{K:PySem.W.Frag}{tg:Expr}(it:Addr)(lo:Int)(n:Nat):Turn P w K tg (Itr lo n) [it] it (fun i h=>IsRangeIter h it (lo+(i:Nat) * 1) ((n:Int) - (i:Nat)) 1) where
 mem:=by simp
 obj:=fun i h st b hb=>by
  have e:b=it:=by simpa using hb
  subst e
  exact⟨_,st,fun v z=>by
   have z':Data.fields _=Data.cell v:=z;cases z'⟩
 keep:=fun i h h' st k=>k it (by simp) _ st
 item:=by
  intro X hP hw hK hc i XF s j H E I hf st hg;subst hP hw hK;obtain⟨f0,f1,f2,f3,f4,f5⟩:=hf it (by simp);have W:=Walks.range (prog:=X.prog) (w:=X.w) (I.ok.hd hc) it lo 1 n;refine W.item i s _ _ hg st fun v h' tk hv Lu kk=>?_;obtain⟨t,rfl⟩:=hv;have I1:Inv X XF j H { s with heap:=h',toks:=tk }:=I.turned (fun b o hb e=>kk b o (by simpa using hb) e) f0 f1 f3 f4 f5;refine⟨_,rfl,W7 (s:={ s with heap:=h',toks:=tk }) (n:="range_iterator") Lu rfl rfl (by decide) ⟨.int (lo+i),H,I1,⟨t, ?_⟩,⟨rfl,rfl⟩,Lu,fun b hb=>(hf b hb).1⟩⟩;rw[Int.mul_one]
 done:=by
  intro X hP hw hK hc i XF s j H E I hf st hg;subst hP hw hK;obtain⟨f0,f1,f2,f3,f4,f5⟩:=hf it (by simp);exact wpAny_pyNext_range_end (I.ok.hd hc) st (by have:n<=i:=hg;omega) fun h' eb=>⟨rfl,I.turned (t':=s.toks) (fun b o hb e=>eb b o hb e) f0 f1 f3 f4 f5⟩
 self:=fun _ _ _ _ _ st h=>wpAny_pyIter_rangeiter st h
section
variable{X:Cx}{tg:Expr}
inductive Iz(K:W.Frag)(R:(It->Hp->Prop))(x:V)(H1:Hp):Prop
 | mk(a)(Vj:x=.ref a)(Vq:(∃xs,Jj K H1 a xs))(Jd:R (Itl K a) H1):Iz K R x H1
def iList(K:W.Frag)(tl:TE):TI:=fun j H R=>tl j H fun x H1=>Iz K R x H1
inductive bc(K:W.Frag)(R:(It->Hp->Prop))(x:V)(H1:Hp):Prop
 | mk(a)(Vj:x=.ref a)(Vq:(∃xs,Vy K H1 a xs))(Jd:R (Itt K a) H1):bc K R x H1
def iTup(K:W.Frag)(tl:TE):TI:=fun j H R=>tl j H fun x H1=>bc K R x H1
theorem ak{l:Expr}{tl:TE}(hl:PE X l tl):PI X tg l (iList X.K tl):=by
 intro XF s j H R I h;refine Z3 (hl XF s j H _ I h) fun v s1 ⟨x,H1,I1,r1,q1⟩=>?_;obtain⟨a,e,⟨xs,hq⟩,q⟩:=q1;subst e;cases r1;obtain⟨its,rv,p,hz⟩:=I1.list hq;refine wpAny_pyIter_list p.isList ?_;refine⟨s1.heap.objs.size,[s1.heap.objs.size],_,_,H1,rfl,I1.kept (t':=s1.toks) fun b o e=>Yi _ e,Xb a _,⟨_,Dv _ rfl,rfl,rfl⟩,fun b hb=>?_,q⟩;have e:b=s1.heap.objs.size:=by simpa using hb
 subst e;exact I1.fpOk (Yz _) (I1.hok.fresh (Yz _))
theorem pi_tup{l:Expr}{tl:TE}(hl:PE X l tl):PI X tg l (iTup X.K tl):=by
 intro XF s j H R I h;refine Z3 (hl XF s j H _ I h) fun v s1 ⟨x,H1,I1,r1,q1⟩=>?_;obtain⟨a,e,⟨xs,hq⟩,q⟩:=q1;subst e;cases r1;obtain⟨its,rv,p,hz⟩:=I1.tuple hq;refine wpAny_pyIter_tuple (show s1.heap.IsTuple a its.toArray from p) ?_;refine⟨s1.heap.objs.size,[s1.heap.objs.size],_,_,H1,rfl,I1.kept (t':=s1.toks) fun b o e=>Yi _ e,Et a _,⟨_,Dv _ rfl,rfl,rfl⟩,fun b hb=>?_,q⟩;have e:b=s1.heap.objs.size:=by simpa using hb
 subst e;exact I1.fpOk (Yz _) (I1.hok.fresh (Yz _))
theorem yn{XF:ZY}{j:St}{H:Hp}{s:Shared}{R:It->Hp->Prop}{E:ZW}{lo hi:Int}{t u v:Tok}{tk:Nat}(I:Inv X XF j H s)(h1:-(2 ^ 62)<=lo)(h2:lo<2 ^ 62)(h3:-(2 ^ 62)<=hi)(h4:hi<2 ^ 62)
  (q:R (Itr lo (hi - lo).toNat) H):wpAny (model X.prog X.w) X.A (pyIter (.ref s.heap.objs.size)) (PIE X XF j tg R) E { s with heap:=s.heap.push { cls:=.type "range",data:=.fields #[.int lo t,.int hi u,.int 1 v] },toks:=tk }:=by
 refine wpAny_pyIter_range (IsRange.new ..) (small_one h1 h2 h3 h4) ?_;have I1:Inv X XF j H { s with heap:=s.heap.push { cls:=.type "range",data:=.fields #[.int lo t,.int hi u,.int 1 v] },toks:=tk }:=I.kept fun b o e=>Yi _ e
 refine⟨(s.heap.push { cls:=.type "range",data:=.fields #[.int lo t,.int hi u,.int 1 v] }).objs.size,[(s.heap.push { cls:=.type "range",data:=.fields #[.int lo t,.int hi u,.int 1 v] }).objs.size],_,_,H,rfl,
  I1.kept (t':=tk) fun b o e=>Yi _ e,Ec _ lo (hi - lo).toNat, ?_,fun b hb=>?_,q⟩
 .have e1:lo+((0:Nat):Int) * 1=lo:=by simp
  have e2:(((hi - lo).toNat:Nat):Int) - ((0:Nat):Int)=Builtin.Range.rangeSize lo hi 1:=by rw[rangeSize_one];split<;>omega
  show IsRangeIter _ _ (lo+((0:Nat):Int) * 1) ((((hi - lo).toNat:Nat):Int) - ((0:Nat):Int)) 1;rw[e1,e2];exact Dv _ rfl
 .have e:b=(s.heap.push { cls:=.type "range",data:=.fields #[.int lo t,.int hi u,.int 1 v] }).objs.size:=by simpa using hb
  subst e;exact I1.fpOk (Yz _) (I1.hok.fresh (Yz _))
inductive A9(R:(It->Hp->Prop))(vs:ZQ)(H1:Hp):Prop
 | mk(j:Int)(Vj:vs=[.int j])(Vq:-(2 ^ 62)<=j)(Jd:j<2 ^ 62)(Km:R (Itr 0 j.toNat) H1):A9 R vs H1
def iRng1(ta:TA):TI:=fun j H R=>ta j H fun vs H1=>A9 R vs H1
theorem zg{a:Expr}{ta:TA}{p pos:Pos}(hg:Gl X "range")(hm:X.mg "range" = none)(ha:PA X [a] ta)(hs:starEach [a] X.env=[(false,eval a X.env)]:=by rfl):PI X tg (.Call (.Name "range" p) [a] [] pos) (iRng1 ta):=by
 intro XF s Z H R I h;refine Call_ (N0 I hg hm boot_range (callWith_type1 (Z3 (ha pos XF s Z H _ I h) fun us s1 ⟨vs,H1,I1,r1,q1⟩=>?_) hs rfl));obtain⟨j,e,q1,q2,q⟩:=q1;subst e;cases r1 with
 | cons r rr =>
  cases rr;obtain⟨t,rfl⟩:=r;exact call_range_1 (yn I1 (by omega) (by omega) q1 q2 (by simpa using q))
def tFor(wi:TI)(g:TG)(tb:TS):TS:=fun D j H=>wi j H fun J H1=>∃W:Nat->Nat->St->Hp->Prop,(∃m,W 0 m j H1)/\∀i m j H,W i m j H ->
 (J.stop i H/\D.nx j H)\/(J.go i H/\∃N:St->Hp->Prop,(∀σ' H',N σ' H'->∃m',m'<m/\W (i+1) m' σ' H')/\∀x H',J.yld i H x H'->g x j H' fun σ2 H2=>tb { D with nx:=N,ct:=N,bk:=D.nx } σ2 H2)
def Cj(fp:ZU)(h:Heap):ZY:=fp.filterMap fun b=>(h.get? b).map fun o=>(b,o)
theorem Jb{fp:ZU}{h:Heap}{b:Addr}{o:Obj}(hb:b∈fp)(e:h.get? b=some o):(b,o)∈Cj fp h:=List.mem_filterMap.mpr ⟨b,hb,by rw[e];rfl⟩
theorem zc{fp:ZU}{h:Heap}{p:Addr×Obj}(hp:p∈Cj fp h):p.1∈fp/\h.get? p.1=some p.2:=by
 obtain⟨b,hb,e⟩:=List.mem_filterMap.mp hp;cases q:h.get? b with
 | none=>rw[q]at e;cases e
 | some o =>
  rw[q]at e;have e':(b,o)=p:=Dp e;subst e';exact⟨hb,q⟩
theorem Inv.pinned{XF:ZY}{j:St}{H:Hp}{s:Shared}{fp:ZU}(I:Inv X XF j H s)(hf:∀b∈fp,Nk X XF H b)(ho:∀b∈fp,∃o,s.heap.get? b=some o/\∀v,o.data≠.cell v):Inv X (XF++Cj fp s.heap) j H s :=
 I.pins_of fun p hp=>(Tw.mp hp).elim (fun z=>I.pin p (S4 _ z)) fun z=>by
  obtain⟨hb,e⟩:=zc z;obtain⟨f0,f1,f2,_⟩:=hf p.1 hb;obtain⟨o,e',d⟩:=ho p.1 hb;rw[e]at e';cases e';exact⟨e,f0,f1,f2,d⟩
theorem Inv.unpinned{XF pl:ZY}{j:St}{H:Hp}{s:Shared}(I:Inv X (XF++pl) j H s):Inv X XF j H s:=I.pins_of fun p hp=>I.pin p (S4 _ (List.mem_append_left _ hp))
theorem ps_for{iter:Expr}{body:List Stmt}{wi:TI}{g:TG}{tb:TS}{pos:Pos}(hp:PassesOwn (model X.prog X.w) X.A X.env X.xe)(hc:X.calm=true)(hi:PI X tg iter wi)(hg:PG X tg g)(hb:Ru X body tb)
  (hs:∀x,foldedSetIterable iter X.env x=pure x:=by intro _;rfl):PS X (.For tg iter body [] pos) (tFor wi g tb):=by
 intro XF s j H D I h;refine wpAny_For (Z3 (hi XF s j H _ I h) fun v s1 h1=>Z3 h1 fun itv s2 h2=>?_) hs;obtain⟨it,fp,tn,J,H2,e,I2,T,st2,f2,W,⟨m0,w0⟩,turn⟩:=h2;subst e;have stat:∀{H':Hp},(∀b∈fp,H' b=none)->∀b∈fp,Nk X XF H' b:=fun hn b hb=>⟨hn b hb,(f2 b hb).2⟩;refine codeAny_forLoop_any (fun n s'=>∃i σ' H',Inv X XF σ' H' s'/\tn i s'.heap/\(∀b∈fp,H' b=none)/\W i n σ' H') ?_ m0 ⟨0,j,H2,I2,st2,fun b hb=>(f2 b hb).1,w0⟩;rintro n s3 ⟨i,σ3,H3,I3,st3,fr3,w3⟩;rcases turn i n σ3 H3 w3 with ⟨stop,qn⟩ | ⟨go,N,hN,step⟩
 .refine wpAny_passesOwn hp (Z3 (T.done X rfl rfl rfl hc i XF s3 σ3 H3 X.xe I3 (stat fr3) st3 stop) fun r s4 ⟨hr,I4⟩=>?_);subst hr;exact wpAny_execs_nil ⟨σ3,H3,I4,qn⟩
 .refine wpAny_passesOwn hp (Z3 (T.item X rfl rfl rfl hc i XF s3 σ3 H3 X.xe I3 (stat fr3) st3 go) fun r s4 ⟨u,hr,h4⟩=>?_);subst hr;refine wpAny_passesOwn hp (Z3 h4 fun _ s5 ⟨x,H5,I5,r5,y5,st5,fr5⟩=>?_);have I5':=I5.pinned (stat fr5) (T.obj _ _ st5);refine wpAny_passesOwn hp (Z3 (hg _ s5 σ3 H5 x u _ I5' r5 (step x H5 y5)) fun _ s6 ⟨σ6,H6,I6,q6⟩=>?_);refine wpAny_passesOwn hp (Z3 (hb _ s6 σ6 H6 _ I6 q6) fun f s7 q7=>?_)
  have again:∀{σ7:St} {H7:Hp},Inv X (XF++Cj fp s5.heap) σ7 H7 s7->N σ7 H7->∃m,m<n/\∃i σ' H',Inv X XF σ' H' s7/\tn i s7.heap/\(∀b∈fp,H' b=none)/\W i m σ' H':=fun {σ7 H7} I7 n7=>by
   obtain⟨m',hm,w7⟩:=hN σ7 H7 n7;refine⟨m',hm,i+1,σ7,H7,I7.unpinned,T.keep _ _ _ st5 fun b hb o e=>(I7.pin (b,o) (S4 _ (S4 _ (Jb hb e)))).1,fun b hb=>?_,w7⟩;obtain⟨o,e,d⟩:=T.obj _ _ st5 b hb;exact(I7.pin (b,o) (S4 _ (S4 _ (Jb hb e)))).2.1
  cases f with
  | next=>obtain⟨σ7,H7,I7,n7⟩:=q7;exact again I7 n7
  | cont=>obtain⟨σ7,H7,I7,n7⟩:=q7;exact again I7 n7
  | brk=>obtain⟨σ7,H7,I7,q7⟩:=q7;exact⟨σ7,H7,I7.unpinned,q7⟩
  | ret v=>obtain⟨x7,σ7,H7,I7,r7,q7⟩:=q7;exact⟨x7,σ7,H7,I7.unpinned,r7,q7⟩
end
abbrev R2:=V->V->Hp->VK->Prop
def D5(X:Cx)(f:Value->Value->Sem Value)(r:R2):Prop :=
 ∀(XF:ZY) (s:Shared) (j:St) (H:Hp) (x y:V) (v u:Value) (Q:VK),Inv X XF j H s->RelV x v->RelV y u->r x y H Q ->
  wpAny (model X.prog X.w) X.A (f v u) (EP X XF j Q) X.xe s
def UnR(X:Cx)(f:Value->Sem Value)(r:V->Hp->VK->Prop):Prop :=
 ∀(XF:ZY) (s:Shared) (j:St) (H:Hp) (x:V) (v:Value) (Q:VK),Inv X XF j H s->RelV x v->r x H Q ->
  wpAny (model X.prog X.w) X.A (f v) (EP X XF j Q) X.xe s
def Y5(X:Cx)(f:Value)(r:ZQ->Hp->VK->Prop):Prop :=
 ∀(XF:ZY) (s:Shared) (j:St) (H:Hp) (xs:ZQ) (us:ZM) (Q:VK),Inv X XF j H s->Zw xs us->r xs H Q ->
  wpAny (model X.prog X.w) X.A (call f us) (EP X XF j Q) X.xe s
def tOp(r:R2)(ta tb:TE):TE:=fun j H Q=>ta j H fun x H1=>tb j H1 fun y H2=>r x y H2 Q
def tUn(r:V->Hp->VK->Prop)(ta:TE):TE:=fun j H Q=>ta j H fun x H1=>r x H1 Q
inductive rI_I(C:Int->Int->Prop)(g:Int->Int->V)(x:V)(y:V)(H:Hp)(Q:VK):Prop
 | mk(i j)(Vj:x=.int i)(Vq:y=.int j)(Jd:C i j)(Km:Q (g i j) H):rI_I C g x y H Q
def rI(C:Int->Int->Prop)(g:Int->Int->V):R2:=fun x y H Q=>rI_I C g x y H Q
inductive Zxd(g:Int->Int->V)(x:V)(y:V)(H:Hp)(Q:VK):Prop
 | mk(i j)(Vj:x=.int i)(Vq:y=.int j)(Jd:Q (g i j) H):Zxd g x y H Q
def rI0(g:Int->Int->V):R2:=fun x y H Q=>Zxd g x y H Q
inductive rU_I(g:Int->V)(x:V)(H:Hp)(Q:VK):Prop
 | mk(i)(Vj:x=.int i)(Vq:Q (g i) H):rU_I g x H Q
def rU(g:Int->V):V->Hp->VK->Prop:=fun x H Q=>rU_I g x H Q
section
variable{X:Cx}{a b c:Expr}{ta tb tc:TE}{pos:Pos}
theorem binT(ha:PE X a ta)(hb:PE X b tb){XF:ZY}{s:Shared}{j:St}{H:Hp}{R:V->V->Hp->Prop}(I:Inv X XF j H s)
  (h:ta j H fun x H1=>tb j H1 fun y H2=>R x y H2) {Q:ZW} {f:Value->Value->Sem Value}
  (hf:∀v u s2 x y H2,Inv X XF j H2 s2->RelV x v->RelV y u->R x y H2->wpAny (model X.prog X.w) X.A (f v u) Q X.xe s2) :
  wpAny (model X.prog X.w) X.A (eval a X.env) (fun v s₁=>wpAny (model X.prog X.w) X.A (eval b X.env) (fun u s₂=>wpAny (model X.prog X.w) X.A (f v u) Q X.xe s₂) X.xe s₁) X.xe s:=by
 refine Z3 (ha XF s j H _ I h) fun v s1 ⟨x,H1,I1,r1,q1⟩=>?_;refine Z3 (hb XF s1 j H1 _ I1 q1) fun u s2 ⟨y,H2,I2,r2,q2⟩=>?_;exact hf v u s2 x y H2 I2 r1 r2 q2
theorem pe_op{op:Operator}{r:R2}(ho:D5 X (binaryOp op) r)(ha:PE X a ta)(hb:PE X b tb):PE X (.BinOp a op b pos) (tOp r ta tb):=by
 intro XF s j H Q I h;exact wpAny_BinOp (binT ha hb I h fun v u s2 x y H2 I2 rx ry q=>ho XF s2 j H2 x y v u Q I2 rx ry q)
theorem pe_un{op:UnaryOp}{r:V->Hp->VK->Prop}(ho:UnR X (unaryOp op) r)(ha:PE X a ta):PE X (.UnaryOp op a pos) (tUn r ta):=by
 intro XF s j H Q I h;exact UnaryOp_ (Z3 (ha XF s j H _ I h) fun v s1 ⟨x,H1,I1,r1,q1⟩=>ho XF s1 j H1 x v Q I1 r1 q1)
theorem opI{f:Value->Value->Sem Value}{C:Int->Int->Prop}{g:Int->Int->Int}
  (rule:∀(i j:Int) (t u:Tok) (s:Shared) (Q:ZW) (E:ZW),C i j->Q (.int (g i j) s.toks) { s with toks:=s.toks+1 }->wpAny (model X.prog X.w) X.A (f (.int i t) (.int j u)) Q E s) :
  D5 X f (rI C fun i j=>.int (g i j)):=by
 intro XF s Z H x y v u Q I rx ry h;obtain⟨i,j,rfl,rfl,hc,q⟩:=h;obtain⟨t,rfl⟩:=rx;obtain⟨t',rfl⟩:=ry;exact rule i j t t' s _ _ hc ⟨.int (g i j),H,I.tok _,⟨_,rfl⟩,q⟩
theorem opI0{f:Value->Value->Sem Value}{g:Int->Int->Int}
  (rule:∀(i j:Int) (t u:Tok) (s:Shared) (Q:ZW) (E:ZW),Q (.int (g i j) s.toks) { s with toks:=s.toks+1 }->wpAny (model X.prog X.w) X.A (f (.int i t) (.int j u)) Q E s) :
  D5 X f (rI0 fun i j=>.int (g i j)):=by
 intro XF s Z H x y v u Q I rx ry h;obtain⟨i,j,rfl,rfl,q⟩:=h;obtain⟨t,rfl⟩:=rx;obtain⟨t',rfl⟩:=ry;exact rule i j t t' s _ _ ⟨.int (g i j),H,I.tok _,⟨_,rfl⟩,q⟩
theorem ot{f:Value->Value->Sem Value}{g:Int->Int->Bool}
  (rule:∀(i j:Int) (t u:Tok) (s:Shared) (Q:ZW) (E:ZW),Q (.bool (g i j)) s->wpAny (model X.prog X.w) X.A (f (.int i t) (.int j u)) Q E s) :
  D5 X f (rI0 fun i j=>.bl (g i j)):=by
 intro XF s Z H x y v u Q I rx ry h;obtain⟨i,j,rfl,rfl,q⟩:=h;obtain⟨t,rfl⟩:=rx;obtain⟨t',rfl⟩:=ry;exact rule i j t t' s _ _ ⟨.bl (g i j),H,I,rfl,q⟩
def CDiv(i j:Int):Prop:=0<j/\j<1073741824
def CPow(i j:Int):Prop:=0<=j/\j<=1000000/\i.natAbs<2 ^ 64
def CMul(i j:Int):Prop:=(-(2 ^ 64)<i/\i<2 ^ 64)\/(-(2 ^ 64)<j/\j<2 ^ 64)
theorem CMul.ok{i j:Int}(h:CMul i j):IntMulOk i j:=by
 rcases h with ⟨h1,h2⟩ | ⟨h1,h2⟩
 .exact .of_left (intBits_le_64 h1 h2)
 .exact .of_right (intBits_le_64 h1 h2)
theorem op_add:D5 X (binaryOp .Add) (rI0 fun i j=>.int (i+j)):=opI0 fun _ _ _ _ _ _ _ q=>add_int q
theorem op_sub:D5 X (binaryOp .Sub) (rI0 fun i j=>.int (i - j)):=opI0 fun _ _ _ _ _ _ _ q=>sub_int q
theorem op_mul:D5 X (binaryOp .Mult) (rI CMul fun i j=>.int (i * j)):=opI fun _ _ _ _ _ _ _ hc q=>mul_int q hc.ok
theorem oj:D5 X (binaryOp .FloorDiv) (rI CDiv fun i j=>.int (i / j)):=opI fun i j _ _ _ _ _ hc q=>by
 have h1:(0:Int)<j:=hc.1;have h2:j<1073741824:=hc.2;exact floordiv_int (by omega) (by rw[Int.fdiv_eq_ediv_of_nonneg i (by omega)];exact q) (.inl (PyProof.noPylong_small (by omega)))
theorem op_mod:D5 X (binaryOp .Mod) (rI (fun _ j=>0<j) fun i j=>.int (i % j)):=opI fun i j _ _ _ _ _ hc q=>by
 have h1:(0:Int)<j:=hc;exact mod_int' (by omega) (by rw[Int.fmod_eq_emod_of_nonneg i (by omega)];exact q)
theorem op_pow:D5 X (binaryOp .Pow) (rI CPow fun i j=>.int (i ^ j.toNat)):=opI fun _ _ _ _ _ _ _ hc q=>pow_int_small hc.1 hc.2.1 hc.2.2 q
theorem unI{f:Value->Sem Value}{g:Int->Int}
  (rule:∀(i:Int) (t:Tok) (s:Shared) (Q:ZW) (E:ZW),Q (.int (g i) s.toks) { s with toks:=s.toks+1 }->wpAny (model X.prog X.w) X.A (f (.int i t)) Q E s) :
  UnR X f (rU fun i=>.int (g i)):=by
 intro XF s j H x v Q I rx h;obtain⟨i,rfl,q⟩:=h;obtain⟨t,rfl⟩:=rx;exact rule i t s _ _ ⟨.int (g i),H,I.tok _,⟨_,rfl⟩,q⟩
theorem un_neg:UnR X (unaryOp .USub) (rU fun i=>.int (-i)):=unI fun _ _ _ _ _ q=>neg_int q
end
noncomputable def scal:V->V->Bool
 | .non,.non=>true | .non,.int _=>true | .int _,.non=>true | .non,.bl _=>true | .bl _,.non=>true | .non,.str _=>true | .str _,.non=>true
 | .int _,.int _=>true | .bl _,.bl _=>true | .str _,.str _=>true | .byt _,.byt _=>true
 | .int _,.str _=>true | .str _,.int _=>true | .bl _,.str _=>true | .str _,.bl _=>true
 | _,_=>false
section
variable{X:Cx}{a b c:Expr}{ta tb tc:TE}{pos:Pos}
theorem Ff{XF:ZY}{j:St}{H:Hp}{s:Shared}{Q:VK}{k k':Bool}(I:Inv X XF j H s)(q:Q (.bl k) H)(e:k=k'):EP X XF j Q (.bool k') s:=by
 subst e;exact⟨.bl k,H,I,rfl,q⟩
theorem op_lt:D5 X (compareOp .Lt) (rI0 fun i j=>.bl (decide (i<j))):=ot fun _ _ _ _ _ _ _ q=>lt_int q
theorem op_le:D5 X (compareOp .LtE) (rI0 fun i j=>.bl (decide (i<=j))):=ot fun _ _ _ _ _ _ _ q=>le_int q
theorem op_gt:D5 X (compareOp .Gt) (rI0 fun i j=>.bl (decide (j<i))):=ot fun _ _ _ _ _ _ _ q=>gt_int q
theorem op_ge:D5 X (compareOp .GtE) (rI0 fun i j=>.bl (decide (j<=i))):=ot fun _ _ _ _ _ _ _ q=>ge_int q
inductive Bc(x:V)(y:V)(H:Hp)(Q:VK):Prop
 | mk(i j)(Vj:x=.str i)(Vq:y=.str j)(Jd:Q (.bl (!(Builtin.Str.occurrences j i 0 j.length 1).isEmpty)) H):Bc x y H Q
theorem zm:D5 X (compareOp .In) (fun x y H Q=>Bc x y H Q):=by
 intro XF s Z H x y v u Q I rx ry h;obtain⟨i,j,rfl,rfl,q⟩:=h;obtain⟨t,rfl⟩:=rx;obtain⟨t',rfl⟩:=ry;exact in_str (Ff I q rfl)
theorem gz:D5 X (compareOp .Is) (fun x y H Q=>y=.non/\Q (.bl (decide (x=.non))) H):=by
 intro XF s j H x y v u Q I rx ry h;obtain⟨rfl,q⟩:=h;cases ry;refine is_none_gen (Ff I q ?_)
 cases x<;>first
  | (cases rx;rfl)
  | (obtain⟨t,rfl⟩:=rx;rfl)
theorem Ai:D5 X (compareOp .IsNot) (fun x y H Q=>y=.non/\Q (.bl (!decide (x=.non))) H):=by
 intro XF s j H x y v u Q I rx ry h;obtain⟨rfl,q⟩:=h;cases ry;refine isnot_none_gen (Ff I q ?_)
 cases x<;>first
  | (cases rx;rfl)
  | (obtain⟨t,rfl⟩:=rx;rfl)
inductive Gg(x:V)(y:V)(H:Hp)(Q:VK):Prop
 | mk(i j)(Vj:x=.str i)(Vq:y=.str j)(Jd:Q (.bl (!(!(Builtin.Str.occurrences j i 0 j.length 1).isEmpty))) H):Gg x y H Q
theorem L6:D5 X (compareOp .NotIn) (fun x y H Q=>Gg x y H Q):=by
 intro XF s Z H x y v u Q I rx ry h;obtain⟨i,j,rfl,rfl,q⟩:=h;obtain⟨t,rfl⟩:=rx;obtain⟨t',rfl⟩:=ry;exact notIn_str (Ff I q rfl)
theorem ao{op:CmpOp}{r:R2}(ho:D5 X (compareOp op) r)(ha:PE X a ta)(hb:PE X b tb)(hm:behindInMarks op b=false):PE X (.Compare a [op] [b] pos) (tOp r ta tb):=by
 intro XF s j H Q I h;exact wpAny_Compare1 (binT ha hb I h fun v u s2 x y H2 I2 rx ry q=>ho XF s2 j H2 x y v u Q I2 rx ry q) hm
inductive Lh(Q:(Bool->Hp->Prop))(x:V)(H':Hp):Prop
 | mk(k)(Vj:x=.bl k)(Vq:Q k H'):Lh Q x H'
def Zxx(t:TE):TT:=fun j H Q=>t j H fun x H'=>Lh Q x H'
theorem uo{op:CmpOp}{r:R2}(ho:D5 X (compareOp op) r)(ha:PE X a ta)(hb:PE X b tb)(hm:behindInMarks op b=false):PT X (.Compare a [op] [b] pos) (Zxx (tOp r ta tb)):=by
 intro XF s j H Q I h
 refine wpAny_isTrue_Compare1 (Z3 (ha XF s j H _ I h) fun v s1 ⟨x,H1,I1,r1,q1⟩=>Z3 (hb XF s1 j H1 _ I1 q1) fun u s2 ⟨y,H2,I2,r2,q2⟩ =>
  Z3 (ho XF s2 j H2 x y v u _ I2 r1 r2 q2) fun c s3 ⟨z,H3,I3,r3,k,e,q3⟩=>?_) hm
 subst e;cases r3;exact wpAny_truthy_bool ⟨H3,I3,q3⟩
inductive Q6(r':R2)(tc:TE)(j:St)(Q:VK)(y:V)(z:V)(H3:Hp):Prop
 | mk(k)(Vj:z=.bl k)(Vq:(if k=true then tc j H3 fun w' H4=>r' y w' H4 Q else Q (.bl false) H3)):Q6 r' tc j Q y z H3
def Eu(r r':R2)(ta tb tc:TE):TE:=fun j H Q=>ta j H fun x H1=>tb j H1 fun y H2=>r x y H2 fun z H3=>Q6 r' tc j Q y z H3
theorem ku{op S5:CmpOp}{r r':R2}(ho:D5 X (compareOp op) r)(R1:D5 X (compareOp S5) r')(ha:PE X a ta)(hb:PE X b tb)(hc:PE X c tc)
  (hm:lastMarks [op,S5] [b,c]=false:=by with_unfolding_all rfl):PE X (.Compare a [op,S5] [b,c] pos) (Eu r r' ta tb tc):=by
 intro XF s j H Q I h
 refine Compare_chain (Z3 (ha XF s j H _ I h) fun v s1 ⟨x,H1,I1,r1,q1⟩=>chain_link (Z3 (hb XF s1 j H1 _ I1 q1) fun u s2 ⟨y,H2,I2,r2,q2⟩ =>
  Z3 (ho XF s2 j H2 x y v u _ I2 r1 r2 q2) fun d s3 ⟨z,H3,I3,r3,k,e,q3⟩=>?_)) hm
 subst e;cases r3;refine wpAny_truthy_bool ?_;cases k with
 | false=>exact ite_ff ⟨.bl false,H3,I3,rfl,q3⟩
 | true=>exact ite_tt (chain_last (Z3 (hc XF s3 j H3 _ I3 q3) fun w' s4 ⟨z',H4,I4,r4,q4⟩=>R1 XF s4 j H4 y z' u w' Q I4 r2 r4 q4))
theorem yi{op S5:CmpOp}{r r':R2}(ho:D5 X (compareOp op) r)(R1:D5 X (compareOp S5) r')(ha:PE X a ta)(hb:PE X b tb)(hc:PE X c tc)
  (hm:lastMarks [op,S5] [b,c]=false:=by with_unfolding_all rfl):PT X (.Compare a [op,S5] [b,c] pos) (Zxx (Eu r r' ta tb tc)):=by
 intro XF s j H Q I h
 refine isTrue_chain (Z3 (ha XF s j H _ I h) fun v s1 ⟨x,H1,I1,r1,q1⟩=>test_link (Z3 (hb XF s1 j H1 _ I1 q1) fun u s2 ⟨y,H2,I2,r2,q2⟩ =>
  Z3 (ho XF s2 j H2 x y v u _ I2 r1 r2 q2) fun d s3 ⟨z,H3,I3,r3,k,e,q3⟩=>?_)) hm
 subst e;cases r3;refine wpAny_truthy_bool ?_;cases k with
 | false =>
  obtain⟨k',e',q'⟩:=q3;cases e';exact ite_ff ⟨H3,I3,q'⟩
 | true =>
  refine ite_tt (test_last (Z3 (hc XF s3 j H3 _ I3 q3) fun w' s4 ⟨z',H4,I4,r4,q4⟩=>Z3 (R1 XF s4 j H4 y z' u w' _ I4 r2 r4 q4) fun d' s5 ⟨z2,H5,I5,r5,k2,e2,q5⟩=>?_));subst e2;cases r5;exact wpAny_truthy_bool ⟨H5,I5,q5⟩
theorem Ni:(sizeLine:Nat)<2 ^ 63:=by rw[sizeLine_eq];decide
inductive Md(x:V)(y:V)(H:Hp)(Q:VK):Prop
 | mk(i j)(Vj:x=.str i)(Vq:y=.str j)(Jd:i.length+j.length<=sizeLine)(Km:Q (.str (i++j)) H):Md x y H Q
theorem Kz:D5 X (binaryOp .Add) (fun x y H Q=>Md x y H Q):=by
 intro XF s Z H x y v u Q I rx ry h;obtain⟨i,j,rfl,rfl,hz,q⟩:=h;obtain⟨t,rfl⟩:=rx;obtain⟨t',rfl⟩:=ry;exact add_str (fun t' tk=>⟨.str (i++j),H,I.tok _,⟨_,rfl⟩,q⟩) hz
theorem vals1{x:V}{us:ZM}(r:Zw [x] us):∃u,us=[u]/\RelV x u:=by
 cases r with
 | cons r1 r2=>cases r2;exact⟨_,rfl,r1⟩
theorem vals2{x y:V}{us:ZM}(r:Zw [x,y] us):∃u w',us=[u,w']/\RelV x u/\RelV y w':=by
 cases r with
 | cons r1 r2 =>
  cases r2 with
  | cons r3 r4=>cases r4;exact⟨_,_,rfl,r1,r3⟩
inductive Bu(xs:ZQ)(H:Hp)(Q:VK):Prop
 | mk(i j)(Vj:xs=[.int i,.int j])(Vq:Q (.int (if j>i then j else i)) H):Bu xs H Q
theorem xu(hc:X.calm=true):Y5 X (.builtin "max") (fun xs H Q=>Bu xs H Q):=by
 intro XF s Z H xs us Q I r h;obtain⟨i,j,rfl,q⟩:=h;obtain⟨u,w',rfl,⟨t,rfl⟩,⟨t',rfl⟩⟩:=vals2 r;refine max_two_ints (I.ok.hd hc) fun h' tk k=>⟨_,H,I.kept k, ?_,q⟩;by_cases hj:j>i
 .rw[if_pos hj,if_pos hj];exact⟨_,rfl⟩
 .rw[if_neg hj,if_neg hj];exact⟨_,rfl⟩
inductive Bp(xs:ZQ)(H:Hp)(Q:VK):Prop
 | mk(i j)(Vj:xs=[.int i,.int j])(Vq:Q (.int (if j<i then j else i)) H):Bp xs H Q
theorem xp(hc:X.calm=true):Y5 X (.builtin "min") (fun xs H Q=>Bp xs H Q):=by
 intro XF s Z H xs us Q I r h;obtain⟨i,j,rfl,q⟩:=h;obtain⟨u,w',rfl,⟨t,rfl⟩,⟨t',rfl⟩⟩:=vals2 r;refine min_two_ints (I.ok.hd hc) fun h' tk k=>⟨_,H,I.kept k, ?_,q⟩;by_cases hj:j<i
 .rw[if_pos hj,if_pos hj];exact⟨_,rfl⟩
 .rw[if_neg hj,if_neg hj];exact⟨_,rfl⟩
theorem xa:Y5 X (.type "int") (fun xs H Q=>(∃i,xs=[.int i]/\Q (.int i) H)\/∃k,xs=[.bl k]/\Q (.int (if k then 1 else 0)) H):=by
 intro XF s j H xs us Q I r h;rcases h with ⟨i,rfl,q⟩ | ⟨k,rfl,q⟩
 .obtain⟨u,rfl,t,rfl⟩:=vals1 r;exact call_int_int ⟨.int i,H,I,⟨_,rfl⟩,q⟩
 .obtain⟨u,rfl,r1⟩:=vals1 r;cases r1;exact call_int_bool ⟨.int (if k then 1 else 0),H,I.tok _,⟨_,rfl⟩,q⟩
def LenV(K:W.Frag)(x:V)(H:Hp)(n:Nat):Prop :=
 match x with
 | .str y=>y.length<=sizeLine/\n=y.length
 | .byt y=>y.size<=sizeLine/\n=y.size
 | .ref p=>(∃xs,Jj K H p xs/\n=xs.length)\/∃xs,Vy K H p xs/\n=xs.length
 | _=>False
inductive C8(K:W.Frag)(xs:ZQ)(H:Hp)(Q:VK):Prop
 | mk(x n)(Vj:xs=[x])(Vq:LenV K x H n)(Jd:Q (.int n) H):C8 K xs H Q
theorem tm:Y5 X (.builtin "len") (fun xs H Q=>C8 X.K xs H Q):=by
 intro XF s j H xs us Q I r h;obtain⟨x,n,rfl,e,q⟩:=h;obtain⟨u,rfl,rx⟩:=vals1 r;have hl:=Ni;have hs:sizeLine=16777216:=sizeLine_eq;cases x with
 | str y =>
  obtain⟨t,rfl⟩:=rx;obtain⟨hy,e'⟩:y.length<=sizeLine/\n=y.length:=e;subst e';exact len_str (by omega) ⟨.int _,H,I.tok _,⟨_,rfl⟩,q⟩
 | byt y =>
  obtain⟨t,rfl⟩:=rx;obtain⟨hy,e'⟩:y.size<=sizeLine/\n=y.size:=e;subst e';exact W.len_bytes (by omega) ⟨.int _,H,I.tok _,⟨_,rfl⟩,q⟩
 | ref p =>
  cases rx;have e':(∃xs,Jj X.K H p xs/\n=xs.length)\/∃xs,Vy X.K H p xs/\n=xs.length:=e;rcases e' with ⟨xs,hx,e'⟩ | ⟨xs,hx,e'⟩
  .subst e';obtain⟨its,r',pl,hz⟩:=I.list hx;have hlen:=r'.length;exact Calls.call_len_list pl.isList (by simp only[V7];omega) ⟨.int xs.length,H,I.tok _,⟨_,by simp only[V7];rw[hlen]⟩,q⟩
  .subst e';obtain⟨its,r',pl,hz⟩:=I.tuple hx;have hlen:=r'.length;exact len_tuple pl (by simp only[V7];omega) ⟨.int xs.length,H,I.tok _,⟨_,by simp only[V7];rw[hlen]⟩,q⟩
 | _=>exact(show False from e).elim
end
structure ObjM(h:Heap)(x dx C:Addr)(mA:ZV):Prop where
 obj:h.get? x=some (W.instObj C dx)
 ns:h.Ns1 dx mA
 ne:dx≠x
theorem zo{h:Heap}{dx:Addr}{mA:ZV}(n:h.Ns1 dx mA):∃od,h.get? dx=some od/\∀name,W.lookIn name od=some (mA name):=by
 obtain⟨o,es,ep,ho,hd,hk,_,hm⟩:=n;refine⟨o,ho,fun name=>?_⟩;have e:=hm name;unfold nsFind findBy at e;rw[<-Array.find?_toList]at e;unfold W.lookIn;rw[hd];dsimp only
 split
 .rename_i y q
  rw[q]at e;exact congrArg some e
 .rename_i q
  rw[q]at e
  have a:es.toList.any (·.refKey)=false:=by
   rw[List.any_eq_false];intro y hy;obtain⟨z,t,ba⟩:=hk y (Array.mem_toList_iff.mp hy);simp[DictEntry.refKey,ba]
  have a':¬ es.toList.any (·.refKey)=true:=by rw[a];exact B5
  rw[if_neg a'];exact congrArg some e
theorem ObjM.look{h:Heap}{x dx C:Addr}{mA:ZV}(I:ObjM h x dx C mA):∃od,W.InstAt h x (W.instObj C dx) C (some od)/\∀name,W.lookIn name od=some (mA name) :=
 let ⟨od,ho,hl⟩:=zo I.ns
 ⟨od,⟨I.obj,rfl,rfl,ho⟩,hl⟩
section
variable{prog:Program}{w:World}{A:Around}{E:ZW}{s:Shared}{K:W.Frag}{x dx C f:Addr}{mA:ZV}{name:Str}{v:Value}
end
theorem Bw.some_of{v:V}{o:ZT}(r:Bw (some v) o):∃u,o=some u/\RelV v u:=by
 cases o with
 | none=>exact(show False from r).elim
 | some u=>exact⟨u,rfl,r⟩
section
variable{P:Program}{w:World}{H H':Hp}{h h':Heap}{a C dx:Addr}{fs fs':List (Str×V)}
theorem i9(hok:D8 P w H h)(e:H a=some (.ins C dx fs)):∃mA,ObjM h a dx C mA/\(∀f,Bw (fs.lookup f) (mA f))/\PySem.Within mA (fs.map (·.1))/\fs.length<=1000/\H dx=some (.own a):=by
 obtain⟨d,z,ne,ob,mA,n,r,q⟩:=(show Zh P w H h a (.ins C dx fs) from hok a _ e);exact⟨mA,⟨ob,n,ne⟩,r,q,z,d⟩
end
structure Cls(K:W.Frag)(C:Addr):Prop where
 pg:W.plainGet K C Str.empty=true
 hd:W.hasDictIn K C=true
 po:W.plainOver K C=true
 sa:W.findIn K (.ref C) "__setattr__" = some (some (.builtin "object.__setattr__"))
theorem Cls.get{K:W.Frag}{C:Addr}(c:Cls K C)(f:Str):W.plainGet K C f=true:=c.pg
section
variable{X:Cx}{XF:ZY}{j:St}{H:Hp}{s:Shared}{a C dx:Addr}{fs:List (Str×V)}{f:Str}{v:V}{A:Around}{E:ZW}
end
section
variable{X:Cx}{o e value:Expr}{f:Str}{pos pos' tpos:Pos}{ta tv:TE}
end
section
variable{X:Cx}{XF:ZY}{j:St}{H:Hp}{s:Shared}{A:Around}{E:ZW}{Q:ZW}{c:Value}{b:Bool}
inductive Tx(K:W.Frag)(H:Hp):V->Value->Prop where
 | non:Tx K H .non (.type "NoneType")
 | bl (x:Bool):Tx K H (.bl x) (.type "bool")
 | int (i:Int):Tx K H (.int i) (.type "int")
 | str (x:Str):Tx K H (.str x) (.type "str")
 | flt (x:UInt64):Tx K H (.flt x) (.type "float")
 | lst {a:Addr} {xs:ZQ} (e:H a=some (.lst xs)):Tx K H (.ref a) (.type "list")
 | frz {a:Addr} {o:Obj} {xs:ZQ} (e:H a=some (.frz o (.lst xs))):Tx K H (.ref a) (.type "list")
 | tup {a:Addr} {xs:ZQ} (e:H a=some (.tup xs)):Tx K H (.ref a) (.type "tuple")
 | dK {a:Addr} {XB:List (Key×V)} (e:H a=some (.dK XB)):Tx K H (.ref a) (.type "dict")
 | dT {a:Addr} {XB:List (List Key×V)} (e:H a=some (.dT XB)):Tx K H (.ref a) (.type "dict")
 | ins {a C dx:Addr} {fs:List (Str×V)} (e:H a=some (.ins C dx fs)) (cl:Cls K C) (ha:W.findIn K (.ref C) "__class__" = some (some (.builtin "object.__class__")))
   (hn:W.specialIn K (.builtin "object.__class__") "__get__" = some (some (.builtin "getset_descriptor.__get__"))) (htk:W.takesIn K (.builtin "object.__class__")=some true)
   (hm:W.mroIn K C (.type "object")=some true):Tx K H (.ref a) (.ref C)
theorem V0{x:V}{u t:Value}(I:Inv X XF j H s)(rx:RelV x u)(ty:Tx X.K H x t)(e:W.kitOne X.K t c=some b)(h:∀tk,Q (.bool b) { s with toks:=tk }) :
  wpAny (model X.prog X.w) A (call (.builtin "isinstance") [u,c]) Q E s:=by
 cases ty with
 | non=>cases(show u=Value.none from rx);exact W.kia_one W.kitx_none I.kIn True.intro e (fun z=>nomatch z) h
 | bl y=>cases(show u=Value.bool y from rx);exact W.kia_one W.kitx_bool I.kIn True.intro e (fun z=>nomatch z) h
 | int i=>obtain⟨t,q⟩:=(show ∃t,u=Value.int i t from rx);cases q;exact W.kia_one W.kitx_int I.kIn True.intro e (fun z=>nomatch z) h
 | str y=>obtain⟨t,q⟩:=(show ∃t,u=Value.str y t from rx);cases q;exact W.kia_one W.kitx_str I.kIn True.intro e (fun z=>nomatch z) h
 | flt y=>obtain⟨t,q⟩:=(show ∃t,u=Value.float y t from rx);cases q;exact W.kia_one W.kitx_float I.kIn True.intro e (fun z=>nomatch z) h
 | @lst a xs ea =>
  cases(show u=Value.ref a from rx);obtain⟨_,_,n,_,h1⟩:=(show Zh X.prog X.w H s.heap a (.lst xs) from I.hok a _ ea);exact W.kia_one W.kitx_list I.kIn ⟨_,h1,rfl⟩ e (fun z=>nomatch z) h
 | @frz a ob xs ea =>
  cases(show u=Value.ref a from rx);obtain⟨_,_,_,n,_,h1⟩:=(show Zh X.prog X.w H s.heap a (.frz ob (.lst xs)) from I.hok a _ ea);exact W.kia_one W.kitx_list I.kIn ⟨_,h1,rfl⟩ e (fun z=>nomatch z) h
 | @tup a xs ea =>
  cases(show u=Value.ref a from rx);obtain⟨_,_,_,p⟩:=(show Zh X.prog X.w H s.heap a (.tup xs) from I.hok a _ ea);obtain⟨o,h1,h2,_⟩:=p;exact W.kia_one W.kitx_tuple I.kIn ⟨o,h1,h2⟩ e (fun z=>nomatch z) h
 | @dK a XB ea =>
  cases(show u=Value.ref a from rx);obtain⟨_,_,vs,_,p⟩:=(show Zh X.prog X.w H s.heap a (.dK XB) from I.hok a _ ea);obtain⟨o,es,ep,h1,h2,_⟩:=p;exact W.kia_one W.kitx_dict I.kIn ⟨o,h1,h2.1⟩ e (fun z=>nomatch z) h
 | @dT a XB ea =>
  cases(show u=Value.ref a from rx);obtain⟨_,_,xs,_,o,es,ep,h1,h2,_⟩:=(show Zh X.prog X.w H s.heap a (.dT XB) from I.hok a _ ea);exact W.kia_one W.kitx_dict I.kIn ⟨o,h1,h2.1⟩ e (fun z=>nomatch z) h
 | @ins a C dx fs ea cl ha hn htk hm =>
  cases(show u=Value.ref a from rx);obtain⟨mA,O,_⟩:=i9 I.hok ea;obtain⟨od,J,_⟩:=O.look;exact W.kia_one (W.kitx_own (cl.get _) cl.hd ha hn htk hm) I.kIn J e (fun z=>nomatch z) h
end
structure V8(k:Nat)(A:Around):Prop where
 hd:A.handled=none
 dp:A.depth+3 * k+5<recursionLimit
 un:A.units+16 * k+200<cLine
 gd:A.guards=some []
theorem V8.deeper{k:Nat}{A:Around}(r:V8 (k+1) A)(env:Env):V8 k (A.deeper env) :=
 ⟨r.hd,by have:=r.dp;show A.depth+1+3 * k+5<_;omega,by have:=r.un;show A.units+3+16 * k+200<_;omega,r.gd⟩
theorem V8.in1{k:Nat}{A:Around}(r:V8 (k+1) A):V8 k A.in1 :=
 ⟨r.hd,by have:=r.dp;show A.depth+3 * k+5<_;omega,by have:=r.un;show A.units+1+16 * k+200<_;omega,r.gd⟩
theorem V8.depth{k:Nat}{A:Around}(r:V8 k A):A.depth<recursionLimit:=by have:=r.dp;omega
theorem V8.units{k:Nat}{A:Around}(r:V8 k A):A.units+64<cLine:=by have:=r.un;omega
def tNil:TA:=fun _ H Q=>Q [] H
def tCons(ta:TE)(tr:TA):TA:=fun j H Q=>ta j H fun x H1=>tr j H1 fun xs H2=>Q (x::xs) H2
section
variable{X:Cx}{e:Expr}{es:ZC}{te:TE}{t:TA}{pos:Pos}
theorem Ck:PA X [] tNil:=fun _ _ _ _ H Q I h=>Calls.spliced_nil ⟨[],H,I,.nil,h⟩
theorem Ga(ha:PE X e te)(hr:PA X es t)(hs:starEach (e::es) X.env=(false,eval e X.env)::starEach es X.env:=by rfl):PA X (e::es) (tCons te t):=by
 intro pos XF s j H Q I h;rw[hs];show wpAny _ _ (spliced ((false,eval e X.env)::backTo pos (starEach es X.env))) _ _ s;refine Calls.spliced_cons (Z3 (ha XF s j H _ I h) fun u s1 ⟨x,H1,I1,r1,q1⟩=>?_);exact Z3 (hr pos XF s1 j H1 _ I1 q1) fun us s2 ⟨xs,H2,I2,r2,q2⟩=>⟨x::xs,H2,I2,.cons r1 r2,q2⟩
inductive wc(Q:VK)(xs:ZQ)(H1:Hp):Prop
 | mk  (Vj:xs.length<=sizeLine)(Vq:∀p,H1 p=none->Q (.ref p) (upd H1 p (.tup xs))):wc Q xs H1
def tTup(t:TA):TE:=fun j H Q=>t j H fun xs H1=>wc Q xs H1
inductive wa(Q:VK)(xs:ZQ)(H1:Hp):Prop
 | mk  (Vj:xs.length<=sizeLine)(Vq:∀p,H1 p=none->Q (.ref p) (upd H1 p (.lst xs))):wa Q xs H1
def tLst(t:TA):TE:=fun j H Q=>t j H fun xs H1=>wa Q xs H1
theorem pe_tup{x1}(h:PA X es t):PE X (.Tuple es x1 pos) (tTup t):=by
 intro XF s j H Q I hq;refine wpAny_Tuple_spliced (Z3 (h pos XF s j H _ I hq) fun us s1 ⟨xs,H1,I1,r,z,q⟩=>⟨by rw[<-r.length];exact z, ?_⟩);have hf:H1 s1.heap.objs.size=none:=I1.hok.fresh (Yz _);refine⟨.ref s1.heap.objs.size,upd H1 s1.heap.objs.size (.tup xs),I1.laid (t':=s1.toks) (fun b u e=>Yi _ e) (Yz _) ?_,rfl,q _ hf⟩;exact⟨z,us,r,⟨_,Dv _ rfl,rfl,⟨_,rfl⟩,rfl⟩⟩
theorem pe_lst(h:PA X es t):PE X (.List es pos) (tLst t):=by
 intro XF s j H Q I hq;refine wpAny_List_spliced (Z3 (h pos XF s j H _ I hq) fun us s1 ⟨xs,H1,I1,r,z,q⟩=>⟨by rw[<-r.length];exact z, ?_⟩);have hf:H1 s1.heap.objs.size=none:=I1.hok.fresh (Yz _);refine⟨.ref s1.heap.objs.size,upd H1 s1.heap.objs.size (.lst xs),I1.laid (t':=s1.toks) (fun b u e=>Yi _ e) (Yz _) ?_,rfl,q _ hf⟩;exact⟨z,us,0,r,Dv _ rfl⟩
end
abbrev Sp:=ZQ->Hp->VK->XK->Prop
abbrev Xx:=List Env->Hp->Shared->XK->Value->Shared->Prop
structure Hy(P:Program)(w:World)(K:W.Frag)(mg:ZV)(base:Heap)(A:Around)(outer:List Env)(s:Shared)(H:Hp):Prop where
 frames:A.frames=some outer
 mod:Mod K mg base
 bs:∀b o,base.get? b=some o->s.heap.get? b=some o/\H b=none
 bsz:base.objs.size<=s.heap.objs.size
 funs:s.heap.FunFrames base outer
 frf:∀b∈frs outer,H b=none
 hok:D8 P w H s.heap
 bare:AllBare s.gens
def CE(outer:List Env)(P:Program)(w:World)(H:Hp)(s:Shared)(Q:VK)(u:Value)(s':Shared):Prop :=
 ∃v H',s'.os=s.os/\AllBare s'.gens/\Un (frs outer) [] H H' s.heap s'.heap/\D8 P w H' s'.heap/\RelV v u/\Q v H'
def CR(CX:Xx)(outer:List Env)(P:Program)(w:World)(H:Hp)(s:Shared)(Q:VK)(E:XK)(r:Result)(s':Shared):Prop :=
 match r with
 | .ok (.ret u)=>CE outer P w H s Q u s'
 | .ok _=>False
 | .error e=>CX outer H s E e s'
structure Gq(P:Program)(w:World)(K:W.Frag)(mg:ZV)(base:Heap)(CX:Xx)(k:Nat)(f:Addr)(fd:FuncData)(ps:ZD)(sp:Sp):Prop where
 len:∀vs H Q E,sp vs H Q E->vs.length=ps.length
 run:∀(A:Around) (outer:List Env) (s:Shared) (H:Hp) (args:Args) (us:ZM) (vs:ZQ) (Q:VK) (E:XK),V8 k A->Hy P w K mg base A outer s H->BindsTo s fd args (ps.zip us)->Zw vs us->sp vs H Q E ->
  codeAny (model P w) A (.call (.ref f) args) (CR CX outer P w H s Q E) s
theorem Gq.imp{P:Program}{w:World}{K:W.Frag}{mg:ZV}{base:Heap}{CX:Xx}{k:Nat}{f:Addr}{fd:FuncData}{ps:ZD}{sp sp':Sp}(F:Gq P w K mg base CX k f fd ps sp)
  (h:∀vs H Q E,sp' vs H Q E->sp vs H Q E):Gq P w K mg base CX k f fd ps sp' :=
 ⟨fun vs H Q E q=>F.len vs H Q E (h _ _ _ _ q),fun A outer s H args us vs Q E hr he hb hv hs=>F.run A outer s H args us vs Q E hr he hb hv (h _ _ _ _ hs)⟩
theorem Hy.in1{P:Program}{w:World}{K:W.Frag}{mg:ZV}{base:Heap}{A:Around}{outer:List Env}{s:Shared}{H:Hp}(e:Hy P w K mg base A outer s H) :
  Hy P w K mg base A.in1 outer s H:=⟨e.frames,e.mod,e.bs,e.bsz,e.funs,e.frf,e.hok,e.bare⟩
section
variable{X:Cx}{XF:ZY}{j:St}{H:Hp}{s s':Shared}
theorem Inv.env0(I:Inv X XF j H s):Hy X.prog X.w X.K X.mg X.base X.A X.stack s H :=
 ⟨I.ok.frames,I.ok.mod,I.bs,Uu I.ok.bsz I.sz,I.stack,I.stkFree,I.hok,I.bare⟩
theorem Inv.after{Q:VK}{u:Value}(I:Inv X XF j H s)(h:CE X.stack X.prog X.w H s Q u s'):EP X XF j Q u s':=by
 obtain⟨v,H',os,bare,un,hok,r,q⟩:=h;obtain⟨hh,g,d,t,os'⟩:=s';obtain rfl:os'=s.os:=os;exact⟨v,H',I.call (h':=hh) (g':=g) (d':=d) (t':=t) (ch:=[]) un hok bare (fun b z=>absurd z (by simp)),r,q⟩
end
def Zxj(sp:Sp)(dvs:ZQ)(E:XK)(t:TA):TE:=fun j H Q=>t j H fun vs H1=>sp (vs++dvs) H1 Q E
def Binds(K:W.Frag)(fd:FuncData)(ps:ZD)(ds:ZM):Prop :=
 ∀(s:Shared) (us:ZM),K.In s.heap->(us++ds).length=ps.length->BindsTo s fd ⟨us,[]⟩ (ps.zip (us++ds))
theorem Binds.all{K:W.Frag}{fd:FuncData}{ps:ZD}(h:∀us:ZM,us.length=ps.length->bindArgs fd ⟨us,[]⟩=pure (ps.zip us)):Binds K fd ps []:=fun s us _ hl=>by
 rw[XQ]at hl ⊢;exact .of_eq (h us hl)
def Hq(CX:Xx)(X:Cx)(E:XK):Prop:=∀(XF:ZY) (j:St) (H:Hp) (s:Shared) (e:Value) (s':Shared),Inv X XF j H s->CX X.stack H s E e s'->X.xe e s'
section
variable{X:Cx}{CX:Xx}{k:Nat}{f C:Addr}{fd:FuncData}{ps:ZD}{sp:Sp}{dvs:ZQ}{ds:ZM}{E:XK}{x m:Str}{p pos apos:Pos}{e o:Expr}{es:ZC}{ta:TE}{t:TA}
theorem v7{XF:ZY}{j:St}{H:Hp}{s:Shared}{Q:VK}{us:ZM}{vs:ZQ}(F:Gq X.prog X.w X.K X.mg X.base CX k f fd ps sp)(hr:V8 k X.A)(hb:Binds X.K fd ps ds)(hd:Zw dvs ds)(hx:Hq CX X E)
  (I:Inv X XF j H s) (r:Zw vs us) (h:sp (vs++dvs) H Q E):wpAny (model X.prog X.w) X.A (call (.ref f) us) (EP X XF j Q) X.xe s:=by
 have r2:Zw (vs++dvs) (us++ds):=r.append hd;have hl:(us++ds).length=ps.length:=by rw[<-r2.length];exact F.len _ _ _ _ h
 refine wpAny_call (codeAny_mono (F.run X.A X.stack s H ⟨us,[]⟩ (us++ds) (vs++dvs) Q E hr I.env0 (hb s us I.kIn hl) r2 h) fun r s' hq=>?_);cases r with
 | error e=>exact hx XF j H s e s' I hq
 | ok fl =>
  cases fl with
  | ret u=>exact I.after hq
  | next=>exact False.elim hq
  | brk=>exact False.elim hq
  | cont=>exact False.elim hq
theorem ai(F:Gq X.prog X.w X.K X.mg X.base CX k f fd ps sp)(hr:V8 k X.A)(hg:Gl X x)(hm:X.mg x=some (.ref f))(hk:W.keepIn X.K (.ref f)=true)(hb:Binds X.K fd ps ds)(hd:Zw dvs ds)(hx:Hq CX X E)
  (ha:PA X (e::es) t) (hdb:(x == ("__debug__" : Str))=false:=by decide) (he:starEach (e::es) X.env=(false,eval e X.env)::starEach es X.env:=by rfl) (Ij:(backTo pos (starEach es X.env)).any (·.1)=false:=by rfl) :
  PE X (.Call (.Name x p) (e::es) [] pos) (Zxj sp dvs E t):=by
 intro XF s j H Q I h;refine wpAny_Call_Name_kw (A4 I hg hm ?_ hdb);refine W.callWith_K (h₀:=X.base) I.ok.mod.kin hk (Z3 (ha pos XF s j H _ I h) fun us s1 ⟨vs,H1,I1,r,q⟩=>⟨I1.kIn, ?_⟩) he Ij;exact v7 F hr hb hd hx I1 r q
end
section
variable{X:Cx}{CX:Xx}{k:Nat}{f C:Addr}{fd:FuncData}{ps ks:ZD}{sp:Sp}{E:XK}{x m:Str}{p pos apos kpos:Pos}{e o:Expr}{es:ZC}{kws:List Keyword}{te ta:TE}{t tk:TA}{nm:Option Str}
variable{g:ZM->ZM->ZM}{gV:ZQ->ZQ->ZQ}
end
structure J0(N P:ZD)(sc:Scope):Prop where
 kind:sc.kind=.function
 co:sc.isCoroutine=false
 gen:sc.isGenerator=false
 nd:N.Nodup
 pre:N.take P.length=P
 par:∀x∈P,sc.names.lookup x=some .local\/sc.names.lookup x=some .cell
 nofree:∀y∈sc.names,y.2≠.free
theorem W8{kindOf:Str->Option NameKind}{x:Str}:∀{binds:List (Str×Value)} {m:ZV},(∀v,(x,v) ∉ binds)->bindL kindOf binds m x=m x
 | [],_,_=>rfl
 | (n,v)::r,m,h=>by
  unfold bindL;rw[W8 fun w hw=>h w (Vb _ hw)]
  split
  .have:x≠n:=by rintro rfl;exact h v Vk
   simp[this]
  .rfl
theorem Lz{kindOf:Str->Option NameKind}{x:Str}:∀{binds:List (Str×Value)} {m:ZV},(∀v,(x,v) ∉ binds)->bindC kindOf binds m x=m x
 | [],_,_=>rfl
 | (n,v)::r,m,h=>by
  unfold bindC;rw[Lz fun w hw=>h w (Vb _ hw)]
  split
  .rfl
  .have:x≠n:=by rintro rfl;exact h v Vk
   simp[this]
theorem W9{kindOf:Str->Option NameKind}{x:Str}{v:Value}:∀{P:ZD} {vs:ZM} {i:Nat} {m:ZV},P.Nodup->P[i]?=some x->vs[i]?=some v->kindOf x=some .local ->
  bindL kindOf (P.zip vs) m x=some v
 | [],_,_,_,_,h,_,_=>by simp at h
 | _::_,[],_,_,_,_,h,_=>by simp at h
 | p::P,w::vs,0,m,nd,h1,h2,hk=>by
  simp at h1 h2;subst h1;subst h2;show bindL kindOf ((p,w)::P.zip vs) m p=_;unfold bindL;rw[W8 fun v hv=>(List.nodup_cons.mp nd).1 (List.of_mem_zip hv).1,if_pos hk];simp
 | p::P,w::vs,i+1,m,nd,h1,h2,hk=>by
  show bindL kindOf ((p,w)::P.zip vs) m x=_;unfold bindL;exact W9 (i:=i) (List.nodup_cons.mp nd).2 (by simpa using h1) (by simpa using h2) hk
theorem Lx{kindOf:Str->Option NameKind}{x:Str}{v:Value}:∀{P:ZD} {vs:ZM} {i:Nat} {m:ZV},P.Nodup->P[i]?=some x->vs[i]?=some v->kindOf x≠some .local ->
  bindC kindOf (P.zip vs) m x=some v
 | [],_,_,_,_,h,_,_=>by simp at h
 | _::_,[],_,_,_,_,h,_=>by simp at h
 | p::P,w::vs,0,m,nd,h1,h2,hk=>by
  simp at h1 h2;subst h1;subst h2;show bindC kindOf ((p,w)::P.zip vs) m p=_;unfold bindC;rw[Lz fun v hv=>(List.nodup_cons.mp nd).1 (List.of_mem_zip hv).1,if_neg hk];simp
 | p::P,w::vs,i+1,m,nd,h1,h2,hk=>by
  show bindC kindOf ((p,w)::P.zip vs) m x=_;unfold bindC;exact Lx (i:=i) (List.nodup_cons.mp nd).2 (by simpa using h1) (by simpa using h2) hk
noncomputable def start(N:ZD)(vs:ZQ):St:=vs.map some++List.replicate (N.length - vs.length) none
noncomputable def O1(CX:Xx)(P:Program)(w:World)(K:W.Frag)(mg:ZV)(base:Heap)(N:ZD)(qual:Str)(scope:Scope)(f:Addr)(cd:Value)(A:Around)(outer:List Env)(s:Shared)(H:Hp)(E:XK):Cx where
 prog:=P
 w:=w
 K:=K
 mg:=mg
 base:=base
 A:=A.deeper (envOfC qual scope s.heap.objs.size f cd)
 N:=N
 s₀:=s
 H₀:=H
 env:=envOfC qual scope s.heap.objs.size f cd
 outer:=outer
 stack:=envOfC qual scope s.heap.objs.size f cd::outer
 ex:=[]
 calm:=true
 fn:=fun _=>true
 pn:=[]
 xe:=fun e s'=>wpAny (model P w) (A.deeper (envOfC qual scope s.heap.objs.size f cd)) (leaving (envOfC qual scope s.heap.objs.size f cd) e) (fun _ s''=>CX outer H s E e s'') (fun e' s''=>CX outer H s E e' s'') s'
theorem O5{sc:Scope}{n:Nat}{x:Str}(h:sc.names.lookup x=some .cell):∃c,(cellsFrom n sc.names []).lookup x=some c:=by
 have q:=W.cellsFrom_some sc.names n [] (.inl h);exact Option.isSome_iff_exists.mp q
theorem z7{CX:Xx}{P:Program}{w:World}{K:W.Frag}{mg:ZV}{base:Heap}{N ps:ZD}{qual:Str}{scope:Scope}{f:Addr}{cd:Value}{A:Around}{outer:List Env}{s s1:Shared}{H:Hp}{E:XK}{us:ZM}{vs:ZQ}
  (S:J0 N ps scope) (hd:A.handled=none) (e0:Hy P w K mg base A outer s H) (hl:vs.length=ps.length) (r:Zw vs us)
  (x:InCallC s s.heap.objs.size (bindL (envOfC qual scope s.heap.objs.size f cd).kindOf (ps.zip us) fun _=>none) (cellsFrom (s.heap.objs.size+1) scope.names []) (bindC (envOfC qual scope s.heap.objs.size f cd).kindOf (ps.zip us) fun _=>none) s1) :
  Inv (O1 CX P w K mg base N qual scope f cd A outer s H E) [] (start N vs) H s1:=by
 have Ij:ps.length<=N.length:=by have:=congrArg List.length S.pre;rw[L0t]at this;omega
 obtain⟨h1,tk,rfl,hk⟩:=x.done;have noA:∀b:Addr,b ∉ (O1 CX P w K mg base N qual scope f cd A outer s H E).ex:=fun b z=>absurd (show b∈([]:ZU) from z) (by simp)
 refine⟨⟨e0.mod,S.kind,rfl,rfl,Yz _,fun y z c h1 h2=>?_,fun y hy=>?_,fun y c _ h=>?_,fun _=>hd,Around.frames_deeper e0.frames,.inr ⟨rfl,rfl⟩,fun b z=>absurd z (noA b),e0.bs,e0.bsz,fun b _ _=>noA b,fun b z=>absurd z (noA b),e0.funs,e0.frf⟩,
  rfl,e0.bare,Un.kept hk,⟨_,x.toInCall.ns,fun i y v h1 h2 h3=>?_⟩,fun y c h=>⟨_,x.cell y c h⟩,e0.hok.fresh (Yz _),fun y c h=>?_,fun p hp=>absurd (show p∈([]:ZY) from hp) (by simp),e0.hok.kept hk, ?_⟩
 .exact name_of_addr x.apart (PySem.mem_of_lookup h1) (PySem.mem_of_lookup h2)
 .have hy:scope.names.lookup y=some .cell\/scope.names.lookup y=some .free:=hy;rcases hy with hy | hy
  .exact O5 hy
  .exact absurd rfl (S.nofree _ (PySem.mem_of_lookup hy))
 .exact Nat.le_of_lt (x.above y c (PySem.mem_of_lookup h))
 .have hi:i<vs.length:=by
   unfold start at h2;by_cases hi:i<vs.length
   .exact hi
   .rw[List.getElem?_append_right (by simpa using hi)]at h2;rw[List.getElem?_replicate]at h2
    split at h2<;>cases h2
  have ha:vs[i]?=some v:=by
   unfold start at h2;rw[G0l (by simpa using hi),B4]at h2;cases e:vs[i]? with
   | none=>rw[e]at h2;cases h2
   | some a=>rw[e]at h2;cases h2;rfl
  obtain⟨u,hu,rv⟩:=r.get ha
  have hp:ps[i]?=some y:=by
   rw[<-S.pre,List.getElem?_take_of_lt (by omega)];exact h1
  have ndP:ps.Nodup:=by rw[<-S.pre];exact S.nd.sublist (List.take_sublist _ _)
  refine⟨u,rv, ?_⟩;rcases S.par y (List.mem_of_getElem? hp) with k | k
  .exact .inl ⟨k,W9 ndP hp hu k⟩
  .obtain⟨c,e⟩:=O5 (n:=s.heap.objs.size+1) k;refine .inr ⟨.inl k,c,e, ?_⟩;have q:=x.cell y c e;rw[Lx ndP hp hu (by show scope.names.lookup y≠_;rw[k];decide)]at q;exact q
 .exact e0.hok.fresh (Nat.le_of_lt (x.above y c (PySem.mem_of_lookup h)))
 .unfold start;show _=N.length;rw[D7,Z0,List.length_replicate];omega
theorem Zx8{CX:Xx}{P:Program}{w:World}{K:W.Frag}{mg:ZV}{base:Heap}{k:Nat}{f:Addr}{name qual:Str}{params:Arguments}{body:List Stmt}{scope:Scope}{dV kV doc pm cdv ct oc:Value}{an od:ZP}
  {osl:ZF} {N ps:ZD} {sp:Sp} (lk:K.lookup f=some ⟨oc,od,.func (W.fnOf name qual params body scope dV kV doc pm an cdv ct),osl⟩) (P9:W.codeIn K cdv qual=true) (S:J0 N ps scope)
  (len:∀vs H Q E,sp vs H Q E->vs.length=ps.length)
  (Oz:∀(A:Around) (outer:List Env) (s:Shared) (H:Hp) (vs:ZQ) (Q:VK) (E:XK),V8 k (A.deeper (envOfC qual scope s.heap.objs.size f cdv))->sp vs H Q E ->
   ∃t,Ru (O1 CX P w K mg base N qual scope f cdv A outer s H E) body t/\t { nx:=fun _ H'=>Q .non H',rt:=Q } (start N vs) H) :
  Gq P w K mg base CX (k+1) f (W.fnOf name qual params body scope dV kV doc pm an cdv ct) ps sp:=by
 refine⟨len,fun A outer s H args us vs Q E hr e0 hb r c6=>?_⟩;have hl:=len _ _ _ _ c6;have KX:K.In s.heap:=e0.mod.kin.keeps fun b o e=>(e0.bs b o e).1;have lim:s.heap.NoLimit:=e0.mod.nolimit.keeps fun b o e=>(e0.bs b o e).1
 have hkind:∀y∈ps.zip us,scope.names.lookup y.1=some .local\/(scope.names.lookup y.1=some .cell/\((cellsFrom (s.heap.objs.size+1) scope.names []).lookup y.1).isSome=true):=fun⟨n,v⟩ hy=>by
  rcases S.par n (List.of_mem_zip hy).1 with q | q
  .exact .inl q
  .exact .inr ⟨q,W.cellsFrom_some _ _ _ (.inl q)⟩
 refine codeAny_call_function hr.depth (KX _ _ lk) rfl S.co S.gen rfl (W.codeRec_of KX P9) (hb _ _ _ _ ?_);refine wpAny_newFunctionEnv_cells S.kind hkind fun env he s1 x=>?_;subst he;refine⟨lim.keeps x.toInCall.keep,codeAny_func ?_⟩;obtain⟨t,ht,hq⟩:=Oz A outer s H vs Q E (hr.deeper _) c6;have I:Inv (O1 CX P w K mg base N qual scope f cdv A outer s H E) [] (start N vs) H s1:=z7 S hr.hd e0 hl r x;refine wpAny_mono (ht [] s1 (start N vs) H _ I hq) (fun fl s' hs=>?_) fun e s' hs=>hs
 have fin:∀{σ':St} {H':Hp} {v:V} {u:Value},Inv (O1 CX P w K mg base N qual scope f cdv A outer s H E) [] σ' H' s'->RelV v u->Q v H'->CE outer P w H s Q u s' :=
  fun {σ' H' v u} J rv q=>⟨v,H',J.os,J.bare,J.base,J.hok,rv,q⟩
 cases fl with
 | ret u =>
  obtain⟨v,σ',H',J,rv,q⟩:=hs;exact fin J rv q
 | next =>
  obtain⟨σ',H',J,q⟩:=hs;exact fin (v:=V.non) (u:=Value.none) J rfl q
 | brk =>
  obtain⟨_,_,_,q⟩:=hs;exact False.elim q
 | cont =>
  obtain⟨_,_,_,q⟩:=hs;exact False.elim q
section
variable{X:Cx}{x:Str}{p pos:Pos}{e:Expr}{es:ZC}{t:TA}{id T:String}{r:ZQ->Hp->VK->Prop}
def tCB(r:ZQ->Hp->VK->Prop)(t:TA):TE:=fun j H Q=>t j H fun vs H1=>r vs H1 Q
theorem Cv(hc:Y5 X (.builtin id) r)(hg:Gl X x)(hm:X.mg x=none)(hv:bootBuiltins x=some (.builtin id))(ha:PA X (e::es) t)(hn:x ≠ "__name__" := by decide)(hdb:(x == ("__debug__" : Str))=false:=by decide)
  (he:starEach (e::es) X.env=(false,eval e X.env)::starEach es X.env:=by rfl) (Ij:(backTo pos (starEach es X.env)).any (·.1)=false:=by rfl):PE X (.Call (.Name x p) (e::es) [] pos) (tCB r t):=by
 intro XF s j H Q I h;refine wpAny_Call_Name_kw (N0 I hg hm hv ?_ hn hdb);exact callWith_builtin1 (Z3 (ha pos XF s j H _ I h) fun us s1 ⟨vs,H1,I1,r1,q1⟩=>hc XF s1 j H1 vs us Q I1 r1 q1) he Ij
theorem Wa(hc:Y5 X (.type T) r)(hg:Gl X x)(hm:X.mg x=none)(hv:bootBuiltins x=some (.type T))(ha:PA X (e::es) t)(hn:x ≠ "__name__" := by decide)(hdb:(x == ("__debug__" : Str))=false:=by decide)
  (he:starEach (e::es) X.env=(false,eval e X.env)::starEach es X.env:=by rfl) (Ij:(backTo pos (starEach es X.env)).any (·.1)=false:=by rfl):PE X (.Call (.Name x p) (e::es) [] pos) (tCB r t):=by
 intro XF s j H Q I h;refine wpAny_Call_Name_kw (N0 I hg hm hv ?_ hn hdb);exact callWith_type1 (Z3 (ha pos XF s j H _ I h) fun us s1 ⟨vs,H1,I1,r1,q1⟩=>hc XF s1 j H1 vs us Q I1 r1 q1) he Ij
end
end L2
namespace HT
open PySem PyProof.Rows
section
open PySem.SeqAt
open PySem.AutoSeq1 (wpAny_loadPart')
open PySem.MeetsSeq PySem.MeetsSeq2 PySem.MeetsSeq3
end
section
variable{prog:Program}{w:World}{A:Around}{E:ZW}{s:Shared}
theorem Zzl{t b:Addr}{vs ws:ZM}{Q:ZW}(ht:IsTup s.heap t vs.toArray)(hb:IsTup s.heap b ws.toArray)(hv:vs≠[])
  (h1:ws=[]->Q (.ref t) s) (h2:ws≠[]->Q (.ref s.heap.objs.size) { s with heap:=s.heap.push { cls:=.type "tuple",data:=.seq (vs++ws).toArray } })
  (hsz:vs.length+ws.length<=sizeLine):wpAny (model prog w) A (binaryOp .Add (.ref t) (.ref b)) Q E s:=by
 obtain⟨⟨cls,dd,data,sl⟩,ho,hc,n,hd⟩:=id ht;obtain⟨⟨cls2,dd2,data2,sl2⟩,ho2,hc2,n2,hd2⟩:=id hb;simp only at hc hd hc2 hd2;subst hc hd hc2 hd2;have e:vs.toArray++ws.toArray=(vs++ws).toArray:=by simp
 by_cases hw:ws=[]
 .exact concat_meets ⟨_,ho,rfl⟩ ⟨_,ho2,rfl⟩ noFill_tuple_add seq_tuple_add PySem.F.slot_tuple_add PySem.F.entry_tuple_add (PySem.F.args_tuple_add_2 _ _)
   (tuple_addW1 t b vs.toArray ws.toArray n n2 dd dd2 sl sl2 (by simpa using hv) (by simp[hw])) ⟨ho,ho2,h1 hw⟩
 .refine concat_meets ⟨_,ho,rfl⟩ ⟨_,ho2,rfl⟩ noFill_tuple_add seq_tuple_add PySem.F.slot_tuple_add PySem.F.entry_tuple_add (PySem.F.args_tuple_add_2 _ _)
   (tuple_addW2 t b vs.toArray ws.toArray n n2 dd dd2 sl sl2 (by simpa using hv) (by simpa using hw) (by rw[V7,V7];exact hsz)) ⟨ho,ho2, ?_⟩
  rw[e];exact h2 hw
noncomputable def Ym(n d:Nat):ZR->Nat
 | none=>d
 | some v=>if v<0 then (v+(n:Int)).toNat else min v.toNat n
theorem uk(n d k:Nat):Ym n d (some (k:Int))=min k n:=by
 show (if (k:Int)<0 then ((k:Int)+(n:Int)).toNat else min (k:Int).toNat n)=min k n;rw[if_neg (by omega),XG]
theorem sIx_le(n d:Nat)(hd:d<=n)(o:ZR):Ym n d o<=n:=by
 cases o with
 | none=>exact hd
 | some v =>
  show (if v<0 then (v+(n:Int)).toNat else min v.toNat n)<=n;by_cases hv:v<0
  .rw[if_pos hv];omega
  .rw[if_neg hv];exact Nat.min_le_right _ _
theorem Ii(v:Int)(n d:Nat):(if v<0 then max (v+(n:Int)) 0 else min v (n:Int))=((Ym n d (some v):Nat):Int):=by
 show (if v<0 then max (v+(n:Int)) 0 else min v (n:Int))=(((if v<0 then (v+(n:Int)).toNat else min v.toNat n):Nat):Int);by_cases hv:v<0
 .simp only[if_pos hv];omega
 .simp only[if_neg hv];omega
theorem Hx(lo hi:ZR)(n:Nat):Builtin.Slice.sliceAdjust lo hi 1 (n:Int)=(((Ym n 0 lo:Nat):Int),((Ym n n hi:Nat):Int)):=by
 have h1:¬ ((1:Int)<0):=by omega
 unfold Builtin.Slice.sliceAdjust;simp only[h1,if_false];refine Prod.ext ?_ ?_
 .cases lo with
  | none=>rfl
  | some v=>exact Ii v n 0
 .cases hi with
  | none=>rfl
  | some v=>exact Ii v n n
theorem E9(i j:Nat):Builtin.Slice.slicePlaces (i:Int) (j:Int) 1=j - i:=by
 unfold Builtin.Slice.slicePlaces;have h1:(1:Int)>0:=by omega
 simp only[h1,if_true,Int.ediv_one]
 split<;>omega
theorem T6{v:Value}{o:ZR}{Q:ZR->Shared->Prop}(p:IsPart v o)(h:Q o s):wpAny (model prog w) A (Builtin.Slice.slicePartIndex v) Q E s:=by
 cases p with
 | none=>exact slicePart_none h
 | int i t=>exact slicePart_int h
theorem U3{sl:Addr}{vl vu:Value}{lo hi:ZR}{n:Nat}{Q:Int×Int×Nat->Shared->Prop}(hs:s.heap.IsSliceOf sl vl vu .none)(pl:IsPart vl lo)(pu:IsPart vu hi)
  (h:Q (((Ym n 0 lo:Nat):Int),1,Ym n n hi - Ym n 0 lo) s):wpAny (model prog w) A (Builtin.Slice.sliceApplied (.ref sl) (pure (n:Int))) Q E s:=by
 obtain⟨os,hos,hcs,hds⟩:=id hs;unfold Builtin.Slice.sliceApplied Builtin.Slice.sliceFields;refine Zb (Zb (wpAny_field hos hds (x:=vl) rfl (Zb (wpAny_field hos hds (x:=vu) rfl (Zb (wpAny_field hos hds (x:=.none) rfl (Yg ?_)))))));refine Zb (slicePart_none ?_);show wpAny _ _ (if ((1:Int) == 0)=true then _ else _) _ _ s;rw[if_neg (by decide)];refine Zb (T6 pl (Zb (T6 pu (Zb (Yg ?_)))));show wpAny _ _ (match Builtin.Slice.sliceAdjust lo hi 1 (n:Int) with | (lo,hi)=>pure (lo,(1:Int),Builtin.Slice.slicePlaces lo hi 1)) _ _ s;rw[Hx lo hi n];show wpAny _ _ (pure (((Ym n 0 lo:Nat):Int),(1:Int),Builtin.Slice.slicePlaces ((Ym n 0 lo:Nat):Int) ((Ym n n hi:Nat):Int) 1)) _ _ s;rw[E9];exact Yg h
theorem kj(xs:ZN)(i k:Nat):((List.range k).filterMap fun(m:Nat)=>xs[((i:Int)+(m:Int) * 1).toNat]?).toArray=((xs.toList.drop i).take k).toArray:=by
 have e:(fun(m:Nat)=>xs[((i:Int)+(m:Int) * 1).toNat]?)=fun m=>xs[i+m]?:=by
  funext m
  have:((i:Int)+(m:Int) * 1).toNat=i+m:=by omega
  rw[this]
 rw[e];have:=pick_run xs i k;rw[List.filterMap_map]at this;have e2:((fun x=>xs[x]?) ∘ fun x=>i+x)=fun m=>xs[i+m]?:=rfl;rw[e2]at this;rw[this]
theorem Mh{t sl:Addr}{items:ZN}{vl vu:Value}{lo hi:ZR}{Q:ZW}(ht:IsTup s.heap t items)(hs:s.heap.IsSliceOf sl vl vu .none)(pl:IsPart vl lo)(pu:IsPart vu hi)
  (hw:¬ (Ym items.size 0 lo=0/\Ym items.size items.size hi=items.size))
  (h:Q (.ref s.heap.objs.size) { s with heap:=s.heap.push { cls:=.type "tuple",data:=.seq ((items.toList.drop (Ym items.size 0 lo)).take (Ym items.size items.size hi - Ym items.size 0 lo)).toArray } })
  (hsz:items.size<=sizeLine):wpAny (model prog w) A (getItem (.ref t) (.ref sl)) Q E s:=by
 have Iq:sizeOk (.seq ((items.toList.drop (Ym items.size 0 lo)).take (Ym items.size items.size hi - Ym items.size 0 lo)).toArray):=by
  show ((items.toList.drop (Ym items.size 0 lo)).take (Ym items.size items.size hi - Ym items.size 0 lo)).toArray.size<=sizeLine;rw[V7,L0t,List.length_drop,S9];omega
 have hj:Ym items.size items.size hi<=items.size:=sIx_le _ _ (Yz _) hi;obtain⟨os,hos,hcs,hds⟩:=id hs;have hTs:s.TypeIs (.ref sl) "slice" := ⟨os,hos,hcs⟩;unfold getItem
 try with_reducible refine wpAny_holding ?_
 first | refine Zb (Yg ?_) | skip
 refine Zb (wpAny_sequenceKey ht.typeIs (by decide) ?_)
 refine Zb (wpAny_callSpecial?_slot (name:=Str.ofString "__getitem__") ht.typeIs slot_tuple_getitem
  (wpAny_call_entry slot_tuple_getitem ht.typeIs entry_tuple_getitem ?_ (args_tuple_getitem _ _)))
 show wpAny _ _ (Builtin.Tuple.tupleItemsOf (.ref t) >>= _) _ _ s;refine Zb (tupleItemsOf_ ht ?_);refine Zb (wpAny_typeOf hTs ?_);rw[if_pos (by decide)];refine Zb (U3 hs pl pu ?_)
 have hno:¬ ((((Ym items.size 0 lo:Nat):Int) == 0 && (1:Int) == 1 && (Ym items.size items.size hi - Ym items.size 0 lo) == items.size)=true):=by
  intro q;rw[Ya,Ya]at q;have q1:((Ym items.size 0 lo:Nat):Int)=0:=eq_of_beq q.1.1;have q2:Ym items.size items.size hi - Ym items.size 0 lo=items.size:=eq_of_beq q.2;exact hw ⟨by omega,by omega⟩
 show wpAny _ _ (if (((Ym items.size 0 lo:Nat):Int) == 0 && (1:Int) == 1 && (Ym items.size items.size hi - Ym items.size 0 lo) == items.size)=true then _ else _) _ _ s;rw[if_neg hno,kj]
 first
  | exact Zb (m:=Builtin.Tuple.tupleExact _) (wpAny_newObj_type (Yg ⟨_,rfl,Yg h⟩) Iq)
  | exact Zb (m:=Builtin.Tuple.tupleExact _) (wpAny_newObj_type (Zb (Yg (Yg ⟨_,rfl,Yg h⟩))) Iq)
  | exact Zb (Zb (m:=Builtin.Tuple.tupleExact _) (wpAny_newObj_type (Yg (Yg ⟨_,rfl,Yg h⟩)) Iq))
  | exact Zb (Zb (m:=Builtin.Tuple.tupleExact _) (wpAny_newObj_type (Yg ⟨_,rfl,Yg h⟩) Iq))
end
end HT
namespace L2
open PySem PySem.Spec PyProof.Rows
abbrev TO:=St->Hp->(ZR->Hp->Prop)->Prop
def PO(X:Cx)(e:Option Expr)(t:TO):Prop :=
 ∀(XF:ZY) (s:Shared) (j:St) (H:Hp) (Q:ZR->Hp->Prop),Inv X XF j H s->t j H Q ->
  wpAny (model X.prog X.w) X.A (evalPart e X.env) (fun u s'=>∃o H',Inv X XF j H' s'/\IsPart u o/\Q o H') X.xe s
def rm:TO:=fun _ H Q=>Q none H
inductive Hn(Q:(ZR->Hp->Prop))(x:V)(H1:Hp):Prop
 | mk(i)(Vj:x=.int i)(Vq:Q (some i) H1):Hn Q x H1
def tPart(t:TE):TO:=fun j H Q=>t j H fun x H1=>Hn Q x H1
section
variable{X:Cx}{e:Expr}{te:TE}{lo hi:Option Expr}{tl th:TO}{pos p2:Pos}
theorem Ah:PO X none rm:=by
 intro XF s j H Q I h;rw[evalPart_none];exact Yg ⟨none,H,I,.none,h⟩
theorem Tn(h:PE X e te):PO X (some e) (tPart te):=by
 intro XF s j H Q I hw;rw[evalPart_some];refine Z3 (h XF s j H _ I hw) fun u s1 ⟨x,H1,I1,r1,q1⟩=>?_;obtain⟨i,rfl,q⟩:=q1;obtain⟨t,rfl⟩:=r1;exact⟨some i,H1,I1,.int i t,q⟩
def SlR(X:Cx)(r:V->ZR->ZR->Hp->VK->Prop):Prop :=
 ∀(XF:ZY) (s:Shared) (j:St) (H:Hp) (x:V) (v vl vu:Value) (lo hi:ZR) (sl:Addr) (Q:VK),Inv X XF j H s->RelV x v->s.heap.IsSliceOf sl vl vu .none->IsPart vl lo->IsPart vu hi->r x lo hi H Q ->
  ∃T id,typeLookup (.type T) "__getitem__" = pure (some (.builtin id))/\s.TypeIs v T/\wpAny (model X.prog X.w) X.A (getItem v (.ref sl)) (EP X XF j Q) X.xe s
def tSl(r:V->ZR->ZR->Hp->VK->Prop)(te:TE)(tl th:TO):TE:=fun j H Q=>te j H fun x H1=>tl j H1 fun l H2=>th j H2 fun u H3=>r x l u H3 Q
theorem Cw{r:V->ZR->ZR->Hp->VK->Prop}(hr:SlR X r)(he:PE X e te)(hl:PO X lo tl)(hu:PO X hi th):PE X (.Subscript e (.Slice lo hi none p2) pos) (tSl r te tl th):=by
 intro XF s j H Q I h;refine Subscript_ (Z3 (he XF s j H _ I h) fun v s1 ⟨x,H1,I1,r1,q1⟩=>?_);refine wpAny_Slice (Z3 (hl XF s1 j H1 _ I1 q1) fun vl s2 ⟨l,H2,I2,pl,q2⟩=>Z3 (hu XF s2 j H2 _ I2 q2) fun vu s3 ⟨u,H3,I3,pu,q3⟩=>?_);rw[evalPart_none];refine Yg ?_;have I4:Inv X XF j H3 { s3 with heap:=s3.heap.push { cls:=.type "slice",data:=.fields #[vl,vu,.none] } }:=I3.kept (t':=s3.toks) fun b ob q=>Yi _ q;obtain⟨T,id,hT,ht,hg⟩:=hr XF { s3 with heap:=s3.heap.push { cls:=.type "slice",data:=.fields #[vl,vu,.none] } } j H3 x v vl vu l u s3.heap.objs.size Q I4 r1 (Heap.IsSliceOf.new ..) pl pu q3;show wpAny (model X.prog X.w) X.A (subscriptTail e (.Slice lo hi none p2) v (.ref s3.heap.objs.size)) (EP X XF j Q) X.xe { s3 with heap:=s3.heap.push { cls:=.type "slice",data:=.fields #[vl,vu,.none] } };exact tail_any (ops:=[.ref s3.heap.objs.size,v]) ht hT hg (by with_unfolding_all rfl)
noncomputable def C2(xs:ZQ)(lo hi:ZR):ZQ:=(xs.drop (HT.Ym xs.length 0 lo)).take (HT.Ym xs.length xs.length hi - HT.Ym xs.length 0 lo)
theorem Us(xs:ZQ)(lo hi:ZR):(C2 xs lo hi).length<=xs.length:=by
 unfold C2;rw[L0t,List.length_drop];omega
inductive yr(K:W.Frag)(x:V)(lo:ZR)(hi:ZR)(H:Hp)(Q:VK):Prop
 | mk(a xs)(Vj:x=.ref a)(Vq:Vy K H a xs)(Jd:¬ (HT.Ym xs.length 0 lo=0/\HT.Ym xs.length xs.length hi=xs.length))(Km:∀p,H p=none->Q (.ref p) (upd H p (.tup (C2 xs lo hi)))):yr K x lo hi H Q
def rSlT(K:W.Frag):V->ZR->ZR->Hp->VK->Prop:=fun x lo hi H Q=>yr K x lo hi H Q
theorem sl_tup:SlR X (rSlT X.K):=by
 intro XF s j H x v vl vu lo hi sl Q I rx hs pl pu h;obtain⟨a,xs,rfl,hx,hw,q⟩:=h;cases rx;obtain⟨its,r,ht,hz⟩:=I.tuple hx;have hlen:its.toArray.size=xs.length:=by rw[V7];exact r.length.symm
 refine⟨"tuple",_,slot_tuple_getitem.lookup,ht.typeIs, ?_⟩;refine HT.Mh ht hs pl pu (by rw[hlen];exact hw) ?_ (by rw[hlen];exact hz);rw[hlen];refine⟨.ref s.heap.objs.size,_,I.laid (t':=s.toks) (o:=.tup (C2 xs lo hi)) (fun b ob q=>Yi _ q) (Yz _) ?_,rfl,q _ (I.hok.fresh (Yz _))⟩;exact⟨Uu (Us xs lo hi) hz,_,(r.drop (HT.Ym xs.length 0 lo)).take (HT.Ym xs.length xs.length hi - HT.Ym xs.length 0 lo),Wv.new _ _⟩
inductive Am(K:W.Frag)(x:V)(y:V)(H:Hp)(Q:VK):Prop
 | mk(a b xs ys)(Vj:x=.ref a)(Vq:y=.ref b)(Jd:Vy K H a xs)(Km:Vy K H b ys)(h4_:xs≠[])(h5_:xs.length+ys.length<=sizeLine)(h6_:(ys=[]->Q (.ref a) H))(h7_:(ys≠[]->∀p,H p=none->Q (.ref p) (upd H p (.tup (xs++ys))))):Am K x y H Q
def rCatT(K:W.Frag):R2:=fun x y H Q=>Am K x y H Q
theorem Zw.nil_iff{xs:ZQ}{us:ZM}(r:Zw xs us):us=[]↔xs=[]:=by
 cases r with
 | nil=>simp
 | cons _ _=>simp
theorem oy:D5 X (binaryOp .Add) (rCatT X.K):=by
 intro XF s j H x y v u Q I rx ry h;obtain⟨a,b,xs,ys,rfl,rfl,ha,hb,hx,hz,q1,q2⟩:=h;cases rx;cases ry;obtain⟨its,r1,p1,_⟩:=I.tuple ha;obtain⟨its2,r2,p2,_⟩:=I.tuple hb;refine HT.Zzl p1 p2 (fun z=>hx (r1.nil_iff.mp z)) (fun z=>⟨.ref a,H,I,rfl,q1 (r2.nil_iff.mp z)⟩) (fun z=>?_) (by rw[<-r1.length, <-r2.length];exact hz);refine⟨.ref s.heap.objs.size,_,I.laid (t':=s.toks) (o:=.tup (xs++ys)) (fun b ob q=>Yi _ q) (Yz _) ?_,rfl,q2 (fun w=>z (r2.nil_iff.mpr w)) _ (I.hok.fresh (Yz _))⟩;exact⟨by rw[D7];exact hz,_,r1.append r2,Wv.new _ _⟩
end
noncomputable def qm(n:Nat)(i:Int):ZH:=if 0<=i then (if i<n then some i.toNat else none) else if -(n:Int)<=i then some (i+n).toNat else none
noncomputable def Bq{Z:Type}(xs:List Z)(i:Int):Option Z:=(qm xs.length i).bind fun j=>xs[j]?
theorem A5{n:Nat}{i:Int}{j:Nat}(h:qm n i=some j):seqIndex? i n=some j/\j<n/\-(n:Int)<=i/\i<n:=by
 unfold qm at h;by_cases h0:0<=i
 .rw[if_pos h0]at h;by_cases h1:i<n
  .rw[if_pos h1]at h;have e:i.toNat=j:=Dp h;exact⟨by rw[seqIndex_of h0 h1,e],by omega,by omega,h1⟩
  .rw[if_neg h1]at h;cases h
 .rw[if_neg h0]at h;by_cases h1:-(n:Int)<=i
  .rw[if_pos h1]at h;have e:(i+n).toNat=j:=Dp h;exact⟨by rw[seqIndex_neg (by omega) h1,e],by omega,h1,by omega⟩
  .rw[if_neg h1]at h;cases h
theorem Qk{Z:Type}{xs:List Z}{i:Int}{v:Z}(h:Bq xs i=some v):∃j,seqIndex? i xs.length=some j/\xs[j]?=some v/\j<xs.length/\-(xs.length:Int)<=i/\i<xs.length:=by
 unfold Bq at h;cases e:qm xs.length i with
 | none=>rw[e]at h;cases h
 | some j =>
  rw[e]at h;obtain⟨h1,h2,h3,h4⟩:=A5 e;exact⟨j,h1,h,h2,h3,h4⟩
def Xz(b:Expr):Prop:=∀o i,subscripted b false o i=operate [o,i] (getItem o i)
def IxR(X:Cx)(r:R2):Prop :=
 ∀(value slice:Expr) (XF:ZY) (s:Shared) (j:St) (H:Hp) (x y:V) (v u:Value) (Q:VK),Inv X XF j H s->RelV x v->RelV y u->r x y H Q ->
  subscripted slice false v u=operate [v,u] (getItem v u)->wpAny (model X.prog X.w) X.A (subscriptTail value slice v u) (EP X XF j Q) X.xe s
def MtR(X:Cx)(id:String)(r:V->ZQ->Hp->VK->Prop):Prop :=
 ∀(XF:ZY) (s:Shared) (j:St) (H:Hp) (x:V) (xs:ZQ) (v:Value) (us:ZM) (Q:VK),Inv X XF j H s->RelV x v->Zw xs us->r x xs H Q ->
  wpAny (model X.prog X.w) X.A (call (.builtin id) (v::us)) (EP X XF j Q) X.xe s
section
variable{X:Cx}{a b:Expr}{ta tb:TE}{pos:Pos}
theorem pe_ix{r:R2}(hr:IxR X r)(ha:PE X a ta)(hb:PE X b tb)(hs:Xz b):PE X (.Subscript a b pos) (tOp r ta tb):=by
 intro XF s j H Q I h;exact Subscript_ (binT ha hb I h fun v u s2 x y H2 I2 rx ry q=>hr a b XF s2 j H2 x y v u Q I2 rx ry q (hs _ _))
inductive yo(K:W.Frag)(x:V)(y:V)(H:Hp)(Q:VK):Prop
 | mk(p xs i v)(Vj:x=.ref p)(Vq:y=.int i)(Jd:Jj K H p xs)(Km:Bq xs i=some v)(h4_:Q v H):yo K x y H Q
def rIxL(K:W.Frag):R2:=fun x y H Q=>yo K x y H Q
inductive yu(K:W.Frag)(x:V)(y:V)(H:Hp)(Q:VK):Prop
 | mk(p xs i v)(Vj:x=.ref p)(Vq:y=.int i)(Jd:Vy K H p xs)(Km:Bq xs i=some v)(h4_:Q v H):yu K x y H Q
def rIxT(K:W.Frag):R2:=fun x y H Q=>yu K x y H Q
inductive ya(x:V)(y:V)(H:Hp)(Q:VK):Prop
 | mk(z i c)(Vj:x=.str z)(Vq:y=.int i)(Jd:z.length<=sizeLine)(Km:Bq z.cps.toList i=some c)(h4_:Q (.str ⟨#[c]⟩) H):ya x y H Q
def rIxS:R2:=fun x y H Q=>ya x y H Q
theorem iu:IxR X (rIxL X.K):=by
 intro value slice XF s Z H x y v u Q I rx ry h hs;obtain⟨p,xs,i,z,rfl,rfl,hq,he,q⟩:=h;cases rx;obtain⟨t,rfl⟩:=ry;obtain⟨its,r,pl,hz⟩:=I.list hq;obtain⟨j,h1,h2,h3,h4,h5⟩:=Qk he;obtain⟨w,ew,v5⟩:=r.get h2;have hl:=r.length;have hn:=Ni;have fin:EP X XF Z Q w s:=⟨z,H,I,v5,q⟩;by_cases h0:0<=i
 .have hj:i.toNat=j:=by
   rw[seqIndex_of h0 h5]at h1;exact Dp h1
  exact item_listR pl.isList h0 (by omega) (by rw[hj];simpa using ew) fin hs
 .have hj:(i+(its.toArray.size:Int)).toNat=j:=by
   rw[seqIndex_neg (by omega) h4]at h1;rw[V7, <-hl];exact Dp h1
  exact subscriptTail_builtinR (x:=w) pl.isList.typeIs slot_list_getitem.lookup
   (wpAny_getItem_list_neg (Q:=fun r s'=>r=w/\EP X XF Z Q r s') pl.isList (by omega) (by rw[V7]<;>omega) (by omega) (by rw[hj];simpa using ew) ⟨rfl,fin⟩) hs
theorem ix_tup:IxR X (rIxT X.K):=by
 intro value slice XF s Z H x y v u Q I rx ry h hs;obtain⟨p,xs,i,z,rfl,rfl,hq,he,q⟩:=h;cases rx;obtain⟨t,rfl⟩:=ry;obtain⟨its,r,pl,hz⟩:=I.tuple hq;obtain⟨j,h1,h2,h3,h4,h5⟩:=Qk he;obtain⟨w,ew,v5⟩:=r.get h2;have hl:=r.length;have hn:=Ni;have fin:EP X XF Z Q w s:=⟨z,H,I,v5,q⟩
 exact subscriptTail_builtinR (x:=w) pl.typeIs slot_tuple_getitem.lookup
  (getItem_tuple (j:=j) (Q:=fun r s'=>r=w/\EP X XF Z Q r s') pl (by omega) (by omega) (by rw[V7, <-hl];exact h1) (by simpa using ew) ⟨rfl,fin⟩) hs
theorem ix_str:IxR X rIxS:=by
 intro value slice XF s Z H x y v u Q I rx ry h hs;obtain⟨z,i,c,rfl,rfl,hz,he,q⟩:=h;obtain⟨t,rfl⟩:=rx;obtain⟨t',rfl⟩:=ry;obtain⟨j,h1,h2,h3,h4,h5⟩:=Qk he;have hl:z.cps.toList.length=z.length:=by simp[Str.length]
 rw[hl]at h1 h4 h5;have hn:=Ni
 exact tail_any (typeIs_str s z t) slot_str_getitem.lookup (getItem_str (c:=c) (by
  have e1:decide (i < -(2 ^ 63:Int))=false:=Nf (by omega);have e2:decide (i ≥ 2 ^ 63)=false:=Nf (by omega);rw[e1,e2,Bool.or_false]) (by rw[h1];simpa using h2) ⟨.str ⟨#[c]⟩,H,I.tok _,⟨_,rfl⟩,q⟩) hs
theorem Kj(its:ZM)(n j:Nat)(u:Value):Obj.mapSeq (·.setIfInBounds j u) { cls:=.type "list",data:=.seq its.toArray n }={ cls:=.type "list",data:=.seq (its.set j u).toArray n }:=by
 simp[Obj.mapSeq]
theorem Inv.lst{XF:ZY}{j:St}{H:Hp}{s:Shared}{p:Addr}{xs:ZQ}(I:Inv X XF j H s)(h:H p=some (.lst xs)) :
  ∃(its:ZM) (n:Nat),Zw xs its/\s.heap.get? p=some { cls:=.type "list",data:=.seq its.toArray n }/\xs.length<=sizeLine:=by
 obtain⟨z,its,n,r,e⟩:=I.hok p _ h;exact⟨its,n,r,e,z⟩
theorem Inv.lstUpd{XF:ZY}{j:St}{H:Hp}{s:Shared}{p:Addr}{xs ys:ZQ}{its its':ZM}{n n':Nat}{f:Obj->Obj}(I:Inv X XF j H s)(h:H p=some (.lst xs))
  (ho:s.heap.get? p=some { cls:=.type "list",data:=.seq its.toArray n }) (hf:f { cls:=.type "list",data:=.seq its.toArray n }={ cls:=.type "list",data:=.seq its'.toArray n' }) (r:Zw ys its') (hz:ys.length<=sizeLine) (t:Nat) :
  Inv X XF j (upd H p (.lst ys)) { s with heap:=s.heap.update p f,toks:=t }:=by
 have e:(s.heap.update p f).get? p=some { cls:=.type "list",data:=.seq its'.toArray n' }:=by
  rw[Heap.get?_update_self f ho (by rw[hf]<;>rfl),hf]
 refine I.write (x:=p) (e:=p) (by rw[h];trivial) (.inl rfl) (fun b u hb q=>(Heap.get?_update_other _ _ (Ne.symm hb)).trans q) ⟨_,e⟩ ?_;exact⟨hz,its',n',r,e⟩
inductive Ab(o:V)(i:V)(v:V)(H:Hp)(Q:(Hp->Prop)):Prop
 | mk(p xs k j)(Vj:o=.ref p)(Vq:i=.int k)(Jd:H p=some (.lst xs))(Km:qm xs.length k=some j)(h4_:Q (upd H p (.lst (xs.set j v)))):Ab o i v H Q
def rSetL:V->V->V->Hp->(Hp->Prop)->Prop:=fun o i v H Q=>Ab o i v H Q
theorem set_list:PSet X rSetL:=by
 intro XF s Z H o i v ov iv u Q I ro ri rv h;obtain⟨p,xs,k,j,rfl,rfl,hp,hj,q⟩:=h;cases ro;obtain⟨t,rfl⟩:=ri;obtain⟨its,n,r,ho,hz⟩:=I.lst hp;obtain⟨h1,h2,h3,h4⟩:=A5 hj;have hl:=r.length;have hn:=Ni
 have I':Inv X XF Z (upd H p (.lst (xs.set j v))) { s with heap:=s.heap.update p (Obj.mapSeq (·.setIfInBounds j u)) } :=
  I.lstUpd hp ho (Kj its n j u) (r.set rv j) (by rw[XY];exact hz) s.toks
 by_cases h0:0<=k
 .have hk:k.toNat=j:=by
   rw[seqIndex_of h0 h4]at h1;exact Dp h1
  exact W.ki_setAt ho h0 (by omega) (by rw[V7, <-hl];exact h4) (by rw[hk];exact⟨_,I',q⟩)
 .have hk:(k+(its.toArray.size:Int)).toNat=j:=by
   rw[seqIndex_neg (by omega) h3]at h1;rw[V7, <-hl];exact Dp h1
  exact W.ki_setBack ho (by omega) (by rw[V7, <-hl];exact h3) (by omega) (by rw[hk];exact⟨_,I',q⟩)
theorem Lo(lo hi:ZR)(n:Nat):(sliceBounds lo hi none n).1=((HT.Ym n 0 lo:Nat):Int)/\(sliceBounds lo hi none n).2.1=((HT.Ym n n hi:Nat):Int)/\(sliceBounds lo hi none n).2.2=1:=by
 refine⟨?_, ?_,rfl⟩
 .cases lo with
  | none=>simp[sliceBounds,HT.Ym]
  | some i =>
   simp only[sliceBounds,HT.Ym,Option.getD_none,show (1:Int)>0 by decide,if_true];by_cases h:i<0
   .simp only[h,if_true]<;>omega
   .simp only[h,if_false]<;>omega
 .cases hi with
  | none=>simp[sliceBounds,HT.Ym]
  | some i =>
   simp only[sliceBounds,HT.Ym,Option.getD_none,show (1:Int)>0 by decide,if_true];by_cases h:i<0
   .simp only[h,if_true]<;>omega
   .simp only[h,if_false]<;>omega
theorem Ro(its:ZM)(lo hi:ZR):slicePick its.toArray lo hi none=((its.drop (HT.Ym its.length 0 lo)).take (HT.Ym its.length its.length hi - HT.Ym its.length 0 lo)).toArray:=by
 obtain⟨h1,h2,h3⟩:=Lo lo hi its.toArray.size;unfold slicePick;rw[h1,h2,h3];simp only[sliceRange_one,pick_run,V7]<;>rfl
inductive yh(K:W.Frag)(x:V)(lo:ZR)(hi:ZR)(H:Hp)(Q:VK):Prop
 | mk(a xs)(Vj:x=.ref a)(Vq:Jj K H a xs)(Jd:∀p,H p=none->Q (.ref p) (upd H p (.lst (C2 xs lo hi)))):yh K x lo hi H Q
def rSlL(K:W.Frag):V->ZR->ZR->Hp->VK->Prop:=fun x lo hi H Q=>yh K x lo hi H Q
theorem p5:SlR X (rSlL X.K):=by
 intro XF s j H x v vl vu lo hi sl Q I rx hs pl pu h;obtain⟨a,xs,rfl,hx,q⟩:=h;cases rx;obtain⟨its,r,ht,hz⟩:=I.list hx;have hlen:=r.length;refine⟨"list",_,slot_list_getitem.lookup,ht.isList.typeIs, ?_⟩;refine wpAny_getItem_list_slice ht.isList hs pl pu .none (by simp) ?_ (by rw[V7]<;>omega);rw[Ro, <-hlen];refine⟨.ref s.heap.objs.size,_,I.laid (t':=s.toks) (o:=.lst (C2 xs lo hi)) (fun b ob q=>Yi _ q) (Yz _) ?_,rfl,q _ (I.hok.fresh (Yz _))⟩;exact⟨Uu (Us xs lo hi) hz,_,0,(r.drop (HT.Ym xs.length 0 lo)).take (HT.Ym xs.length xs.length hi - HT.Ym xs.length 0 lo),Dv _ rfl⟩
def U8:V->Bool
 | .non=>true
 | .bl _=>true
 | .int _=>true
 | .str _=>true
 | _=>false
noncomputable def ny:V->V->Bool
 | .non,.non=>true
 | .bl a,.bl b=>a == b
 | .bl a,.int b=>(if a then 1 else 0) == b
 | .int a,.bl b=>a == (if b then 1 else 0)
 | .int a,.int b=>a == b
 | .str a,.str b=>a == b
 | _,_=>false
theorem Fe{A:Around}{s:Shared}{y x:V}{u v:Value}(ry:RelV y u)(rx:RelV x v)(fy:U8 y=true)(fx:U8 x=true):SeqAt.EqAt A s u v (ny y x):=by
 cases y with
 | non =>
  cases ry;cases x with
  | non=>cases rx;exact SeqAt.EqAt.same _
  | bl b=>cases rx;exact SeqAt.EqAt.none_bool b
  | int b=>obtain⟨t,rfl⟩:=rx;exact SeqAt.EqAt.none_int b t
  | str b=>obtain⟨t,rfl⟩:=rx;exact SeqAt.EqAt.none_str b t
  | _=>exact absurd (show false=true from fx) B5
 | bl a =>
  cases ry;cases x with
  | non=>cases rx;exact SeqAt.EqAt.bool_none a
  | bl b=>cases rx;exact SeqAt.EqAt.bool_bool a b
  | int b=>obtain⟨t,rfl⟩:=rx;exact SeqAt.EqAt.bool_int a b t
  | str b=>obtain⟨t,rfl⟩:=rx;exact SeqAt.EqAt.bool_str a b t
  | _=>exact absurd (show false=true from fx) B5
 | int a =>
  obtain⟨t',rfl⟩:=ry;cases x with
  | non=>cases rx;exact SeqAt.EqAt.int_none a t'
  | bl b=>cases rx;exact SeqAt.EqAt.int_bool a t' b
  | int b=>obtain⟨t,rfl⟩:=rx;exact SeqAt.EqAt.int_int a t' b t
  | str b=>obtain⟨t,rfl⟩:=rx;exact SeqAt.EqAt.int_str a t' b t
  | _=>exact absurd (show false=true from fx) B5
 | str a =>
  obtain⟨t',rfl⟩:=ry;cases x with
  | non=>cases rx;exact SeqAt.EqAt.str_none a t'
  | bl b=>cases rx;exact SeqAt.EqAt.str_bool a t' b
  | int b=>obtain⟨t,rfl⟩:=rx;exact SeqAt.EqAt.str_int a t' b t
  | str b=>obtain⟨t,rfl⟩:=rx;exact SeqAt.EqAt.str_str a t' b t
  | _=>exact absurd (show false=true from fx) B5
 | _=>exact absurd (show false=true from fy) B5
noncomputable def nk(x:V)(u:Value):Bool:=match u with
 | .none=>ny .non x
 | .bool b=>ny (.bl b) x
 | .int i _=>ny (.int i) x
 | .str z _=>ny (.str z) x
 | _=>false
theorem dz{x y:V}{u:Value}(r:RelV y u)(f:U8 y=true):nk x u=ny y x:=by
 cases y with
 | non=>cases r;rfl
 | bl b=>cases r;rfl
 | int i=>obtain⟨t,rfl⟩:=r;rfl
 | str z=>obtain⟨t,rfl⟩:=r;rfl
 | _=>exact absurd (show false=true from f) B5
theorem Pe{A:Around}{s:Shared}{x:V}{v:Value}(rx:RelV x v)(fx:U8 x=true):∀{xs:ZQ} {us:ZM},Zw xs us->xs.all U8=true->∀u∈us,SeqAt.EqAt A s u v (nk x u)
 | _,_,.nil,_=>fun u hu=>by cases hu
 | y::xs,u::us,.cons r t,f=>fun u' hu=>by
  rw[List.all_cons,Ya]at f;rcases Y6.mp hu with rfl | hu
  .rw[dz r f.1];exact Fe r rx f.1 fx
  .exact Pe rx fx t f.2 u' hu
inductive Gn(K:W.Frag)(xs:ZQ)(H:Hp)(Q:VK):Prop
 | mk(p ys)(Vj:xs=[.ref p])(Vq:(Jj K H p ys\/Vy K H p ys))(Jd:Q (.int ys.length) H):Gn K xs H Q
theorem Nx:Y5 X (.builtin "len") (fun xs H Q=>Gn X.K xs H Q):=by
 intro XF s j H xs us Q I r h;obtain⟨p,ys,rfl,hq,q⟩:=h;obtain⟨u,rfl,rx⟩:=vals1 r;cases rx;have hn:=Ni;rcases hq with hq | hq
 .obtain⟨its,r',pl,hz⟩:=I.list hq;have hlen:=r'.length;exact Calls.call_len_list pl.isList (by simp only[V7]<;>omega) ⟨.int ys.length,H,I.tok _,⟨s.toks+1,by rw[V7,hlen]⟩,q⟩
 .obtain⟨its,r',pl,hz⟩:=I.tuple hq;have hlen:=r'.length;exact len_tuple pl (by simp only[V7]<;>omega) ⟨.int ys.length,H,I.tok _,⟨s.toks+1,by rw[V7,hlen]⟩,q⟩
inductive Gc(K:W.Frag)(xs:ZQ)(H:Hp)(Q:VK):Prop
 | mk(p ys)(Vj:xs=[.ref p])(Vq:(Jj K H p ys\/Vy K H p ys))(Jd:∀l,H l=none->Q (.ref l) (upd H l (.lst ys))):Gc K xs H Q
theorem Qj:Y5 X (.type "list") (fun xs H Q=>Gc X.K xs H Q):=by
 intro XF s j H xs us Q I r h;obtain⟨p,ys,rfl,hq,q⟩:=h;obtain⟨u,rfl,rx⟩:=vals1 r;cases rx
 have fin:∀(its:ZM),Zw ys its->ys.length<=sizeLine->∀(h':Heap) (c':Nat),(∀b o',s.heap.get? b=some o'->h'.get? b=some o') ->
   h'.get? s.heap.objs.size=some { cls:=.type "list",dict:=none,data:=.seq its.toArray c',slots:=#[] }->EP X XF j Q (.ref s.heap.objs.size) { s with heap:=h' }:=fun its r' hz h' c' kp e =>
  ⟨.ref s.heap.objs.size,_,I.laid (t':=s.toks) kp (Yz _) (show Zh X.prog X.w _ h' _ (.lst ys) from⟨hz,its,c',r',e⟩),rfl,q _ (I.hok.fresh (Yz _))⟩
 rcases hq with hq | hq
 .obtain⟨its,r',pl,hz⟩:=I.list hq;have hlen:=r'.length;obtain⟨o,ho,hc,n,hd⟩:=pl.isList;exact call_list_seq p (.inl rfl) ho hc hd (fun h' c' kp e=>fin its r' hz h' c' kp e) (by simp only[V7]<;>omega)
 .obtain⟨its,r',pl,hz⟩:=I.tuple hq;have hlen:=r'.length;obtain⟨o,ho,hc,n,hd⟩:=pl;exact call_list_seq p (.inr rfl) ho hc hd (fun h' c' kp e=>fin its r' hz h' c' kp e) (by simp only[V7]<;>omega)
inductive J4(K:W.Frag)(xs:ZQ)(H:Hp)(Q:VK):Prop
 | mk(p ys)(Vj:xs=[.ref p])(Vq:((Jj K H p ys/\∀l,H l=none->Q (.ref l) (upd H l (.tup ys)))\/(Vy K H p ys/\Q (.ref p) H))):J4 K xs H Q
theorem Wq:Y5 X (.type "tuple") (fun xs H Q=>J4 X.K xs H Q):=by
 intro XF s j H xs us Q I r h;obtain⟨p,ys,rfl,h⟩:=h;obtain⟨u,rfl,rx⟩:=vals1 r;cases rx;rcases h with ⟨hq,q⟩ | ⟨hq,q⟩
 .obtain⟨its,r',pl,hz⟩:=I.list hq;have hlen:=r'.length;refine call_tuple_list pl.isList (fun h' kp=>?_) (by simp only[V7]<;>omega);have I1:Inv X XF j H { s with heap:=h' }:=I.kept (t':=s.toks) kp
  have I2:Inv X XF j (upd H h'.objs.size (.tup ys)) { s with heap:=h'.push { cls:=.type "tuple",data:=.seq its.toArray } } :=
   I1.laid (t':=s.toks) (fun b o e=>Yi _ e) (Yz _) (show Zh X.prog X.w _ _ _ (.tup ys) from⟨hz,its,r',Wv.new _ _⟩)
  exact⟨.ref h'.objs.size,_,I2,rfl,q _ (I1.hok.fresh (Yz _))⟩
 .obtain⟨its,r',pl,hz⟩:=I.tuple hq;exact call_tuple_same pl ⟨.ref p,H,I,rfl,q⟩
def tyV(K:W.Frag)(T:String)(x:V)(H:Hp):Prop:=match x with
 | .str _=>T = "str"
 | .int _=>T = "int"
 | .ref p=>(T = "list" /\ ∃xs,Jj K H p xs)\/(T = "tuple" /\ ∃o,K.lookup p=some o/\o.cls=.type "tuple" /\ o.dict=none) \/
   (T = "dict" /\ ((∃XB,H p=some (.dK XB))\/∃XB,H p=some (.dT XB)))\/(T = "set" /\ ∃S n,H p=some (.set S n))
 | _=>False
theorem wq{XF:ZY}{j:St}{H:Hp}{s:Shared}{T:String}{x:V}{v:Value}(I:Inv X XF j H s)(r:RelV x v)(ty:tyV X.K T x H) :
  s.TypeIs v T/\∀a,v=.ref a->∃ob,s.heap.get? a=some ob/\ob.dict=none:=by
 cases x with
 | str z =>
  obtain⟨t,rfl⟩:=r;cases(show T = "str" from ty);exact⟨typeIs_str s z t,fun _ e=>nomatch e⟩
 | int i =>
  obtain⟨t,rfl⟩:=r;cases(show T = "int" from ty);exact⟨typeIs_int s i t,fun _ e=>nomatch e⟩
 | ref p =>
  cases r;rcases ty with ⟨rfl,xs,hq⟩ | ⟨rfl,o,hk,hc,hd⟩ | ⟨rfl,hk⟩ | ⟨rfl,S,n,hk⟩
  .obtain⟨its,_,pl,_⟩:=I.list hq;refine⟨pl.isList.typeIs,fun a e=>?_⟩;cases e;obtain⟨o,n,e,c,hd,_⟩:=pl;exact⟨o,e,hd⟩
  .refine⟨⟨o,I.kIn p o hk,hc⟩,fun a e=>?_⟩;cases e;exact⟨o,I.kIn _ o hk,hd⟩
  .have z:∃o,s.heap.get? p=some o/\o.ExactDict:=by
    rcases hk with ⟨XB,hk⟩ | ⟨XB,hk⟩
    .obtain⟨_,_,_,_,o,_,_,e,ex,_⟩:=I.hok p _ hk;exact⟨o,e,ex⟩
    .obtain⟨_,_,_,_,o,_,_,e,ex,_⟩:=I.hok p _ hk;exact⟨o,e,ex⟩
   obtain⟨o,e,ex⟩:=z;refine⟨⟨o,e,ex.1⟩,fun a e2=>?_⟩;cases e2;exact⟨o,e,ex.2.1⟩
  .obtain⟨o,_,_,_,e,ex,_⟩:=I.hok p _ hk;refine⟨⟨o,e,ex.1⟩,fun a e2=>?_⟩;cases e2;exact⟨o,e,ex.2.1⟩
 | _=>exact False.elim ty
def tBM0(K:W.Frag)(T:String)(r:V->ZQ->Hp->VK->Prop)(to:TE):TE:=fun j H Q=>to j H fun x H1=>tyV K T x H1/\r x [] H1 Q
def tBM(K:W.Frag)(T:String)(r:V->ZQ->Hp->VK->Prop)(to:TE)(t:TA):TE:=fun j H Q=>to j H fun x H1=>tyV K T x H1/\t j H1 fun xs H2=>r x xs H2 Q
variable{o e:Expr}{es:ZC}{to:TE}{t:TA}{name:Str}{apos cpos:Pos}{T id:String}{r:V->ZQ->Hp->VK->Prop}
theorem pe_bm0(pa:PlainAttrs T)(slot:Slot T name id)(hty:typeOf (.builtin id)=pure (.type "method_descriptor"))(hm:MtR X id r)(ho:PE X o to)
  (Ms:attributeBase o name X.env (eval o X.env)=eval o X.env:=by rfl) (Uw:(apos.endLine == cpos.line)=true:=by rfl):PE X (.Call (.Attribute o name apos) [] [] cpos) (tBM0 X.K T r to):=by
 intro XF s j H Q I h;refine wpAny_Call_method0_late Ms Uw (Z3 (ho XF s j H _ I h) fun v s1 ⟨x,H1,I1,r1,ty,q1⟩=>?_);obtain⟨h1,h2⟩:=wq I1 r1 ty;exact⟨T,id,pa,slot,hty,h1,h2,Calls.callWith_builtin rfl (PySem.evalArgs_none (hm XF s1 j H1 x [] v [] Q I1 r1 .nil q1))⟩
theorem Pt(pa:PlainAttrs T)(slot:Slot T name id)(hty:typeOf (.builtin id)=pure (.type "method_descriptor"))(hm:MtR X id r)(ho:PE X o to)(ha:PA X (e::es) t)
  (Ms:attributeBase o name X.env (eval o X.env)=eval o X.env:=by rfl)
  (hfew:((backTo cpos (starEach (e::es) X.env)).all (fun x=>!x.1) && (backToKw cpos (keywordEach [] X.env)).all (fun x=>x.1.isSome)
   && decide ((e::es).length+([]:List Keyword).length+(if ([]:List Keyword).isEmpty then 0 else 1)<30))=true:=by rfl)
  (Uw:(apos.endLine == cpos.line)=true:=by rfl) (hs:starEach (e::es) X.env=(false,eval e X.env)::starEach es X.env:=by rfl) (hplain:(backTo cpos (starEach es X.env)).any (·.1)=false:=by rfl) :
  PE X (.Call (.Attribute o name apos) (e::es) [] cpos) (tBM X.K T r to t):=by
 intro XF s j H Q I h;refine wpAny_Call_method_late Ms hfew Uw rfl (Z3 (ho XF s j H _ I h) fun v s1 ⟨x,H1,I1,r1,ty,q1⟩=>?_);obtain⟨h1,h2⟩:=wq I1 r1 ty;refine⟨T,id,pa,slot,hty,h1,h2, ?_⟩;have hA:=ha cpos XF s1 j H1 _ I1 q1;rw[hs]at hA ⊢;refine Calls.callWith_builtin (by show (false || (backTo cpos (starEach es X.env)).any (·.1))=false;rw[hplain]<;>rfl) (Calls.evalArgs_plain ?_);exact Z3 hA fun us s2 ⟨vs,H2,I2,r2,q2⟩=>hm XF s2 j H2 x vs v us Q I2 r1 r2 q2
end
def MtM(X:Cx)(id:String)(r:V->ZQ->Hp->VK->Prop):Prop :=
 ∀(XF:ZY) (s:Shared) (j:St) (H:Hp) (x:V) (xs:ZQ) (v:Value) (us:ZM) (Q:VK),Inv X XF j H s->RelV x v->Zw xs us->r x xs H Q ->
  wpAny (model X.prog X.w) X.A (call (.builtin id) (v::us)) (EP X XF j Q) X.xe s
theorem Zw.one:∀{x:V} {us:ZM},Zw [x] us->∃u,us=[u]/\RelV x u
 | _,_,.cons r .nil=>⟨_,rfl,r⟩
theorem Zw.zero:∀{us:ZM},Zw [] us->us=[]
 | _,.nil=>rfl
theorem Zw.rep{xs:ZQ}{us:ZM}(h:Zw xs us):∀k:Nat,Zw (List.replicate k xs).flatten (List.replicate k us).flatten
 | 0=>.nil
 | k+1=>by
  rw[List.replicate_succ,List.replicate_succ,List.flatten_cons,List.flatten_cons];exact Zw.append h (Zw.rep h k)
theorem foldl_rep(its:ZM):∀(k:Nat) (acc:ZM),
  List.foldl (fun x1 x2=>x1++x2) acc.toArray (List.replicate k its.toArray)=(acc++(List.replicate k its).flatten).toArray
 | 0,acc=>by simp
 | k+1,acc=>by
  have e:acc.toArray++its.toArray=(acc++its).toArray:=by simp
  have e2:(acc++its)++(List.replicate k its).flatten=acc++(List.replicate (k+1) its).flatten:=by
   rw[List.replicate_succ,List.flatten_cons,XX]
  rw[<-e2, <-foldl_rep its k (acc++its), <-e,List.replicate_succ,List.foldl_cons]
section
variable{X:Cx}{XF:ZY}{j:St}{H:Hp}{s:Shared}{l b:Addr}{xs ys zs:ZQ}
theorem Inv.lset{its its':ZM}{n:Nat}{f:ZN->ZN}{t':Nat}(I:Inv X XF j H s)(hH:H l=some (.lst xs))
  (e:s.heap.get? l=some { cls:=.type "list",data:=.seq its.toArray n }) (hf:f its.toArray=its'.toArray) (hv:Zw ys its') (hz:ys.length<=sizeLine) :
  Inv X XF j (upd H l (.lst ys)) { s with heap:=s.heap.update l (Obj.mapSeq f),toks:=t' }:=by
 have q:=PySem.IsL.update e f;rw[hf]at q;refine I.write (x:=l) (e:=l) (by rw[hH];exact trivial) (.inl rfl) (fun b' u hb hu=>(Heap.get?_update_other s.heap (Obj.mapSeq f) (Ne.symm hb)).trans hu) ⟨_,q⟩ ?_;exact⟨hz,its',_,hv,q⟩
theorem Inv.lnew{its:ZM}{t':Nat}(I:Inv X XF j H s)(hv:Zw ys its)(hz:ys.length<=sizeLine) :
  Inv X XF j (upd H s.heap.objs.size (.lst ys)) { s with heap:=s.heap.push { cls:=.type "list",data:=.seq its.toArray },toks:=t' } :=
 I.laid (fun _ _ q=>Yi _ q) (Yz _) ⟨hz,its,0,hv,Dv _ rfl⟩
theorem Inv.fresh(I:Inv X XF j H s):H s.heap.objs.size=none:=I.hok.fresh (Yz _)
theorem Inv.lstM(I:Inv X XF j H s)(hH:H l=some (.lst xs)):xs.length<=sizeLine/\∃(its:ZM) (n:Nat),Zw xs its/\xs.length=its.length/\s.heap.get? l=some { cls:=.type "list",data:=.seq its.toArray n }:=by
 obtain⟨z,its,n,r,e⟩:=I.hok l _ hH;exact⟨z,its,n,r,r.length,e⟩
theorem gm{n:Nat}(h:n<=sizeLine):Builtin.List.listTooLong n=false:=by
 unfold Builtin.List.listTooLong;exact Nf (by omega)
end
section
variable{X:Cx}
inductive Wh(x:V)(vs:ZQ)(H:Hp)(Q:VK):Prop
 | mk(l xs y)(Vj:x=.ref l)(Vq:vs=[y])(Jd:H l=some (.lst xs))(Km:xs.length<sizeLine)(h4_:Q .non (upd H l (.lst (xs++[y])))):Wh x vs H Q
def ua:V->ZQ->Hp->VK->Prop:=fun x vs H Q=>Wh x vs H Q
theorem We:MtM X "list.append" ua:=by
 intro XF s j H x vs v us Q I rx rv h;obtain⟨l,xs,y,rfl,rfl,hH,hz,q⟩:=h;cases rx;obtain⟨u,rfl,ru⟩:=rv.one;obtain⟨z,its,n,r,hl,e⟩:=I.lstM hH;refine call_meets F.slot_list_append ⟨_,e,rfl⟩ F.entry_list_append (F.args_list_append_2 _ _) (PySem.list_append l its.toArray n u (by rw[V7];omega)) ⟨e, ?_⟩;refine⟨.non,_,I.lset (its':=its++[u]) hH e (by simp) (r.append (.cons ru .nil)) ?_,rfl,q⟩;rw[D7,ZI];omega
theorem len_rep{j:Type}(xs:List j)(k:Nat):(List.replicate k xs).flatten.length=k * xs.length:=by
 induction k with
 | zero=>simp
 | succ k ih=>rw[List.replicate_succ,List.flatten_cons,D7,ih,Nat.succ_mul,Nat.add_comm]
end
section
variable{prog:Program}{w:World}{A:Around}{E:ZW}{s:Shared}
end
section
variable{X:Cx}
end
end L2
namespace Att
open PySem PySem.W PySem.Calls PyProof.Rows
theorem B7{P:Params}{h:Heap}:∀(ns:ZL) (vs:ZM),WellAll P h vs (ns.map WData.int)->IntsAre vs ns:=by
 intro ns
 induction ns with
 | nil =>
  intro vs w;rw[List.map_nil]at w;cases w;exact .nil
 | cons n ns ih =>
  intro vs w;rw[Qn]at w;cases w with
  | cons a b =>
   cases a;exact .cons _ _ (ih _ b)
theorem Xp{l:OpenLaw}{n:Nat}(hn:l.most=some n){P:Params}{h:Heap}{args:List WData}{vals:ZM}
  (eg:l.row.toRowW.claim.pre args=true) (hwl:WellAll P h vals args) :
  ∃a vs ns,vals=[Value.ref a]/\args=[WData.list (ns.map WData.int)]/\h.get? a=some { cls:=.type "list",data:=.seq vs.toArray }/\IntsAre vs ns/\ns.length<=n:=by
 have hsh:WShape.hasAll [] args [.list .int]=true:=(pre_splitW eg).1;have hc:l.pre.holds [] { args:=args }=true:=(pre_splitW eg).2;obtain⟨d,r,rfl,h1,h2⟩:=hasAllW_cons hsh;obtain rfl:=hasAllW_nil h2;obtain⟨xs,rfl,h3⟩:=hasW_list h1;obtain⟨ns,rfl⟩:=items_int h3
 have hlen:ns.length<=n:=by
  unfold OpenLaw.pre at hc
  have h4:(WTm.not (.lt (.lit (.int (n:Int))) (.len (.arg 0)))).holds [] { args:=[.list (ns.map .int)] }=true:=by
   have h4:=(holds_andW hc).1;rw[hn]at h4;exact h4
  have h5:=condW_of h4 (w_not (w_lt w_lit (w_len_list (w_arg rfl))));rw[Z0]at h5;refine Nat.le_of_not_lt fun q=>?_;have q':(n:Int)<((ns.length:Nat):Int):=by omega
  first
   | (rw[Bk q']at h5;exact absurd h5 (by decide))
   | (simp at h5;omega)
 cases hwl with
 | cons w1 w2 =>
  cases w2;cases w1 with
  | list ho hall=>exact⟨_,_,ns,rfl,rfl,ho,B7 ns _ hall,hlen⟩
theorem zw(l:OpenLaw)(args:List WData):l.row.toRowW.claim.post args (.bool true) args=true :=
 postW_of (r:=l.row.toRowW) (X:=(true == true))
  (show WShape.has [] (.bool true) .bool=true by first | rfl | decide | simp[WShape.has,WShape.arms,WShape.armsAll])
  (show (WTm.eq .res (.lit (.bool true))).value [] { args:=args,res:=some (.bool true),after:=args }=some (.bool (true == true)) from w_eq_bool (w_res rfl) w_lit) rfl
theorem Sf{l:OpenLaw}{n:Nat}{q:Program}{loose:ZD}{XP:(ZV)->Heap->Prop}{YP:World->Heap->Prop}{d:DefRec}
  (hn:l.most=some n) (hdf:d.params.defaults=[])
  (call:∀(w:World) (s₀ s₁:Shared) (mg mb:ZV) (fa:Addr) (o:Obj) (pm cd doc:Value) (a:Addr) (vs:ZM) (ns:ZL),
   Ground q loose [] XP w s₀ mg mb s₁.heap->YP w s₁.heap ->
   s₁.heap.get? fa=some o->o.data=.func (docDef d.name d.params d.body d.scope pm cd doc)->s₁.heap.CodeRec cd d.name->mg d.name=some (.ref fa) ->
   s₁.heap.get? a=some { cls:=.type "list",data:=.seq vs.toArray }->IntsAre vs ns->ns.length<=n->s₁.gens=#[] ->
   codeAny (model l.prog w) callerA (.call (.ref fa) ⟨[.ref a],[]⟩) (fun r s'=>r=.ok (.ret (.bool true))/\OldK s₁.heap s'.heap/\s'.os=s₁.os/\AllBare s'.gens) s₁) :
  WalkO q loose XP YP l.row.toRowW d [] (fun f vs=>PySem.call f vs):=by
 intro w s₀ s₁ mg mb G Y fa o pm cd doc dV kV ho hd P9 hD hmg hg args vals as eg hlay hrd hwl hlo;obtain rfl:dV=.none:=Dflts.none hD hdf;obtain rfl:kV=.none:=Dflts.noKw hD;obtain⟨a,vs,ns,rfl,rfl,hobj,hints,hlen⟩:=Xp hn eg hwl;refine enter_call (codeAny_mono (call w s₀ s₁ mg mb fa o pm cd doc a vs ns G Y ho (fd_plain hd) P9 hmg hobj hints hlen hg) fun r s' hq=>?_);obtain⟨rfl,h2,h3,h4⟩:=hq;exact⟨.inl ⟨.bool true,.bool true,[],rfl,fun _=>rfl,.bool true,zw l _,fun _=>⟨List.Pairwise.nil,fun _ hm=>(nomatch hm)⟩⟩,h2,h3,h4⟩
section
variable{prog:Program}{w:World}{A:Around}{E:ZW}{s:Shared}{K:Frag}
end
end Att
namespace L2
open PySem PySem.Spec PyProof.Rows
theorem Nd:∀{vs:ZM} {ns:ZL},IntsAre vs ns->Zw (ns.map V.int) vs
 | _,_,.nil=>.nil
 | _,_,.cons n t h=>.cons ⟨t,rfl⟩ (Nd h)
def Only(H:Hp):Prop:=∀b,H b=none\/∃o xs,H b=some (.frz o (.lst xs))
theorem ff{P:Program}{w:World}{K:W.Frag}{mg mb:ZV}{CX:Xx}{k:Nat}{fa a:Addr}{fd:FuncData}{x:Str}{sp:Sp}{s₁:Shared}{vs:ZM}{ns:ZL}
  (KX:K.In s₁.heap) (qt:s₁.heap.Ns mainGlobals mg) (hb:s₁.heap.Ns builtinsNs mb) (hbb:∀x:Str,x ≠ "__name__" -> mb x=bootBuiltins x) (hlim:s₁.heap.NoLimit) (hg:s₁.gens=#[])
  (ha:s₁.heap.get? a=some { cls:=.type "list",data:=.seq vs.toArray }) (hi:IntsAre vs ns) (hl:ns.length<=sizeLine) (hr:V8 k callerA)
  (F:∀base:Heap,K.In base->base.Ns mainGlobals mg->Gq P w K mg base CX k fa fd [x] sp) (hbind:∀(s:Shared) (u:Value),BindsTo s fd ⟨[u],[]⟩ [(x,u)])
  (c6:∀H:Hp,Only H->Jj K H a (ns.map V.int)->sp [.ref a] H (fun v _=>v=.bl true) fun _ _ _=>False)
  (hCX:∀H e s',CX [] H s₁ (fun _ _ _=>False) e s'->False) :
  codeAny (model P w) callerA (.call (.ref fa) ⟨[.ref a],[]⟩) (fun r s'=>r=.ok (.ret (.bool true))/\OldK s₁.heap s'.heap/\s'.os=s₁.os/\AllBare s'.gens) s₁:=by
 have rv:=Nd hi;have lenV:=hi.length
 have core:∀H:Hp,Only H->Jj K H a (ns.map V.int)->D8 P w H s₁.heap->(∀b,H b≠none->b=a)->(H a≠none->K.lookup a=none) ->
   codeAny (model P w) callerA (.call (.ref fa) ⟨[.ref a],[]⟩) (fun r s'=>r=.ok (.ret (.bool true))/\OldK s₁.heap s'.heap/\s'.os=s₁.os/\AllBare s'.gens) s₁:=by
  intro H hO hS hok hA hK;have Je:∀{b:Addr} {o:Obj},s₁.heap.get? b=some o->H b=none->(Fw s₁.heap H).get? b=some o:=fun e n=>bo e n
  have noA:∀{b:Addr} {o:Obj} {es:Array DictEntry} {ep:Nat},s₁.heap.get? b=some o->o.data=.dict es ep->H b=none:=fun {b o es ep} e d=>by
   cases q:H b with
   | none=>rfl
   | some u =>
    have e':b=a:=hA b (by rw[q];simp);subst e';rw[ha]at e;cases e;have d':Data.seq vs.toArray _=Data.dict es ep:=d;cases d'
  have nsK:∀{b:Addr} {m:ZV},s₁.heap.Ns b m->(Fw s₁.heap H).Ns b m:=fun {b m} ⟨o,es,ep,e,d,r⟩=>⟨o,es,ep,Je e (noA e d),d,r⟩
  have hKb:K.In (Fw s₁.heap H):=fun b o e=>Je (KX b o e) (by
   cases q:H b with
   | none=>rfl
   | some u =>
    have e':b=a:=hA b (by rw[q];simp);subst e';rw[hK (by rw[q];simp)]at e;cases e)
  have hM:Mod K mg (Fw s₁.heap H):=⟨hKb,nsK qt,⟨mb,nsK hb,hbb⟩,let ⟨mc,h1,h2⟩:=hlim;⟨mc,nsK h1,h2⟩⟩;have e0:Hy P w K mg (Fw s₁.heap H) callerA [] s₁ H:=⟨rfl,hM,fun b o e=>oa e,Nat.le_of_eq (xq _ _),trivial,fun b hb=>absurd (show b∈([]:ZU) from hb) (by simp),hok,.of_eq hg⟩;refine codeAny_mono ((F _ hKb (nsK qt)).run callerA [] s₁ H ⟨[.ref a],[]⟩ [.ref a] [.ref a] _ _ hr e0 (hbind s₁ (.ref a)) (.cons rfl .nil) (c6 H hO hS)) fun r s' h=>?_;cases r with
  | error e=>exact(hCX H e s' h).elim
  | ok fl =>
   cases fl with
   | next=>exact False.elim h
   | brk=>exact False.elim h
   | cont=>exact False.elim h
   | ret u =>
    obtain⟨v,H',os,bare,un,hok',r',q⟩:=h;have q':v=.bl true:=q;subst q';obtain rfl:u=Value.bool true:=r';refine⟨rfl,OldK.of_keep fun b o e=>?_,os,bare⟩;cases q:H b with
    | none=>exact un.keep b o e q (by intro z;exact absurd (show b∈([]:ZU) from z) (by simp)) (by simp)
    | some u =>
     rcases hO b with z | ⟨ob,xs,z⟩
     .rw[q]at z;cases z
     .have z2:=un.frzs b ob _ z;obtain⟨e1,_⟩:=hok b _ z;obtain⟨e2,_⟩:=hok' b _ z2;rw[e]at e1;cases e1;exact e2
 cases hk:K.lookup a with
 | some o =>
  have e:=KX a o hk;rw[ha]at e;cases e;refine core (fun _=>none) (fun _=>.inl rfl) (.inr ⟨_,vs.toArray,_,hk,rfl,rfl,rfl,by rw[V7,lenV];exact hl,by simpa using rv⟩) (fun b u z=>by have z':(none:Option HO)=some u:=z;cases z') (fun b z=>absurd rfl z) fun z=>absurd rfl z
 | none =>
  refine core (fun b=>if b=a then some (.frz { cls:=.type "list",data:=.seq vs.toArray } (.lst (ns.map V.int))) else none) (fun b=>?_) (.inl (.inr ⟨{ cls:=.type "list",data:=.seq vs.toArray },if_pos rfl⟩)) (fun b u z=>?_) (fun b z=>?_) fun _=>hk
  .by_cases hb:b=a
   .exact .inr ⟨_,_,if_pos hb⟩
   .exact .inl (if_neg hb)
  .by_cases hb:b=a
   .have z':=(if_pos hb).symm.trans z;cases z';subst hb;exact⟨ha,by rw[Z0];exact hl,vs,_,rv,ha⟩
   .have z':=(if_neg hb).symm.trans z;cases z'
  .by_cases hb:b=a
   .exact hb
   .exact absurd (if_neg hb) z
theorem nu{l:W.OpenLaw}{n k:Nat}{q:Program}{loose:ZD}{XP:(ZV)->Heap->Prop}{YP:World->Heap->Prop}{d:DefRec}{K:Params->W.Frag}{CX:World->Xx}{sp:World->Sp}{x:Str}
  (hn:l.most=some n) (hn2:n<=sizeLine) (hdf:d.params.defaults=[]) (hr:V8 k callerA)
  (hY:∀(w:World) (h:Heap),YP w h->(K w.params).In h)
  (F:∀(w:World) (mg:ZV) (fa:Addr) (h:Heap),(K w.params).In h->h.Ns mainGlobals mg->mg d.name=some (.ref fa) ->
   ∃fd:FuncData,(∀(s:Shared) (u:Value),BindsTo s fd ⟨[u],[]⟩ [(x,u)]) /\
    ∀base:Heap,(K w.params).In base->base.Ns mainGlobals mg->Gq l.prog w (K w.params) mg base (CX w) k fa fd [x] (sp w))
  (c6:∀(w:World) (H:Hp) (a:Addr) (ns:ZL),ns.length<=n->Only H->Jj (K w.params) H a (ns.map V.int)->sp w [.ref a] H (fun v _=>v=.bl true) fun _ _ _=>False)
  (hCX:∀(w:World) (H:Hp) (s:Shared) (e:Value) (s':Shared),CX w [] H s (fun _ _ _=>False) e s'->False) :
  W.WalkO q loose XP YP l.row.toRowW d [] (fun f vs=>PySem.call f vs):=by
 refine Att.Sf hn hdf fun w s₀ s₁ mg mb fa o pm cd doc a vs ns G Y ho hd P9 hmg hobj hints hlen hg=>?_;have KX:=hY w _ Y;obtain⟨fd,hb,hF⟩:=F w mg fa _ KX G.T.g hmg;exact ff KX G.T.g G.T.b G.T.builtins G.T.nolimit hg hobj hints (Uu hlen hn2) hr hF hb (fun H hO hS=>c6 w H a ns hlen hO hS) fun H e s'=>hCX w H s₁ e s'
abbrev qp:Xx:=fun _ _ _ _ _ _=>False
abbrev E0:XK:=fun _ _ _=>False
theorem Zxc{X:Cx}:Hq qp X E0:=fun _ _ _ _ _ _ _ h=>h.elim
structure Fun(K:W.Frag)(x qual:Str)(st:Stmt)(f:Addr)(fd:FuncData):Prop where
 ex:∃(oc:Value) (od:ZP) (kV doc pm:Value) (an:ZP) (cdv ct:Value) (osl:ZF),
  fd=W.fnOf x qual (Uy st) (Yw st) (Zj st) .none kV doc pm an cdv ct/\K.lookup f=some ⟨oc,od,.func fd,osl⟩/\W.codeIn K cdv qual=true
 kp:W.keepIn K (.ref f)=true
section
variable{P:Program}{w:World}{K:W.Frag}{mg:ZV}{base:Heap}
theorem Fun.ok{x qual:Str}{st:Stmt}{f:Addr}{fd:FuncData}{N ps:ZD}{k:Nat}{sp:Sp}(F:Fun K x qual st f fd)(S:J0 N ps (Zj st))(len:∀vs H Q E,sp vs H Q E->vs.length=ps.length)
  (Oz:∀(cdv:Value) (A:Around) (outer:List Env) (s:Shared) (H:Hp) (vs:ZQ) (Q:VK) (E:XK),V8 k (A.deeper (envOfC qual (Zj st) s.heap.objs.size f cdv))->sp vs H Q E ->
   ∃t,Ru (O1 qp P w K mg base N qual (Zj st) f cdv A outer s H E).nox (Yw st) t/\t { nx:=fun _ H'=>Q .non H',rt:=Q } (start N vs) H):Gq P w K mg base qp (k+1) f fd ps sp:=by
 obtain⟨oc,od,kV,doc,pm,an,cdv,ct,osl,rfl,lk,P9⟩:=F.ex;refine Zx8 lk P9 S len fun A outer s H vs Q E hr c6=>?_;obtain⟨t,h,q⟩:=Oz cdv A outer s H vs Q E hr c6;exact⟨t,h.nox,q⟩
theorem Fun.binds{x qual:Str}{st:Stmt}{f:Addr}{fd:FuncData}{ps:ZD}(F:Fun K x qual st f fd)
  (h:∀(kV doc pm:Value) (an:ZP) (cdv ct:Value) (us:ZM),us.length=ps.length->bindArgs (W.fnOf x qual (Uy st) (Yw st) (Zj st) .none kV doc pm an cdv ct) ⟨us,[]⟩=pure (ps.zip us)):Binds K fd ps []:=by
 obtain⟨oc,od,kV,doc,pm,an,cdv,ct,osl,rfl,lk,P9⟩:=F.ex;exact .all (h kV doc pm an cdv ct)
theorem Zy{x qual:Str}{st:Stmt}{f:Addr}{oc:Value}{od an:ZP}{osl:ZF}{kV doc pm cdv ct:Value}(l:K.lookup f=some ⟨oc,od,.func (W.fnOf x qual (Uy st) (Yw st) (Zj st) .none kV doc pm an cdv ct),osl⟩)
  (c:W.codeIn K cdv qual=true) (k:W.keepIn K (.ref f)=true):Fun K x qual st f (W.fnOf x qual (Uy st) (Yw st) (Zj st) .none kV doc pm an cdv ct):=⟨⟨oc,od,kV,doc,pm,an,cdv,ct,osl,rfl,l,c⟩,k⟩
end
section
variable{X:Cx}
end
theorem iteF{A B:Prop}(h:B):if false=true then A else B:=by
 rw[if_neg B5];exact h
theorem i4{A B:Prop}(h:A):if true=true then A else B:=by
 rw[if_pos rfl];exact h
def Zl(H H':Hp):Prop:=∀b o,H b=some o->H' b=some o
theorem Zl.refl(H:Hp):Zl H H:=fun _ _ h=>h
theorem Zl.trans{H H1 H2:Hp}(a:Zl H H1)(b:Zl H1 H2):Zl H H2:=fun c o h=>b c o (a c o h)
theorem Zl.free{H H':Hp}(e:Zl H H'){l:Addr}(h:H' l=Option.none):H l=Option.none:=by
 cases q:H l with
 | none=>rfl
 | some o =>
  rw[e l o q]at h;cases h
section
variable{X:Cx}{XF:ZY}{j:St}{H:Hp}{s:Shared}
end
theorem rcEq_V{A:Around}{s:Shared}{y x:V}{u v:Value}(ry:RelV y u)(rx:RelV x v)(fy:U8 y=true)(fx:U8 x=true):SeqAt.RcAt A s u v ((ny y x)):=by
 cases y with
 | non =>
  cases ry;cases x with
  | non=>cases rx;exact SeqAt.RcAt.none_none
  | bl b=>cases rx;exact SeqAt.RcAt.none_bool b
  | int b=>obtain⟨t,rfl⟩:=rx;exact SeqAt.RcAt.none_int b t
  | str b=>obtain⟨t,rfl⟩:=rx;exact SeqAt.RcAt.none_str b t
  | _=>exact absurd (show false=true from fx) B5
 | bl a =>
  cases ry;cases x with
  | non=>cases rx;exact SeqAt.RcAt.bool_none a
  | bl b=>cases rx;exact SeqAt.RcAt.bool_bool a b
  | int b=>obtain⟨t,rfl⟩:=rx;exact SeqAt.RcAt.bool_int a b t
  | str b=>obtain⟨t,rfl⟩:=rx;exact SeqAt.RcAt.bool_str a b t
  | _=>exact absurd (show false=true from fx) B5
 | int a =>
  obtain⟨t',rfl⟩:=ry;cases x with
  | non=>cases rx;exact SeqAt.RcAt.int_none a t'
  | bl b=>cases rx;exact SeqAt.RcAt.int_bool a t' b
  | int b=>obtain⟨t,rfl⟩:=rx;exact SeqAt.RcAt.int_int a t' b t
  | str b=>obtain⟨t,rfl⟩:=rx;exact SeqAt.RcAt.int_str a t' b t
  | _=>exact absurd (show false=true from fx) B5
 | str a =>
  obtain⟨t',rfl⟩:=ry;cases x with
  | non=>cases rx;exact SeqAt.RcAt.str_none a t'
  | bl b=>cases rx;exact SeqAt.RcAt.str_bool a t' b
  | int b=>obtain⟨t,rfl⟩:=rx;exact SeqAt.RcAt.str_int a t' b t
  | str b=>obtain⟨t,rfl⟩:=rx;exact SeqAt.RcAt.str_str a t' b t
  | _=>exact absurd (show false=true from fx) B5
 | _=>exact absurd (show false=true from fy) B5
theorem rcNe_V{A:Around}{s:Shared}{y x:V}{u v:Value}(ry:RelV y u)(rx:RelV x v)(fy:U8 y=true)(fx:U8 x=true):SeqAt.RcNeAt A s u v (!(ny y x)):=by
 cases y with
 | non =>
  cases ry;cases x with
  | non=>cases rx;exact SeqAt.RcNeAt.none_none
  | bl b=>cases rx;exact SeqAt.RcNeAt.none_bool b
  | int b=>obtain⟨t,rfl⟩:=rx;exact SeqAt.RcNeAt.none_int b t
  | str b=>obtain⟨t,rfl⟩:=rx;exact SeqAt.RcNeAt.none_str b t
  | _=>exact absurd (show false=true from fx) B5
 | bl a =>
  cases ry;cases x with
  | non=>cases rx;exact SeqAt.RcNeAt.bool_none a
  | bl b=>cases rx;exact SeqAt.RcNeAt.bool_bool a b
  | int b=>obtain⟨t,rfl⟩:=rx;exact SeqAt.RcNeAt.bool_int a b t
  | str b=>obtain⟨t,rfl⟩:=rx;exact SeqAt.RcNeAt.bool_str a b t
  | _=>exact absurd (show false=true from fx) B5
 | int a =>
  obtain⟨t',rfl⟩:=ry;cases x with
  | non=>cases rx;exact SeqAt.RcNeAt.int_none a t'
  | bl b=>cases rx;exact SeqAt.RcNeAt.int_bool a t' b
  | int b=>obtain⟨t,rfl⟩:=rx;exact SeqAt.RcNeAt.int_int a t' b t
  | str b=>obtain⟨t,rfl⟩:=rx;exact SeqAt.RcNeAt.int_str a t' b t
  | _=>exact absurd (show false=true from fx) B5
 | str a =>
  obtain⟨t',rfl⟩:=ry;cases x with
  | non=>cases rx;exact SeqAt.RcNeAt.str_none a t'
  | bl b=>cases rx;exact SeqAt.RcNeAt.str_bool a t' b
  | int b=>obtain⟨t,rfl⟩:=rx;exact SeqAt.RcNeAt.str_int a t' b t
  | str b=>obtain⟨t,rfl⟩:=rx;exact SeqAt.RcNeAt.str_str a t' b t
  | _=>exact absurd (show false=true from fx) B5
 | _=>exact absurd (show false=true from fy) B5
section
variable{X:Cx}
end
abbrev cb:ZW:=fun _ _=>False
def Hc(ifs:ZC)(env:Env):Sem Bool :=
 forIn ifs true fun c r=>if r=true then (isTrue c env (eval c env) >>= fun b=>pure (ForInStep.yield b)) else pure (ForInStep.yield r)
section
variable(prog:Program)(w:World)(A:Around)(tg elt:Expr)(ifs:ZC)(env:Env)(it acc:Value)
def TurnEnd(nxt:Shared->Prop)(ok:Bool)(s:Shared):Prop :=
 if ok=true then wpAny (model prog w) A (eval elt env) (fun y s1=>wpAny (model prog w) A (call (.builtin "list.append") [acc,y]) (fun _ s2=>nxt s2) cb s1) cb s else nxt s
def t9(nxt:Shared->Prop)(v:Value)(s:Shared):Prop :=
 wpAny (model prog w) A (letOwnedTupleGo tg it v) (fun _ s1=>wpAny (model prog w) A (assign tg env v) (fun _ s2=>wpAny (model prog w) A (Hc ifs env) (TurnEnd prog w A elt env acc nxt) cb s2) cb s1) cb s
end
theorem Qz{prog:Program}{w:World}{A:Around}{R:Result->Shared->Prop}{s:Shared}{elt tg iter:Expr}{ifs:ZC}{scope:Scope}{pos:Pos}{it acc:Value}{env:Env}(W:Nat->Shared->Prop)
  (turn:∀m s1,W m s1->wpAny (model prog w) A (pyNext it) (fun r s2=>r.elim (R (.ok .next) s2) fun v=>t9 prog w A tg elt ifs env it acc (fun s3=>∃m',m'<m/\W m' s3) v s2) cb s1)
  (m:Nat) (start:W m s):codeAny (model prog w) A (.compLoop (.ListComp elt [⟨tg,iter,ifs,0⟩] scope pos) 0 it acc env) R s:=by
 refine codeAny_loop rfl W (fun k s1 hw=>?_) m start;refine wpAny_noted (env:=env) (m:=compTurn (.ListComp elt [⟨tg,iter,ifs,0⟩] scope pos) 0 it acc env) ?_;rw[compTurn_list];refine Zb (wpAny_standAt (Zb (wpAny_mono (turn k s1 hw) (fun r s2 q=>?_) fun _ _ z=>z.elim)));cases r with
 | none=>exact Yg q
 | some v =>
  have q:t9 prog w A tg elt ifs env it acc (fun s3=>∃m',m'<k/\W m' s3) v s2:=q;refine Zb (wpAny_mono q (fun _ s3 q3=>Zb (wpAny_mono q3 (fun _ s4 q4=>Zb (wpAny_mono q4 (fun ok s5 q5=>?_) fun _ _ z=>z.elim)) fun _ _ z=>z.elim)) fun _ _ z=>z.elim);cases ok with
  | false=>exact Yg ⟨rfl,q5⟩
  | true=>exact Zb (Zb (wpAny_mono q5 (fun y s6 q6=>Zb (wpAny_mono q6 (fun _ s7 q7=>Yg (Yg ⟨rfl,q7⟩)) fun _ _ z=>z.elim)) fun _ _ z=>z.elim))
noncomputable def Yq(env:Env):ZK->List (Str×Addr)->List (Str×Addr)
 | [],cs=>cs
 | (n,k)::r,cs=>Yq env r (if k == .free then (n,(env.cells.lookup n).getD 0)::cs else cs)
noncomputable def Ze(X:Cx)(scope:Scope)(N:ZD)(fp:ZU)(s:Shared)(H:Hp):Cx :=
 { X with N:=N,s₀:=s,H₀:=H,env:=compEnvC scope (Yq X.env scope.names []) s.heap.objs.size X.env,outer:=X.stack,stack:=X.stack,ex:=fp,fn:=fun _=>false,pn:=[],xe:=cb }
structure Hg(X:Cx)(scope:Scope)(N:ZD)(fr:ZG):Prop where
 clos:closureFor scope X.env=pure (Yq X.env scope.names [])
 kind:scope.kind=.function
 nocell:∀y∈scope.names,y.2≠.cell
 names:∀y∈scope.names,y.2=.local->scope.names.lookup y.1=some .local
 cells:∀x c,(Yq X.env scope.names []).lookup x=some c->X.env.cells.lookup x=some c
 has:∀x,((relabel scope X.env).names.lookup x=some .cell\/(relabel scope X.env).names.lookup x=some .free)->∃c,(Yq X.env scope.names []).lookup x=some c
 len:fr.length=N.length
 fr:∀(i j:Nat),fr[i]?=some (some j)->∃x,N[i]?=some x/\X.N[j]?=some x/\Vis X.env.scope x/\¬ X.env.kindOf x=some .local/\((relabel scope X.env).names.lookup x=some .cell\/(relabel scope X.env).names.lookup x=some .free)
noncomputable def frees(fr:ZG)(j:St):St:=fr.map fun o=>o.bind fun i=>(j[i]?).bind id
theorem Jt(fr:ZG)(j:St):(frees fr j).length=fr.length:=Z0 _
theorem xv{fr:ZG}{Z:St}{i:Nat}{v:V}(h:(frees fr Z)[i]?=some (some v)):∃j,fr[i]?=some (some j)/\Z[j]?=some (some v):=by
 unfold frees at h;rw[B4]at h;cases e:fr[i]? with
 | none=>rw[e]at h;cases h
 | some o =>
  rw[e]at h;cases o with
  | none=>cases h
  | some j =>
   refine⟨j,rfl, ?_⟩;have h':(Z[j]?).bind id=some v:=Dp h;cases e2:Z[j]? with
   | none=>rw[e2]at h';cases h'
   | some o2=>rw[e2]at h';exact congrArg some h'
theorem Bl{scope:Scope}{env:Env}{x:Str}{k:NameKind}(h:(relabel scope env).names.lookup x=some k):∃k0,(x,k0)∈scope.names/\(k=k0\/(k0=.free/\k=.cell)):=by
 have hm:=PySem.mem_of_lookup h;obtain⟨⟨n,k0⟩,h1,h2⟩:=D6.mp (show (x,k)∈scope.names.map _ from hm);dsimp only at h2
 split at h2
 .rename_i hc
  cases h2;simp only[Ya,beq_iff_eq]at hc;exact⟨k0,h1,.inr ⟨hc.1.1,rfl⟩⟩
 .cases h2;exact⟨k,h1,.inl rfl⟩
noncomputable def E2(outer scope:Scope):Bool :=
 decide (scope.kind=.function) && scope.names.all fun y=>decide (y.2≠.cell) && (decide (y.2≠.local) || decide (scope.names.lookup y.1=some .local)) &&
  (decide (y.2≠.free) || decide (outer.names.lookup y.1=some .cell) || decide (outer.names.lookup y.1=some .free))
noncomputable def Jc(NX:ZD)(names:ZK):ZD->ZG->Bool
 | [],[]=>true
 | _::N,none::fr=>Jc NX names N fr
 | x::N,some j::fr=>decide (NX[j]?=some x) && decide (names.lookup x=some .free) && Jc NX names N fr
 | _,_=>false
theorem Mo{NX:ZD}{names:ZK}:∀{N:ZD} {fr:ZG},Jc NX names N fr=true->fr.length=N.length
 | [],[],_=>rfl
 | [],_::_,h=>by simp[Jc]at h
 | _::_,[],h=>by simp[Jc]at h
 | x::N,none::fr,h=>by
  simp only[Jc]at h;simp only[D9,Mo h]
 | x::N,some j::fr,h=>by
  simp only[Jc,Ya]at h;simp only[D9,Mo h.2]
theorem U7{NX:ZD}{names:ZK}:∀{N:ZD} {fr:ZG} {i j:Nat},Jc NX names N fr=true->fr[i]?=some (some j)->∃x,N[i]?=some x/\NX[j]?=some x/\names.lookup x=some .free
 | [],[],_,_,_,e=>by simp at e
 | [],_::_,_,_,h,_=>by simp[Jc]at h
 | _::_,[],_,_,h,_=>by simp[Jc]at h
 | x::N,none::fr,0,_,_,e=>by simp at e
 | x::N,none::fr,i+1,j,h,e=>by
  simp only[Jc]at h;obtain⟨y,h1,h2⟩:=U7 (i:=i) h (by simpa using e);exact⟨y,by simpa using h1,h2⟩
 | x::N,some k::fr,0,j,h,e=>by
  simp only[Jc,Ya,decide_eq_true_eq]at h;simp at e;subst e;exact⟨x,rfl,h.1.1,h.1.2⟩
 | x::N,some k::fr,i+1,j,h,e=>by
  simp only[Jc,Ya]at h;obtain⟨y,h1,h2⟩:=U7 (i:=i) h.2 (by simpa using e);exact⟨y,by simpa using h1,h2⟩
theorem Vr{f:Str->NameKind->NameKind}(x:Str):∀names:ZK,(names.map fun p=>(p.1,f p.1 p.2)).lookup x=(names.lookup x).map (f x)
 | []=>rfl
 | (n,k)::r=>by
  have ih:=Vr (f:=f) x r;cases e:x == n with
  | false =>
   simp only[Qn,List.lookup_cons,e];exact ih
  | true =>
   have e':x=n:=by simpa using e
   simp only[Qn,List.lookup_cons,e,Option.map_some];rw[e']
theorem Dg(scope:Scope)(env:Env):(relabel scope env).names=scope.names.map fun p=>(p.1,if (p.2 == NameKind.free && env.scope.kind == .function && env.kindOf p.1 == some .cell)=true then NameKind.cell else p.2):=by
 show scope.names.map _=_;refine List.map_congr_left fun p _=>?_;obtain⟨n,k⟩:=p;dsimp only
 split<;>rfl
theorem Dz{scope:Scope}{env:Env}{x:Str}(h:scope.names.lookup x=some .free):(relabel scope env).names.lookup x=some .cell\/(relabel scope env).names.lookup x=some .free:=by
 rw[Dg,Vr (f:=fun n k=>if (k == NameKind.free && env.scope.kind == .function && env.kindOf n == some .cell)=true then NameKind.cell else k),h];dsimp only[Option.map_some]
 split
 .exact .inl rfl
 .exact .inr rfl
theorem C4{env:Env}:∀{names:ZK} {cs:List (Str×Addr)},(∀y∈names,y.2=.free->∃c,env.cells.lookup y.1=some c)->(∀p∈cs,env.cells.lookup p.1=some p.2)->∀p∈Yq env names cs,env.cells.lookup p.1=some p.2
 | [],cs,_,hc,p,hp=>hc p hp
 | (n,k)::r,cs,hn,hc,p,hp=>by
  simp only[Yq]at hp;refine C4 (fun y hy=>hn y (Vb _ hy)) (fun q hq=>?_) p hp
  split at hq
  .rename_i hk
   rcases Y6.mp hq with e | hq
   .obtain⟨c,qc⟩:=hn (n,k) Vk (by simpa using hk);subst e;dsimp only at qc ⊢;rw[qc]
    rfl
   .exact hc q hq
  .exact hc q hq
theorem C3{env:Env}:∀{names:ZK} {cs:List (Str×Addr)} {p:Str×Addr},p∈cs->p∈Yq env names cs
 | [],_,_,h=>h
 | (n,k)::r,cs,p,h=>by
  simp only[Yq];refine C3 ?_
  split
  .exact Vb _ h
  .exact h
theorem C5{env:Env}:∀{names:ZK} {cs:List (Str×Addr)} {x:Str},(x,NameKind.free)∈names->∃c,(x,c)∈Yq env names cs
 | (n,k)::r,cs,x,h=>by
  rcases Y6.mp h with e | h
  .cases e;exact⟨_,by simp only[Yq,B0s,if_true];exact C3 Vk⟩
  .simp only[Yq];exact C5 h
theorem Dt{j:Type}:∀{l:List (Str×j)} {x:Str} {b:j},(x,b)∈l->∃c,l.lookup x=some c
 | (n,c)::r,x,b,h=>by
  cases hx:x == n with
  | true=>exact⟨c,by simp only[List.lookup_cons,hx]⟩
  | false =>
   rcases Y6.mp h with e | h
   .cases e;simp at hx
   .obtain⟨d,hd⟩:=Dt h;exact⟨d,by simp only[List.lookup_cons,hx];exact hd⟩
theorem Wx{scope:Scope}{env:Env}(h:∀y∈scope.names,y.2=.free->∃c,env.cells.lookup y.1=some c):closureFor scope env=pure (Yq env scope.names []):=by
 have go:∀(names:ZK) (cs:List (Str×Addr)),(∀y∈names,y.2=.free->∃c,env.cells.lookup y.1=some c) ->
   (forIn names cs fun x cs=>(do
    if x.2 == NameKind.free then pure (ForInStep.yield ((x.1, <-cellOf env x.1)::cs)) else pure (ForInStep.yield cs):Sem (ForInStep (List (Str×Addr)))))=pure (Yq env names cs):=by
  intro names
  induction names with
  | nil=>intro cs _;rfl
  | cons y r ih =>
   intro cs hn;obtain⟨n,k⟩:=y;have hr:∀y∈r,y.2=.free->∃c,env.cells.lookup y.1=some c:=fun y hy=>hn y (Vb _ hy);rw[List.forIn_cons];by_cases hk:k=.free
   .subst hk;obtain⟨c,hc⟩:=hn (n,.free) Vk rfl
    have ec:cellOf env n=pure c:=by
     unfold cellOf;dsimp only at hc;rw[hc]
    simp only[B0s,if_true,ec,pure_bind,Yq];rw[ih _ hr];dsimp only at hc;rw[hc]
    rfl
   .have hb:(k == NameKind.free)=false:=by simpa using hk
    simp only[hb,Bool.false_eq_true,if_false,pure_bind,Yq];exact ih _ hr
 have:=go scope.names [] h;unfold closureFor;simp only[bind_pure_comp]at this ⊢
 first
  | exact this
  | (simpa using this)
structure Qd(X:Cx)(NX:ZD)(outer scope:Scope)(N:ZD)(fr:ZG):Prop where
 nx:X.N=NX
 sc:X.env.scope.names=outer.names
 ok1:E2 outer scope=true
 ok2:Jc NX scope.names N fr=true
theorem Qd.ok{X:Cx}{NX:ZD}{outer scope:Scope}{N:ZD}{fr:ZG}(C:Qd X NX outer scope N fr)(ok:X.Ok):Hg X scope N fr:=by
 have h1:=C.ok1;unfold E2 at h1;simp only[Ya,decide_eq_true_eq,qg,Bool.or_eq_true]at h1;obtain⟨hk,hn⟩:=h1
 have kof:∀x,X.env.kindOf x=outer.names.lookup x:=fun x=>by
  show X.env.scope.names.lookup x=_;rw[C.sc]
 have P6:∀y∈scope.names,y.2=.free->X.env.kindOf y.1=some .cell\/X.env.kindOf y.1=some .free:=fun y hy e=>by
  rcases(hn y hy).2 with (z | z) | z
  .exact absurd e z
  .exact .inl ((kof _).trans z)
  .exact .inr ((kof _).trans z)
 have P8:∀y∈scope.names,y.2=.free->∃c,X.env.cells.lookup y.1=some c:=fun y hy e=>ok.has y.1 (P6 y hy e);refine⟨Wx P8,hk,fun y hy=>(hn y hy).1.1,fun y hy e=>?_,fun x c e=>?_,fun x h=>?_,Mo C.ok2,fun i j e=>?_⟩
 .rcases(hn y hy).1.2 with z | z
  .exact absurd e z
  .exact z
 .exact C4 P8 (fun p hp=>by cases hp) (x,c) (PySem.mem_of_lookup e)
 .have hm:(x,NameKind.free)∈scope.names:=by
   rcases h with h | h
   .obtain⟨k0,h1,h2⟩:=Bl h;rcases h2 with h2 | ⟨h2,_⟩
    .exact absurd h2.symm (hn _ h1).1.1
    .subst h2;exact h1
   .obtain⟨k0,h1,h2⟩:=Bl h;rcases h2 with h2 | ⟨_,h2⟩
    .subst h2;exact h1
    .cases h2
  obtain⟨c,hc⟩:=C5 (env:=X.env) (cs:=[]) hm;exact Dt hc
 .obtain⟨x,q1,q2,q3⟩:=U7 C.ok2 e;have hm:=PySem.mem_of_lookup q3;have hf:=P6 (x,.free) hm rfl;refine⟨x,q1,by rw[C.nx];exact q2, ?_, ?_,Dz q3⟩
  .exact .inr hf
  .intro z;dsimp only at hf;rw[z]at hf;rcases hf with hf | hf<;>cases hf
section
variable{X:Cx}{scope:Scope}{N:ZD}{fr:ZG}{XF:ZY}{Z:St}{H:Hp}{s:Shared}{fp:ZU}
theorem bx(C:Hg X scope N fr)(I:Inv X XF Z H s)(hf:∀b∈fp,Nk X XF H b)(hob:∀b∈fp,∃o,s.heap.get? b=some o){h1:Heap}{tk:Nat}
  (qt:h1.Ns s.heap.objs.size fun _=>none) (hk:∀b o,s.heap.get? b=some o->h1.get? b=some o) :
  Inv (Ze X scope N fp s H) [] (frees fr Z) H { s with heap:=h1,toks:=tk }:=by
 have lt:∀b∈fp,b<s.heap.objs.size:=fun b hb=>let ⟨_,e⟩:=hob b hb;Vt e;have cellK:∀x c,(Yq X.env scope.names []).lookup x=some c->∃v,s.heap.IsCell c v:=fun x c e=>I.cell x c (C.cells x c e);have ck:∀c v,s.heap.IsCell c v->h1.IsCell c v:=fun c v ⟨o,e,d⟩=>⟨o,hk c o e,d⟩
 refine⟨⟨I.ok.mod,C.kind,I.ok.glob,I.ok.blt,Yz _,fun x y c e1 e2=>I.ok.inj x y c (C.cells x c e1) (C.cells y c e2),fun x h=>C.has x h,fun x c h _=>absurd h B5,I.ok.hd,I.ok.frames,.inl rfl,
   fun b hb=>⟨Bv (lt b hb),fun x c e=>(hf b hb).2.2.2.2.1 x c (C.cells x c e)⟩,I.bs,Uu I.ok.bsz I.sz,fun b o e hb=>?_,fun b hb nj=>?_,I.stack,I.stkFree⟩,
  rfl,I.bare,Un.kept hk,⟨_,qt,fun i x v e1 e2 e3=>?_⟩,fun x c e=>?_,I.hok.fresh (Yz _),fun x c e=>I.freeC x c (C.cells x c e),fun p hp=>absurd (show p∈([]:ZY) from hp) (by simp),I.hok.kept hk, ?_⟩
 .rcases(hf b hb).2.2.2.1 with z | z
  .exact I.ok.noex b o e z
  .exact absurd (Wy (Vt (I.ok.bs b o e).1) z) (Nat.lt_irrefl _)
 .rcases Y6.mp (I.stkSub b nj) with z | z
  .exact(hf b hb).2.1 z
  .exact(hf b hb).2.2.1 z
 .obtain⟨j,q1,q2⟩:=xv e2;obtain⟨x',n1,n2,vis,nl,k⟩:=C.fr i j q1;have ex:x=x':=Dp (e1.symm.trans n1);subst ex;obtain⟨m,hm,hl⟩:=I.loc;obtain⟨u,r,l⟩:=hl j x v n2 q2 vis;refine⟨u,r, ?_⟩;rcases l with ⟨l1,_⟩ | ⟨_,c,l2,l3⟩
  .exact absurd l1 nl
  .obtain⟨c',qc⟩:=C.has x k;have ec:=C.cells x c' qc;rw[l2]at ec;have ec':c=c':=Dp ec;subst ec';exact .inr ⟨k,c,qc,ck c _ l3⟩
 .obtain⟨v,z⟩:=cellK x c e;exact⟨v,ck c v z⟩
 .show (frees fr Z).length=N.length;rw[Jt,C.len]
theorem Kg(I:Inv X XF Z H s)(hf:∀b∈fp,Nk X XF H b){σ':St}{H':Hp}{s':Shared}(J:Inv (Ze X scope N fp s H) [] σ' H' s'):Inv X XF Z H' s' :=
 I.call' (ch:=fp) J.os J.base J.hok J.bare fun b hb=>⟨(hf b hb).2.2.2.1,(hf b hb).2.1,(hf b hb).2.2.2.2.1,(hf b hb).2.2.2.2.2⟩
end
def PTs(X:Cx)(ifs:ZC)(t:TT):Prop :=
 ∀(XF:ZY) (s:Shared) (j:St) (H:Hp) (Q:Bool->Hp->Prop),Inv X XF j H s->t j H Q ->
  wpAny (model X.prog X.w) X.A (Hc ifs X.env) (TP X XF j Q) X.xe s
def Hh:TT:=fun _ H Q=>Q true H
theorem Al{X:Cx}:PTs X [] Hh:=fun _ _ _ H _ I h=>wpAny_tests_nil ⟨H,I,h⟩
theorem An{X:Cx}{c:Expr}{t:TT}(h:PT X c t):PTs X [c] t:=fun XF s j H Q I hw=>wpAny_tests_one (h XF s j H Q I hw)
def Zqr(J:It)(g:TG)(tt:TT)(te:TE)(D:Addr)(W:Nat->Nat->ZQ->St->Hp->Prop)(fin:Hp->Prop):Prop :=
 ∀i m ys j H,W i m ys j H->H D=some (.lst ys)/\((J.stop i H/\fin H)\/(J.go i H/\∃N:ZQ->St->Hp->Prop,(∀ys' σ' H',N ys' σ' H'->∃m',m'<m/\W (i+1) m' ys' σ' H') /\
  ∀x H',J.yld i H x H'->g x j H' fun σ2 H2=>tt σ2 H2 fun ok H3 =>
   if ok=true then te σ2 H3 fun y H4=>H4 D=some (.lst ys)/\ys.length<sizeLine/\N (ys++[y]) σ2 (upd H4 D (.lst (ys++[y]))) else N ys σ2 H3))
abbrev DG:=ZU->Shared->Hp->TG
abbrev DT:=ZU->Shared->Hp->TT
abbrev DE:=ZU->Shared->Hp->TE
def wo(wi:TI)(fr:ZG)(g:DG)(tt:DT)(te:DE):TE:=fun j H Q=>wi j H fun J H1=>∀D fp sx,H1 D=none ->
 ∃W:Nat->Nat->ZQ->St->Hp->Prop,(∃m,W 0 m [] (frees fr j) (upd H1 D (.lst [])))/\Zqr J (g fp sx (upd H1 D (.lst []))) (tt fp sx (upd H1 D (.lst []))) (te fp sx (upd H1 D (.lst []))) D W (fun H=>Q (.ref D) H)
section
variable{X:Cx}{scope:Scope}{N:ZD}{fr:ZG}{tg elt iter:Expr}{ifs:ZC}{pos:Pos}{wi:TI}{g:DG}{tt:DT}{te:DE}
theorem O3{XF:ZY}{j:St}{s2:Shared}{it:Addr}{fp:ZU}{tn:Nat->Heap->Prop}{J:It}{H2:Hp}{RR:Value->Addr->Result->Shared->Prop}{E:ZW}
  (hc:X.calm=true) (C:Hg X scope N fr)
  (hg:∀fp s H,PG (Ze X scope N fp s H) tg (g fp s H)) (ht:∀fp s H,PTs (Ze X scope N fp s H) ifs (tt fp s H)) (he:∀fp s H,PE (Ze X scope N fp s H) elt (te fp s H))
  (I2:Inv X XF j H2 s2) (T:Turn X.prog X.w X.K tg J fp it tn) (st2:tn 0 s2.heap) (f2:∀b∈fp,Nk X XF H2 b) {fin:Addr->Hp->Prop}
  (hW:∀D fp sx,H2 D=none->∃W:Nat->Nat->ZQ->St->Hp->Prop,(∃m,W 0 m [] (frees fr j) (upd H2 D (.lst [])))/\Zqr J (g fp sx (upd H2 D (.lst []))) (tt fp sx (upd H2 D (.lst []))) (te fp sx (upd H2 D (.lst []))) D W (fin D))
  (b7:∀D Cc s' σ' H' m,Inv X XF j H' s'->H' Cc=none->Cc≠X.env.locals->Cc ∉ X.fs->X.s₀.heap.objs.size<=Cc->(∀x c,X.env.cells.lookup x=some c->c≠Cc)->(∀p∈X.pn++XF,p.1≠Cc)->s'.heap.Ns Cc m->fin D H' ->
   RR (.ref D) Cc (.ok σ') s') :
  wpAny (model X.prog X.w) X.A (newList []) (fun acc s₃=>wpAny (model X.prog X.w) X.A (newFunctionEnv scope X.env.globals (Yq X.env scope.names []) [] X.env.qual none .none (some X.env)) (fun cenv s₄ =>
   codeAny (model X.prog X.w) X.A (.compStart (.ListComp elt [⟨tg,iter,ifs,0⟩] scope pos) 0 (.ref it) acc { cenv with scope:=relabel scope X.env }) (RR acc cenv.locals) s₄) E s₃) E s2:=by
 refine wpAny_newObj_type (wpAny_newFunctionEnv C.nocell (by intro y hy;simp at hy) (fun h₁ hns₁ hsb₁=>?_) C.kind);dsimp only at hns₁ hsb₁ ⊢
 have I3:Inv X XF j (upd H2 s2.heap.objs.size (.lst [])) { s2 with heap:=s2.heap.push { cls:=.type "list",dict:=none,data:=.seq ([]:ZM).toArray } } :=
  I2.laid (t':=s2.toks) (fun b o e=>Yi _ e) (Yz _) ⟨B2 _,[],0,.nil,Dv _ rfl⟩
 have hD:H2 s2.heap.objs.size=none:=I2.hok.fresh (Yz _);obtain⟨W,⟨m0,w0⟩,turn⟩:=hW _ fp { s2 with heap:=s2.heap.push { cls:=.type "list",dict:=none,data:=.seq ([]:ZM).toArray } } hD;generalize hDD:s2.heap.objs.size=D at *;generalize hS3:({ s2 with heap:=s2.heap.push { cls:=.type "list",dict:=none,data:=.seq ([]:ZM).toArray } }:Shared)=S3 at *;have hS3h:s2.heap.push { cls:=.type "list",dict:=none,data:=.seq ([]:ZM).toArray }=S3.heap:=by rw[<-hS3]
 rw[hS3h]at hns₁ hsb₁ ⊢;have obj2:=T.obj 0 _ st2
 have nD:∀b∈fp,b≠D:=fun b hb z=>by
  obtain⟨o,e,_⟩:=obj2 b hb;have q:=Vt e;rw[hDD,z]at q;exact absurd q (Nat.lt_irrefl _)
 have f3:∀b∈fp,Nk X XF (upd H2 D (.lst [])) b:=fun b hb=>⟨by rw[Zz (nD b hb)];exact(f2 b hb).1,(f2 b hb).2⟩
 have ob3:∀b∈fp,∃o,S3.heap.get? b=some o:=fun b hb=>by
  obtain⟨o,e,_⟩:=obj2 b hb;exact⟨o,by rw[<-hS3h];exact Yi _ e⟩
 have st3:tn 0 S3.heap:=T.keep _ _ _ st2 fun b hb o e=>by rw[<-hS3h];exact Yi _ e
 have hk1:∀b o,S3.heap.get? b=some o->h₁.get? b=some o:=fun b o e=>hsb₁.extBut b o (Bv (Vt e)) (Yi _ e);have J1:Inv (Ze X scope N fp S3 (upd H2 D (.lst []))) [] (frees fr j) (upd H2 D (.lst [])) { S3 with heap:=h₁,toks:=s2.toks+([]:List (Str×Value)).length }:=bx C I3 f3 ob3 hns₁ hk1;have st4:tn 0 h₁:=T.keep _ _ _ st3 fun b hb o e=>hk1 b o e;have es:({ s2 with heap:=h₁,toks:=s2.toks+([]:List (Str×Value)).length }:Shared)={ S3 with heap:=h₁,toks:=s2.toks+([]:List (Str×Value)).length }:=by rw[<-hS3]
 have FpC:∀{H':Hp},(∀b∈fp,H' b=none)->∀b∈fp,Nk (Ze X scope N fp S3 (upd H2 D (.lst []))) [] H' b:=fun hn b hb =>
  ⟨hn b hb,(J1.ok.exf b hb).1,J1.ok.exfs b hb,.inl hb,(J1.ok.exf b hb).2,fun p hp=>absurd (show p∈([]:ZY) from hp) (by simp)⟩
 have loop:codeAny (model X.prog X.w) X.A (.compLoop (.ListComp elt [⟨tg,iter,ifs,0⟩] scope pos) 0 (.ref it) (.ref D) (Ze X scope N fp S3 (upd H2 D (.lst []))).env) (RR (.ref D) S3.heap.objs.size)
   { S3 with heap:=h₁,toks:=s2.toks+([]:List (Str×Value)).length }:=by
  refine Qz (fun n s'=>∃i ys σ' H',Inv (Ze X scope N fp S3 (upd H2 D (.lst []))) [] σ' H' s'/\tn i s'.heap/\(∀b∈fp,H' b=none)/\W i n ys σ' H') ?_ m0 ⟨0,[],_,_,J1,st4,fun b hb=>(f3 b hb).1,w0⟩;rintro n s5 ⟨i,ys,σ5,H5,J5,st5,fr5,w5⟩;obtain⟨hDl,alt⟩:=turn i n ys σ5 H5 w5;rcases alt with ⟨stop,fi⟩ | ⟨go,NN,hNN,step⟩
  .refine Z3 (T.done (Ze X scope N fp S3 (upd H2 D (.lst []))) rfl rfl rfl hc i [] s5 σ5 H5 cb J5 (FpC fr5) st5 stop) fun r s6 ⟨hr,J6⟩=>?_;subst hr;show RR (.ref D) S3.heap.objs.size (.ok .next) s6;have I6:=Kg I3 f3 J6;obtain⟨mm,hmm,_⟩:=J6.loc;refine b7 D _ s6 _ H5 mm I6 J6.free ?_ ?_ ?_ ?_ ?_ hmm fi
   .exact Nat.ne_of_gt I3.lt
   .exact I3.nofs (Yz _)
   .exact I3.sz
   .intro x c e z;obtain⟨v,q⟩:=I3.cell x c e;exact absurd q.lt (by rw[z];exact Nat.lt_irrefl _)
   .intro p hp z;exact absurd (Vt (I3.pin p hp).1) (by rw[z];exact Nat.lt_irrefl _)
  .refine Z3 (T.item (Ze X scope N fp S3 (upd H2 D (.lst []))) rfl rfl rfl hc i [] s5 σ5 H5 cb J5 (FpC fr5) st5 go) fun r s6 ⟨u,hr,h6⟩=>?_;subst hr;refine Z3 (Q:=_) h6 fun _ s7 ⟨x,H7,J7,r7,y7,st7,fr7⟩=>?_;have J7':=J7.pinned (FpC fr7) (T.obj _ _ st7)
   have back:∀{σ9:St} {H9:Hp} {s9:Shared},Inv (Ze X scope N fp S3 (upd H2 D (.lst []))) ([]++Cj fp s7.heap) σ9 H9 s9->tn (i+1) s9.heap/\∀b∈fp,H9 b=none:=fun {σ9 H9 s9} J9 =>
    ⟨T.keep _ _ _ st7 fun b hb o e=>(J9.pin (b,o) (S4 _ (S4 _ (Jb hb e)))).1,fun b hb=>by
     obtain⟨o,e,d⟩:=T.obj _ _ st7 b hb;exact(J9.pin (b,o) (S4 _ (S4 _ (Jb hb e)))).2.1⟩
   refine Z3 (hg fp S3 _ _ s7 σ5 H7 x u _ J7' r7 (step x H7 y7)) fun _ s8 ⟨σ8,H8,J8,q8⟩=>?_;refine Z3 (ht fp S3 _ _ s8 σ8 H8 _ J8 q8) fun ok s9 ⟨H9,J9,q9⟩=>?_;cases ok with
   | false =>
    rw[if_neg B5]at q9;unfold TurnEnd;rw[if_neg B5];obtain⟨m',hm,w9⟩:=hNN _ _ _ q9;exact⟨m',hm,i+1,ys,σ8,H9,J9.unpinned,(back J9).1,(back J9).2,w9⟩
   | true =>
    rw[if_pos rfl]at q9;unfold TurnEnd;rw[if_pos rfl];refine Z3 (he fp S3 _ _ s9 σ8 H9 _ J9 q9) fun yv ug ⟨y,H10,J10,r10,hD10,hz,n10⟩=>?_;obtain⟨m',hm,w10⟩:=hNN _ _ _ n10;refine Z3 (We (X:=Ze X scope N fp S3 (upd H2 D (.lst []))) _ ug σ8 H10 (.ref D) [y] (.ref D) [yv] (fun _ H'=>H'=upd H10 D (.lst (ys++[y]))) J10 rfl (.cons r10 .nil) ⟨D,ys,y,rfl,rfl,hD10,hz,rfl⟩) fun _ qf ⟨v11,H11,J11,_,e11⟩=>?_;subst e11;exact⟨m',hm,i+1,ys++[y],σ8,_,J11.unpinned,(back J11).1,(back J11).2,w10⟩
 rw[es];exact codeAny_compStart_list loop (T.self _ 0 _ _ _ st4 loop)
theorem aa{NX:ZD}{outer:Scope}(hc:X.calm=true)(hi:PI X tg iter wi)(C:Qd X NX outer scope N fr)
  (hg:∀fp s H,PG (Ze X scope N fp s H) tg (g fp s H)) (ht:∀fp s H,PTs (Ze X scope N fp s H) ifs (tt fp s H)) (he:∀fp s H,PE (Ze X scope N fp s H) elt (te fp s H))
  (hs:∀x,foldedSetIterable iter X.env x=pure x:=by intro _;rfl):PE X (.ListComp elt [⟨tg,iter,ifs,0⟩] scope pos) (wo wi fr g tt te):=by
 intro XF s j H Q I h;have C:=C.ok I.ok;rw[eval_ListComp];refine wpAny_comprehension_free (use:=none) rfl hs C.clos C.kind C.names (Z3 (hi XF s j H _ I h) fun v s1 h1=>Z3 h1 fun itv s2 h2=>?_);obtain⟨it,fp,tn,J,H2,e,I2,T,st2,f2,hW⟩:=h2;subst e;refine O3 (RR:=fun acc Cc=>compPost (model X.prog X.w) X.A X.xe none (EP X XF j Q) acc Cc) hc C hg ht he I2 T st2 f2 hW ?_;intro D Cc s' fl H' m I' f0 f1 f2' f3 f4 f5 qt fi;refine⟨m,qt,fun h' sb=>?_⟩;exact⟨.ref D,H',I'.turned (t':=s'.toks) (fun b o hb e=>(sb.2 b hb).trans e) f0 f1 (.inr f3) f4 f5,rfl,fi⟩
theorem E8{NX:ZD}{outer:Scope}{i:Nat}{x:Str}{pos' U6:Pos}(hN:X.N.Nodup)(hix:X.N[i]?=some x)(hx:Loc X.env.scope x)(hc:X.calm=true)(hi:PI X tg iter wi)(C:Qd X NX outer scope N fr)
  (hg:∀fp s H,PG (Ze X scope N fp s H) tg (g fp s H)) (ht:∀fp s H,PTs (Ze X scope N fp s H) ifs (tt fp s H)) (he:∀fp s H,PE (Ze X scope N fp s H) elt (te fp s H))
  (hsw:swapsWith (.ListComp elt [⟨tg,iter,ifs,0⟩] scope pos) (some (.Name x pos')) U6.line X.env=pure true:=by rfl)
  (hs:∀x,foldedSetIterable iter X.env x=pure x:=by intro _;rfl) (hf:X.fn x=true\/X.env.scope.names.lookup x=some .local:=by first | exact .inl rfl | exact .inr rfl | assumption) :
  PS X (.Assign [.Name x pos'] (.ListComp elt [⟨tg,iter,ifs,0⟩] scope pos) U6) (tAsg (wo wi fr g tt te) (mw i)):=by
 intro XF s j H Dd I h;have C:=C.ok I.ok;rw[exec_Assign_Name_used _ _ _ _ hsw];refine Zb (wpAny_standAt (Zb ?_));show wpAny _ X.A (do let _ <-comprehension (.ListComp elt [⟨tg,iter,ifs,0⟩] scope pos) scope X.env _ (newList []) false (eval iter X.env) (some (assign (.Name x pos') X.env))) _ _ s
 refine Zb (wpAny_mono (wpAny_comprehension_free (use:=some (assign (.Name x pos') X.env)) (Q:=fun _ s'=>SP X XF Dd .next s') rfl hs C.clos C.kind C.names
  (Z3 (hi XF s j H _ I h) fun v s1 h1=>Z3 h1 fun itv s2 h2=>?_)) (fun _ s' hq=>Yg (Yg hq)) fun _ _ e=>e)
 obtain⟨it,fp,tn,J,H2,e,I2,T,st2,f2,hW⟩:=h2;subst e;refine O3 (RR:=fun acc Cc=>compPost (model X.prog X.w) X.A X.xe (some (assign (.Name x pos') X.env)) (fun _ s'=>SP X XF Dd .next s') acc Cc) hc C hg ht he I2 T st2 f2 hW ?_;intro D Cc s' fl H' m I' f0 f1 f2' f3 f4 f5 qt fi;show wpAny _ X.A (assign (.Name x pos') X.env (.ref D)) _ _ _;refine wpAny_assign_Name (Wc (v:=.ref D) I' hN hix hx rfl (fun s3 I3 ⟨a,sb,ha⟩=>?_) hf)
 have na:Cc≠a:=by
  rcases ha with z | z
  .rw[z];exact f1
  .exact fun q=>f4 x a z q.symm
 refine⟨m,qt.sameBut sb na,fun h' sb'=>?_⟩;exact⟨_,H',I3.turned (t':=s3.toks) (fun b o hb e=>(sb'.2 b hb).trans e) f0 f1 (.inr f3) f4 f5,fi⟩
end
end L2
namespace SetM
open PySem
def Ris(xs:ZS):Prop:=∀a b (h:a<b) (hb:b<xs.size),xs[a]'(Nat.lt_trans h hb)<xs[b]
theorem getD_in{xs:ZS}{i d:Nat}(h:i<xs.size):xs.getD i d=xs[i]:=by simp[Array.getD,h]
theorem Fg{xs:ZS}{j:Nat}(hr:Ris xs):∀(fuel lo hi:Nat),hi - lo<=fuel->lo<=hi->hi<=xs.size->(∀i (h:i<xs.size),i<lo->xs[i]<j)->(∀i (h:i<xs.size),hi<=i->j<=xs[i]) ->
  (∀i (h:i<xs.size),i<SetTable.below.go xs j fuel lo hi->xs[i]<j)/\(∀i (h:i<xs.size),SetTable.below.go xs j fuel lo hi<=i->j<=xs[i])/\SetTable.below.go xs j fuel lo hi<=xs.size
 | 0,lo,hi,hf,hl,hs,h1,h2=>by
  have e:lo=hi:=by omega
  subst e;simp only[SetTable.below.go];exact⟨h1,h2,hs⟩
 | fuel+1,lo,hi,hf,hl,hs,h1,h2=>by
  simp only[SetTable.below.go];by_cases h:lo<hi
  .rw[if_pos h];have hm:(lo+hi) / 2<xs.size:=by omega
   rw[getD_in hm];by_cases hc:xs[(lo+hi) / 2]<j
   .rw[if_pos hc];refine Fg hr fuel _ _ (by omega) (by omega) hs (fun i c9 Qc=>?_) h2;rcases Nat.lt_or_ge i ((lo+hi) / 2) with z | z
    .exact Nat.lt_trans (hr i _ z hm) hc
    .have e:i=(lo+hi) / 2:=by omega
     subst e;exact hc
   .rw[if_neg hc];refine Fg hr fuel _ _ (by omega) (by omega) (by omega) h1 (fun i c9 hle=>?_);rcases Nat.lt_or_ge ((lo+hi) / 2) i with z | z
    .have:=hr _ i z c9;omega
    .have e:i=(lo+hi) / 2:=by omega
     subst e;omega
  .rw[if_neg h];have e:lo=hi:=by omega
   subst e;exact⟨h1,h2,hs⟩
theorem Rj{xs:ZS}{j:Nat}(hr:Ris xs):(∀i (h:i<xs.size),i<SetTable.below xs j->xs[i]<j)/\(∀i (h:i<xs.size),SetTable.below xs j<=i->j<=xs[i])/\SetTable.below xs j<=xs.size :=
 Fg hr xs.size 0 xs.size (by omega) (by omega) (Yz _) (fun i _ h=>by omega) (fun i h h'=>by omega)
theorem Xe(n:Nat):Ris (Array.range n):=fun a b h hb=>by simp;omega
theorem Kf{xs:ZS}{p j:Nat}(hp:p<=xs.size):∀i,(SetTable.insertAt xs p j)[i]?=if i<p then xs[i]? else if i=p then some j else xs[i - 1]?:=by
 intro i;unfold SetTable.insertAt;have c7:((xs.extract 0 p).push j).size=p+1:=by simp;omega
 rw[Array.getElem?_append,c7];by_cases h1:i<p+1
 .rw[if_pos h1,Array.getElem?_push];have hs2:(xs.extract 0 p).size=p:=by simp;omega
  rw[hs2];by_cases h2:i=p
  .rw[if_pos h2,if_neg (by omega),if_pos h2]
  .rw[if_neg h2,if_pos (by omega)];rw[Array.getElem?_extract];simp;omega
 .rw[if_neg h1,if_neg (by omega),if_neg (by omega)];rw[Array.getElem?_extract];have e:p+(i - (p+1))=i - 1:=by omega
  rw[e];simp;intro h;omega
theorem Vd{Z:Type}{xs:Array Z}{p:Nat}{j:Z}(hp:p<=xs.size):(SetTable.insertAt xs p j).size=xs.size+1:=by
 unfold SetTable.insertAt;simp;omega
theorem um{xs:ZS}{j:Nat}(hr:Ris xs)(hn:xs[SetTable.below xs j]?≠some j):Ris (SetTable.insertAt xs (SetTable.below xs j) j):=by
 obtain⟨h1,h2,h3⟩:=Rj (j:=j) hr;generalize hk:SetTable.below xs j=k at h1 h2 h3 hn;have g:=Kf (xs:=xs) (j:=j) h3;intro a b hab hb;rw[Vd h3]at hb;have ga:=g a;have gb:=g b;have ha':a<(SetTable.insertAt xs k j).size:=by rw[Vd h3];omega
 have nj:b<(SetTable.insertAt xs k j).size:=by rw[Vd h3];omega
 rw[A0g ha']at ga;rw[A0g nj]at gb
 have strict:∀i (h:i<xs.size),k<=i->j<xs[i]:=fun i h c8=>by
  have hle:=h2 i h c8;rcases Nat.lt_or_ge k i with z | z
  .have hkz:k<xs.size:=by omega
   have:=hr k i z h;have:=h2 k hkz (Yz _);omega
  .have e:i=k:=by omega
   subst e;rw[A0g h]at hn;have:xs[i]≠j:=fun q=>hn (by rw[q]);omega
 by_cases a1:a<k
 .rw[if_pos a1,A0g (by omega)]at ga;have ga':=Dp ga;by_cases b1:b<k
  .rw[if_pos b1,A0g (by omega)]at gb;have gb':=Dp gb;rw[ga',gb'];exact hr a b hab (by omega)
  .rw[if_neg b1]at gb;by_cases b2:b=k
   .rw[if_pos b2]at gb;have gb':=Dp gb;rw[ga',gb'];exact h1 a (by omega) a1
   .rw[if_neg b2,A0g (by omega)]at gb;have gb':=Dp gb;rw[ga',gb'];exact hr a (b - 1) (by omega) (by omega)
 .rw[if_neg a1]at ga;rw[if_neg (by omega),if_neg (by omega),A0g (by omega)]at gb;have gb':=Dp gb;by_cases a2:a=k
  .rw[if_pos a2]at ga;have ga':=Dp ga;rw[ga',gb'];exact strict (b - 1) (by omega) (by omega)
  .rw[if_neg a2,A0g (by omega)]at ga;have ga':=Dp ga;rw[ga',gb'];exact hr (a - 1) (b - 1) (by omega) (by omega)
structure Rf(t:SetTable)(n:Nat):Prop where
 size:t.place.size=n
 dum:t.dummies=#[]
 ris:Ris t.place
 room:n<=t.mask
theorem Rf.fits{t:SetTable}{n:Nat}(h:Rf t n):t.fits n=true:=by
 unfold SetTable.fits SetTable.fill;rw[h.dum,h.size];simp;exact h.room
theorem Wm(f m:Nat)(led:Bool):Rf (SetTable.fresh f m led) 0:=⟨rfl,rfl,fun a b _ hb=>by simp[SetTable.fresh]at hb,B2 _⟩
theorem Uz(t:SetTable)(n:Nat):Rf (t.standIn n) n:=⟨by simp[SetTable.standIn],rfl,Xe n,by simp[SetTable.standIn];omega⟩
theorem Iw(j:Nat):SetTable.has #[] j=false:=by simp[SetTable.has]
theorem Ra{t:SetTable}{n:Nat}(hs:t.place.size=n)(hd:t.dummies=#[])(hr:Ris t.place):Rf (t.orStandIn n) n:=by
 unfold SetTable.orStandIn
 split
 .rename_i h
  refine⟨hs,hd,hr, ?_⟩;unfold SetTable.fits SetTable.fill at h;rw[hd,hs]at h;simpa using h
 .exact Uz t n
theorem Bd{t:SetTable}(hd:t.dummies=#[]){f:Nat->Int}{h:Int}{j:Nat}{dm:ZH}:∀(fuel:Nat) (p:SetTable.Probe),p.dummy=none->SetTable.probe.go t f h fuel p=some (.empty j dm)->dm=none/\t.place[SetTable.below t.place j]?≠some j
 | 0,p,_,e=>by simp[SetTable.probe.go]at e
 | fuel+1,p,hp,e=>by
  have adv:(t.advance p).dummy=none:=by
   unfold SetTable.advance
   split
   .exact hp
   .exact hp
  simp only[SetTable.probe.go]at e;cases hs:t.slot p.j with
  | empty =>
   rw[hs]at e;simp only[Option.some.injEq,SetTable.Met.empty.injEq]at e;obtain⟨e1,e2⟩:=e;subst e1;refine⟨by rw[<-e2,hp],fun q=>?_⟩;unfold SetTable.slot at hs;simp[q]at hs
  | dummy =>
   exfalso
   unfold SetTable.slot at hs;simp only[hd,Iw]at hs
   split at hs<;>simp at hs
  | live i =>
   rw[hs]at e;simp only at e
   split at e
   .simp at e
   .exact Bd hd fuel _ adv e
theorem Eh{t:SetTable}{es:Array (Int×Value)}(h:Rf t es.size)(k:Int)(x:Value):Rf (layNew t es k x).2.1 (layNew t es k x).1.size:=by
 unfold layNew;cases hf:t.freeSlot k with
 | none =>
  simp only;have:(es.push (k,x)).size=es.size+1:=by simp
  rw[this];exact Uz t _
 | some sw =>
  obtain⟨slot,wd⟩:=sw;simp only;unfold SetTable.freeSlot at hf
  have hn:t.place[SetTable.below t.place slot]?≠some slot:=by
   cases hp:t.probe (fun _=>k+1) k (t.probeStart k) with
   | none=>rw[hp]at hf;simp at hf
   | some m =>
    rw[hp]at hf;cases m with
    | candidate a b c=>simp at hf
    | empty j dm =>
     obtain⟨e1,e2⟩:=Bd h.dum _ (t.probeStart k) rfl hp;subst e1;simp at hf;rw[<-hf.1];exact e2
  obtain⟨_,_,hb⟩:=Rj (j:=slot) h.ris;have nj:SetTable.below t.place slot<=es.size:=by rw[<-h.size];exact hb
  have e1:(t.put slot).2=SetTable.below t.place slot:=rfl;refine Ra ?_ ?_ ?_
  .rw[e1,Vd nj];show (SetTable.insertAt t.place (SetTable.below t.place slot) slot).size=es.size+1;rw[Vd hb,h.size]
  .show (if SetTable.has t.dummies slot then _ else t.dummies)=#[];rw[h.dum,Iw]
   rfl
  .exact um h.ris hn
theorem Kw{t:SetTable}{es:Array (Int×Value)}(k:Int)(x:Value):(layNew t es k x).2.1.led=t.led:=by
 unfold layNew
 split
 .simp only[SetTable.orStandIn]
  split<;>rfl
 .rfl
theorem E7(n:Nat)(g:Nat->ZH):((List.range n).filterMap fun j=>(g j).map (j, ·)).Pairwise fun a b=>a.1<b.1:=by
 rw[List.pairwise_filterMap];refine List.Pairwise.imp ?_ List.pairwise_lt_range;intro a b hab c hc d hd;cases ha:g a with
 | none=>rw[ha]at hc;simp at hc
 | some u =>
  cases hb:g b with
  | none=>rw[hb]at hd;simp at hd
  | some v =>
   rw[ha]at hc;rw[hb]at hd;simp at hc hd;rw[<-hc, <-hd];exact hab
theorem Ls{t:SetTable}{es:Array (Int×Value)}(wanted:Nat):Rf (relayAll t es wanted).2.1 (relayAll t es wanted).1.size:=by
 unfold relayAll;cases hr:t.relaid (es.map (·.1)) wanted with
 | none=>exact Uz t _
 | some to =>
  obtain⟨t',order⟩:=to;simp only
  split
  .rename_i hc
   unfold SetTable.relaid SetTable.laid at hr;cases hl:SetTable.layClean (SetTable.sizeAbove wanted - 1) (es.map (·.1)) with
   | none=>rw[hl]at hr;simp at hr
   | some owner =>
    rw[hl]at hr;simp at hr;obtain⟨h1,h2⟩:=hr;have R3:=(B0z.mp hc).2;have hd:t'.dummies=#[]:=by rw[<-h1]
    refine⟨?_,hd, ?_, ?_⟩
    .unfold SetTable.fits at R3;simp at R3;exact R3.1
    .rw[<-h1];intro a b hab hb;have hp:=E7 (SetTable.sizeAbove wanted - 1+1) (fun j=>owner[j]?.getD none);have hp2:(((List.range (SetTable.sizeAbove wanted - 1+1)).filterMap fun j=>(owner[j]?.getD none).map (j, ·)).map fun p=>p.1).Pairwise (· < ·):=List.pairwise_map.mpr hp;simp only[List.getElem_toArray];exact List.pairwise_iff_getElem.mp hp2 a b _ _ hab
    .unfold SetTable.fits SetTable.fill at R3;rw[hd]at R3;simp at R3;exact(R3.1 ▸ R3.2:_)
  .exact Uz t _
theorem L5{t:SetTable}{es:Array (Int×Value)}(wanted:Nat):(relayAll t es wanted).2.1.led=t.led:=by
 unfold relayAll;cases hr:t.relaid (es.map (·.1)) wanted with
 | none=>rfl
 | some to =>
  obtain⟨t',order⟩:=to;simp only
  split
  .unfold SetTable.relaid SetTable.laid at hr;cases hl:SetTable.layClean (SetTable.sizeAbove wanted - 1) (es.map (·.1)) with
   | none=>rw[hl]at hr;simp at hr
   | some owner =>
    rw[hl]at hr;simp at hr;rw[<-hr.1]
  .rfl
theorem Bt{j Z:Type}{F:j->Z->Prop}{l l':List Z}(p:l'.Perm l):∀{ks:List j},Paired F ks l->∃U0,Paired F U0 l'/\U0.Perm ks:=by
 induction p with
 | nil=>intro ks h;cases h;exact⟨[],.nil,.nil⟩
 | cons x p ih =>
  intro ks h;cases h with
  | cons r t =>
   obtain⟨U0,h1,h2⟩:=ih t;exact⟨_::U0,.cons r h1,h2.cons _⟩
 | swap x y l =>
  intro ks h;cases h with
  | cons r t =>
   cases t with
   | cons r' t'=>exact⟨_::_::_,.cons r' (.cons r t'),.swap _ _ _⟩
 | trans p1 p2 ih1 ih2 =>
  intro ks h;obtain⟨k1,h1,h2⟩:=ih2 h;obtain⟨k2,h3,h4⟩:=ih1 h1;exact⟨k2,h3,h4.trans h2⟩
theorem Di{j Z:Type}{F:j->Z->Prop}:∀{ks:List j} {l:List Z},Paired F ks l->∀k∈ks,∃e∈l,F k e
 | _,_,.nil,k,h=>by cases h
 | _,_,.cons r t,k,h=>by
  rcases Y6.mp h with z | z
  .subst z;exact⟨_,Vk,r⟩
  .obtain⟨e,h1,h2⟩:=Di t k z;exact⟨e,Vb _ h1,h2⟩
theorem Gk{j Z:Type}{F:j->Z->Prop}:∀{ks:List j} {l:List Z},Paired F ks l->∀e∈l,∃k∈ks,F k e
 | _,_,.nil,k,h=>by cases h
 | _,_,.cons r t,k,h=>by
  rcases Y6.mp h with z | z
  .subst z;exact⟨_,Vk,r⟩
  .obtain⟨e,h1,h2⟩:=Gk t k z;exact⟨e,Vb _ h1,h2⟩
section
variable{prog:Program}{w:World}{K:Type}[DecidableEq K](knd:KeyKind prog w K)
structure Zz1(o:Obj)(ks:List K):Prop where
 ex:o.ExactSet
 dat:∃es ep t,o.data=.set es ep t/\ElemsOf knd es.toList/\Paired (fun k (e:Int×Value)=>knd.is k e.2=true) ks es.toList/\es.size<scanBound/\Rf t es.size/\t.led=!(w.params.followText "set-order")
 nd:ks.Nodup
def D3(h:Heap)(a:Addr)(ks:List K):Prop:=∃o,h.get? a=some o/\Zz1 knd o ks
variable{knd}{A:Around}{E:ZW}{s:Shared}{a:Addr}
theorem Zz1.len{o:Obj}{ks:List K}(h:Zz1 knd o ks):ks.length<scanBound:=by
 obtain⟨es,ep,t,_,_,p,b,_⟩:=h.dat;rw[p.length,S9];exact b
theorem T3{o:Obj}{es Ce:Array (Int×Value)}{ep:Nat}{t t':SetTable}{U0:List K}{h:Heap}(ho:h.get? a=some o)(hex:o.ExactSet)(hd:o.data=.set es ep t)(el:ElemsOf knd Ce.toList)
  (pr:Paired (fun k (e:Int×Value)=>knd.is k e.2=true) U0 Ce.toList) (hb:Ce.size<scanBound) (ti:Rf t' Ce.size) (hl:t'.led=!(w.params.followText "set-order")) (nd:U0.Nodup) :
  (h.update a (Obj.putSet Ce t')).get? a=some { o with data:=.set Ce (ep+1) t' }/\Zz1 knd { o with data:=.set Ce (ep+1) t' } U0:=by
 have mem:∀k',(decide (k'∈U0))=true↔∃e∈Ce.toList,knd.is k' e.2=true:=fun k'=>by
  rw[decide_eq_true_eq];constructor
  .exact fun hk=>Di pr k' hk
  .rintro⟨e,he,hq⟩;obtain⟨k2,h1,h2⟩:=Gk pr e he;rw[knd.inj e.2 k' k2 hq h2];exact h1
 obtain⟨e1,o2,es2,ep2,t2,e2,ex2,d2,_⟩:=SetOf_store (knd:=knd) ho hex hd el mem hb ti.fits;rw[e1]at e2;cases e2;exact⟨e1,⟨ex2,⟨Ce,ep+1,t',rfl,el,pr,hb,ti,hl⟩,nd⟩⟩
theorem uq{ks:List K}{k:K}{x:Value}{Q:Bool->Shared->Prop}(ba:knd.is k x=true)(hsc:x.scannable=true)(hS:D3 knd s.heap a ks)(hroom:ks.length+1<scanBound)
  (h:∀h' U0,Heap.SameBut a s.heap h'->D3 knd h' a U0->U0.Perm (if k∈ks then ks else ks++[k])->Q (!decide (k∈ks)) { s with heap:=h' }) :
  wpAny (model prog w) A (setAddHashed a x (knd.hash k)) Q E s:=by
 obtain⟨o,ho,S⟩:=hS;obtain⟨es,ep,t,hd,b8,pr,hb,ti,hled⟩:=S.dat;have hlen:ks.length=es.size:=by rw[pr.length,S9]
 unfold setAddHashed setAddHashedIn;refine wpAny_holding (Zb (wpAny_setState_of ho hd ti.fits ?_));dsimp only;rw[byScan_of hsc hb b8];simp only[↓reduceIte];unfold setAddByScan;refine Zb (Zb (wpAny_rule (Zb (wpAny_setScan_of ba ho hd ti.fits b8 ?_))));cases hr:List.findIdx? (fun e=>knd.is k e.2) es.toList with
 | some j =>
  dsimp only;obtain⟨hj,hpj,_⟩:=List.findIdx?_eq_some_iff_getElem.mp hr
  have hk:k∈ks:=by
   obtain⟨k2,h1,h2⟩:=Gk pr _ (G0e hj);rw[knd.inj _ k k2 hpj h2];exact h1
  have q:=h s.heap ks (Heap.SameBut.refl a s.heap) ⟨o,ho,S⟩ (by rw[if_pos hk]);rw[Bk hk]at q;exact Yg (Yg q)
 | none =>
  dsimp only
  have hk:k ∉ ks:=fun hm=>by
   obtain⟨e,he,hq⟩:=Di pr k hm;have z:=List.findIdx?_eq_none_iff.mp hr e he;rw[hq]at z;cases z
  have gw:∀(b:Bool) {s₁:Shared} {Q':ZA},Q' () s₁->wpAny (model prog w) A (match b with | true=>rule "set.scan.the-table-gave-way" | false=>pure ()) Q' E s₁ :=
   fun b s₁ Q' hq=>by cases b<;>first | exact Yg hq | exact wpAny_rule hq
  have perm0:=layNew_perm t es (knd.hash k) x;have Q4:=Eh (t:=t) ti (knd.hash k) x;have fj:=Kw (t:=t) (es:=es) (knd.hash k) x;generalize hL:layNew t es (knd.hash k) x=L at perm0 Q4 fj ⊢;obtain⟨R9,t1,wasDummy,gave⟩:=L;dsimp only at perm0 Q4 fj ⊢;rw[Array.toList_push]at perm0;have el1:ElemsOf knd R9.toList:=(b8.push ba hsc).perm perm0;have pr0:Paired (fun k (e:Int×Value)=>knd.is k e.2=true) (ks++[k]) (es.toList++[(knd.hash k,x)]):=Paired.snoc pr ba;obtain⟨ks1,pr1,pk1⟩:=Bt perm0 pr0
  have nd1:ks1.Nodup:=pk1.nodup_iff.mpr (List.nodup_append.mpr ⟨S.nd,List.nodup_cons.mpr ⟨by simp,List.nodup_nil⟩,fun u hu v hv=>by
   rw[U1.mp hv];exact fun z=>hk (z ▸ hu)⟩)
  have sz1:R9.size=es.size+1:=by
   have:=perm0.length_eq;rw[D7,S9,S9]at this;simpa using this
  have hb1:R9.size<scanBound:=by omega
  refine Zb (gw _ ?_)
  have tailOk:∀t2:SetTable,Rf t2 R9.size->t2.led=t.led->wpAny (model prog w) A (do
    storeSet a R9 t2
    if (!wasDummy && t2.tooFull)=true then do
      (match (relayAll t2 R9 (SetTable.grown R9.size)).2.2 with | true=>rule "set.scan.the-table-gave-way" | false=>pure ())
      storeSet a (relayAll t2 R9 (SetTable.grown R9.size)).1 (relayAll t2 R9 (SetTable.grown R9.size)).2.1
      pure (some true)
     else pure (some true)) (fun b s'=>b=some true/\∃h' U0,s'={ s with heap:=h' }/\Heap.SameBut a s.heap h'/\D3 knd h' a U0/\U0.Perm (ks++[k])) E s:=by
   intro t2 ti2 ed;refine Zb (wpAny_storeSet_of ho hd ?_ (fits_of_scanBound hb1));obtain⟨g1,S1⟩:=T3 (knd:=knd) ho S.ex hd el1 pr1 hb1 ti2 (ed.trans hled) nd1;have sb1:=Heap.SameBut.update s.heap a (Obj.putSet R9 t2)
   split
   .have hp:=relayAll_perm t2 R9 (SetTable.grown R9.size);have ti3:=Ls (t:=t2) (es:=R9) (SetTable.grown R9.size);have led3:=L5 (t:=t2) (es:=R9) (SetTable.grown R9.size);generalize relayAll t2 R9 (SetTable.grown R9.size)=Rl at hp ti3 led3 ⊢;obtain⟨es2,t3,gave2⟩:=Rl;dsimp only at hp ti3 led3 ⊢;obtain⟨ks2,pr2,pk2⟩:=Bt hp pr1
    have sz2:es2.size=R9.size:=by
     have:=hp.length_eq
     rwa [S9,S9]at this
    have hb2:es2.size<scanBound:=by omega
    refine Zb (gw _ ?_);refine Zb (wpAny_storeSet_of g1 rfl ?_ (fits_of_scanBound hb2));obtain⟨g2,S2⟩:=T3 (knd:=knd) g1 S1.ex rfl (el1.perm hp) pr2 hb2 ti3 (led3.trans (ed.trans hled)) (pk2.nodup_iff.mpr nd1);exact Yg ⟨rfl,_,ks2,rfl,sb1.trans (Heap.SameBut.update _ a _),⟨_,g2,S2⟩,pk2.trans pk1⟩
   .exact Yg ⟨rfl,_,ks1,rfl,sb1,⟨_,g1,S1⟩,pk1⟩
  have fin:∀b s',(b=some true/\∃h' U0,s'={ s with heap:=h' }/\Heap.SameBut a s.heap h'/\D3 knd h' a U0/\U0.Perm (ks++[k])) ->
    wpAny (model prog w) A (match b with | some added=>pure added | none=>setAddHashedIn a x (knd.hash k) 99999) Q E s':=by
   rintro b s' ⟨rfl,h',U0,rfl,sb,g,pk⟩;have q:=h h' U0 sb g (by rw[if_neg hk];exact pk);rw[Nf hk]at q;exact Yg q
  split
  .refine Zb ?_;rw[hashByValue_scannable 8 hsc];refine Yg ?_;refine wpAny_mono (tailOk _ ?_ ?_) fin fun _ _ z=>z
   .split
    .exact Q4
    .exact⟨Q4.size,Q4.dum,Q4.ris,Q4.room⟩
   .split
    .exact fj
    .exact fj
  .refine Zb (Yg ?_);simp only[↓reduceIte];exact wpAny_mono (tailOk _ Q4 fj) fin fun _ _ z=>z
end
end SetM
namespace SetM
open PySem PyProof.Rows
section
variable{prog:Program}{w:World}{K:Type}[DecidableEq K]{knd:KeyKind prog w K}
theorem D3.at'{h h':Heap}{a:Addr}{ks:List K}(x:D3 knd h a ks)(e:∀o,h.get? a=some o->h'.get? a=some o):D3 knd h' a ks:=let ⟨o,ho,S⟩:=x;⟨o,e o ho,S⟩
structure Rg(val:Nat->K)(i:Nat)(ks:List K):Prop where
 mem:∀x,x∈ks↔∃j,j<i/\val j=x
 len:ks.length<=i
theorem Rg.zero(val:Nat->K):Rg val 0 []:=⟨fun x=>⟨fun z=>absurd z Tj,fun⟨j,z,_⟩=>absurd z (Nat.not_lt_zero _)⟩,Yz _⟩
theorem Rg.next{val:Nat->K}{i:Nat}{ks U0:List K}(u:Rg val i ks)(pk:U0.Perm (if val i∈ks then ks else ks++[val i])):Rg val (i+1) U0:=by
 refine⟨fun x=>?_, ?_⟩
 .rw[pk.mem_iff];constructor
  .intro hx
   have hx':x∈ks\/x=val i:=by
    split at hx
    .exact .inl hx
    .rcases Tw.mp hx with hx | hx
     .exact .inl hx
     .exact .inr (U1.mp hx)
   rcases hx' with hx' | hx'
   .obtain⟨j,h1,h2⟩:=(u.mem x).mp hx';exact⟨j,by omega,h2⟩
   .exact⟨i,by omega,hx'.symm⟩
  .rintro⟨j,h1,h2⟩;by_cases hx:x∈ks
   .split
    .exact hx
    .exact List.mem_append_left _ hx
   .have e:j=i:=by
     rcases Nat.lt_or_ge j i with z | z
     .exact absurd ((u.mem x).mpr ⟨j,z,h2⟩) hx
     .omega
    subst e;rw[h2,if_neg hx];exact S4 _ (List.mem_singleton_self _)
 .rw[pk.length_eq];have:=u.len
  split
  .omega
  .simp only[D7,ZI];omega
variable{A:Around}{R:Result->Shared->Prop}{I:Addr}{fp wr:ZU}{G:Array GenState->Array GenState->Prop}{n:Nat}{P:Nat->Value->Prop}{St:Nat->Shared->Prop}
theorem N6(W:WalksS prog w A.in1 I fp wr G n P St){a:Addr}(na:a ∉ fp){val:Nat->K}(hval:∀i v,P i v->knd.is (val i) v=true/\v.scannable=true)(hb:n+1<scanBound)(i:Nat)(s:Shared)(ks:List K)
  (hi:i<=n) (st:St i s) (hS:D3 knd s.heap a ks) (u:Rg val i ks) (fin:∀s' U0,Moved (a::wr) G s s'->D3 knd s'.heap a U0->Rg val n U0->R (.ok (.ret .none)) s') :
  codeAny (model prog w) A (.builtin "set.update.loop" ⟨[.ref a,.ref I],[]⟩) R s:=by
 have naw:a ∉ wr:=fun z=>na (W.sub _ z);have more:∀b∈wr,b∈a::wr:=fun b z=>Vb _ z;refine codeAny_builtin PyProof.Rows.F.entry_set_update_loop ?_;rw[Around.under_plainId PyProof.Rows.F.plain_set_update_loop];refine Zb (m:=pyNext (.ref I)) ?_;by_cases Qc:i<n
 .refine W.item i s _ _ Qc st fun v s1 hP st1 mv=>?_;obtain⟨hv,hsc⟩:=hval i v hP;have hS1:D3 knd s1.heap a ks:=hS.at' fun o e=>mv.heap a o naw e;refine Zb (m:=holding [v] (setAdd a v)) (wpAny_holding ?_);unfold setAdd;refine wpAny_holding (Zb (knd.pyHash (k:=val i) hv ?_));have:=u.len;refine uq (knd:=knd) (s:={ s1 with toks:=s1.toks+1 }) hv hsc hS1 (by omega) fun h2 ks2 sb hS2 pk=>Yg ⟨plainId_quiet PyProof.Rows.F.plain_set_update_loop _, ?_⟩;refine N6 W na hval hb (i+1) { s1 with heap:=h2,toks:=s1.toks+1 } ks2 Qc (W.frame _ s1 _ _ st1 (Nat.le_succ _) fun b nj o e=>?_) hS2 (u.next pk) fun s3 ks3 mv3 hS3 u3=>?_
  .rw[sb.2 b fun z=>na (z ▸ nj)];exact e
  .refine fin s3 ks3 (Moved.trans W.gtrans ((mv.mono more).then_heap (Nat.le_succ _) fun b o nj e=>?_) mv3) hS3 u3;rw[sb.2 b fun z=>nj (z ▸ Vk)];exact e
 .have e:i=n:=by omega
  subst e;exact W.done s _ _ st fun s1 mv=>Yg (fin s1 ks (mv.mono more) (hS.at' fun o e=>mv.heap a o naw e) u)
termination_by n - i
end
section
variable{prog:Program}{w:World}{A:Around}{E:ZW}{s:Shared}
theorem C9{T newId initId:String}{args:ZM}{Q:ZW}(ft:TypeCalled T newId initId)(hct:checkTypeCall T ⟨args,[]⟩=pure ())
  (h:codeAny (model prog w) A.in1 (.call (.builtin newId) ⟨.type T::args,[]⟩) (wants (fun obj s1=>s1.TypeIs obj T/\codeAny (model prog w) A.in1 (.call (.builtin initId) ⟨obj::args,[]⟩) (wants (fun r s2=>r=.none/\Q obj s2) E) s1) E) s) :
  wpAny (model prog w) A (call (.type T) args) Q E s:=by
 have q1:=ft.notType;have q2:=ft.canCreate;have q3:=ft.made;have q4:=ft.sub;obtain⟨c,tl,q5⟩:=ft.mro
 apply wpAny_call
 apply codeAny_of_tree
 change wpAny (model prog w) _ (callAny (Value.type T) ⟨args,[]⟩) _ _ s
 refine Yg (And.intro (Code.quiet_builtin _ (by decide +kernel)) (codeAny_builtin PySem.F.entry_type_call ?_));rw[Around.under_plain (weight_type_call_type T args []) (units_type_call_type T args [])]
 repeat (any_goals (first | assumption | wp_step))
 refine codeAny_mono h fun r s1 hr=>?_;rcases r with e | fl
 .exact hr
 .cases fl with
  | ret obj =>
   obtain⟨hT,hI⟩:=hr;have q6:=ft.init.lookup;have q7:=ft.init.bind obj
   repeat (any_goals (first | assumption | wp_step))
   refine codeAny_mono hI fun r2 s2 hr2=>?_;rcases r2 with e2 | fl2
   .exact hr2
   .cases fl2 with
    | ret r3 =>
     obtain⟨rfl,q⟩:=hr2
     repeat (any_goals (first | assumption | wp_step))
    | _=>exact hr2.elim
  | _=>exact hr.elim
noncomputable abbrev Vz(b:Bool):Obj:={ cls:=.type "set",dict:=none,data:=.set #[] 0 (.fresh 0 0 b) }
theorem A1(x:Value){Q1:ZW}(h:Q1 (.ref s.heap.objs.size) { s with heap:=s.heap.push (Vz (!(w.params.followText "set-order"))) }) :
  codeAny (model prog w) A (.call (.builtin "set.__new__") ⟨[.type "set",x],[]⟩) (wants Q1 E) s:=by
 have q:=sub_set_self;refine codeAny_call_builtin PySem.F.plain_set_new PySem.F.entry_set_new (wpAny_of_eq (PySem.F.newCall_set_1 x) ?_);unfold Builtin.«set.__new__» Builtin.Frozenset.newClass;obtain⟨hp,gs,dr,tk,so⟩:=s;dsimp only
 wp_walk
 refine wpAny_askSetting (Yg ?_);dsimp only;simp only[newObj];exact Zb (wpAny_alloc (Yg (Yg h)))
variable{K:Type}[DecidableEq K]{knd:KeyKind prog w K}
set_option maxHeartbeats 4000000 in
theorem tj{l:Addr}{xs:ZN}{val:Nat->K}{Q:ZW}(hh:A.handled=none)(hl:s.heap.IsList l xs)(hx:∀i v,xs[i]?=some v->knd.is (val i) v=true/\v.scannable=true)(hb:xs.size+1<scanBound)
  (fin:∀(h1:Heap) (tk:Nat) (ks:List K),D3 knd h1 s.heap.objs.size ks->Rg val xs.size ks->(∀b o,s.heap.get? b=some o->h1.get? b=some o)->Q (.ref s.heap.objs.size) { s with heap:=h1,toks:=tk }) :
  wpAny (model prog w) A (call (.type "set") [.ref l]) Q E s:=by
 refine C9 PySem.F.called_set (PySem.F.typeCall_set_1 (.ref l)) (A1 (.ref l) ?_);generalize hb0:(!(w.params.followText "set-order"))=b0;have at0:(s.heap.push (Vz b0)).get? s.heap.objs.size=some (Vz b0):=Dv _ rfl;have ty0:Shared.TypeIs { s with heap:=s.heap.push (Vz b0) } (.ref s.heap.objs.size) "set" := ⟨_,at0,rfl⟩;refine⟨ty0,codeAny_call_builtin PySem.F.called_set.init.plain PySem.F.entry_set_init (check_set_init_1 ty0 ?_)⟩;obtain⟨⟨c0,d0,dt0,sl0⟩,e0,hc0,n0,hd0⟩:=hl;simp only at hc0 hd0;subst hc0 hd0;have e1:(s.heap.push (Vz b0)).get? l=some ⟨.type "list",d0,.seq xs n0,sl0⟩:=Yi _ e0;have li:(s.heap.push (Vz b0)).IsList l xs:=⟨_,e1,rfl,n0,rfl⟩;have u1:=PySem.F.sub_list_set;have u2:=PySem.F.sub_list_frozenset;have u3:(Value.type "list" == Value.type "dict")=false:=by decide
 unfold Builtin.«set.__init__» noKeywords Builtin.Frozenset.updateFrom;generalize hit:pyIter=it
 wp_walk
 subst hit;have lt0:l<s.heap.objs.size:=Vt e0;have sz:(s.heap.push (Vz b0)).objs.size=s.heap.objs.size+1:=Heap.size_push _ _;refine wpAny_pyIter_list li (Zb (wpAny_runValue ?_))
 refine N6 (knd:=knd) (val:=val) ((Walks.list (by simp[hh]) _ l (by rw[sz];exact Bv (Nat.lt_succ_of_lt lt0)) xs).toS) (fun z=>(Y6.mp z).elim (fun z=>absurd z (Bv (by rw[sz];exact Nat.lt_succ_self _))) fun z=>absurd (U1.mp z) (Nat.ne_of_gt lt0)) hx hb 0 _ [] (B2 _) ⟨⟨_,Dv _ rfl,rfl,rfl⟩,li.push _⟩
  ⟨_,Yi _ at0,⟨⟨rfl,rfl,rfl⟩,⟨#[],0,_,rfl,fun e he=>by simp at he,.nil,by unfold scanBound;decide,Wm _ _ _,hb0.symm⟩,List.nodup_nil⟩⟩ (Rg.zero val) ?_
 rintro⟨h2,g2,d2,tk2,o2⟩ ks mv S2 u;have x1:g2=s.gens:=mv.gens;have x2:d2=s.drawn:=mv.drawn;have x3:o2=s.os:=mv.os;subst x1 x2 x3;refine Yg (Yg ⟨rfl,fin h2 tk2 ks S2 u fun b o e=>mv.heap b o ?_ (Yi _ (Yi _ e))⟩);have lb:=Vt e;intro z;rcases Y6.mp z with z | z
 .exact absurd z (Bv lb)
 .have z:=U1.mp z;rw[sz]at z;exact absurd z (Bv (Nat.lt_succ_of_lt lb))
end
section
variable{prog:Program}{w:World}{A:Around}{E:ZW}{s:Shared}{a:Addr}{o:Obj}{es:Array (Int×Value)}{ep:Nat}{t:SetTable}
end
section
variable{w:World}{a:Addr}{es:Array (Int×Value)}{ep:Nat}{t:SetTable}{h:Heap}{i:Nat}{first:Value}{vs:ZM}
end
section
variable{prog:Program}{w:World}{A:Around}{E:ZW}{s:Shared}{a I:Addr}{o:Obj}{es:Array (Int×Value)}{ep:Nat}{t:SetTable}{i:Nat}{first:Value}{vs:ZM}
end
section
variable{prog:Program}{w:World}{A:Around}{E:ZW}{s:Shared}{a I:Addr}{o:Obj}{es:Array (Int×Value)}{ep:Nat}{t:SetTable}{vs:ZM}
end
section
variable{prog:Program}{w:World}{K:Type}[DecidableEq K]{knd:PySem.KeyKind prog w K}{A:Around}{E:ZW}{s:Shared}{a:Addr}
theorem Vn{h:Heap}{l b:Addr}{vs:ZM}{out:ZN}{ob:Obj}(hb:b≠l)(e:h.get? b=some ob):(sortedHeap h l vs out).get? b=some ob:=by
 rw[sortedHeap_old hb (Vt e)];exact e
end
end SetM
namespace L2
open PySem PySem.Spec PyProof.Rows
noncomputable def S0(P:Program)(w:World)(a:Addr)(us:List Key):HO:=.ext fun h=>SetM.D3 (Zg P w) h a us
theorem Aw{P:Program}{w:World}(k:Key){v:Value}(r:RelV (kV k) v):(Zg P w).is k v=true/\v.scannable=true:=by
 cases k with
 | inl i=>obtain⟨t,rfl⟩:=(show ∃t,v=Value.int i t from r);exact⟨W2 i t,rfl⟩
 | inr x=>obtain⟨t,rfl⟩:=(show ∃t,v=Value.str x t from r);exact⟨W1 x t,rfl⟩
theorem Inv.put{X:Cx}{XF:ZY}{j:St}{H:Hp}{s:Shared}{h':Heap}{a:Addr}{o:HO}{t':Nat}{d':Drawn}(I:Inv X XF j H s)(k:∀b u,s.heap.get? b=some u->h'.get? b=some u)(hp:s.heap.objs.size<=a)(new:Zh X.prog X.w (upd H a o) h' a o) :
  Inv X XF j (upd H a o) { s with heap:=h',toks:=t',drawn:=d' } :=
 I.call (g':=s.gens) (t':=t') (d':=d') (ch:=[]) (Un.laid k hp (I.hok.fresh hp)) (I.hok.laid k hp new) I.bare fun b z=>absurd z Tj
section
variable{X:Cx}
theorem Wk:∀{vs:ZM} {ss:ZD},StrsAre vs ss->Zw (ss.map V.str) vs
 | _,_,.nil=>.nil
 | _,_,.cons y t r=>.cons ⟨t,rfl⟩ (Wk r)
end
end L2
namespace ZipL
open PySem PySem.Calls PyProof.Rows PyProof.V PySem.Spec
section
variable{prog:Program}{w:World}{A:Around}{E:ZW}{s:Shared}{z TI TO T i1 i2 l1 l2:Addr}{f:Bool}{oT:Obj}{k1 k2:Nat}{xs ys:ZN}{x y:Value}
end
section
variable{prog:Program}{w:World}{A:Around}{R:Result->Shared->Prop}{E:ZW}{s:Shared}{z TI TO i1 i2 l1 l2 S:Addr}{xs ys:ZN}
end
end ZipL
namespace L2
open PySem PySem.Spec PyProof.Rows
section
variable{X:Cx}{XF:ZY}{j:St}{H H':Hp}{s:Shared}{h':Heap}
end
section
variable{X:Cx}{x y:Str}{p p2 pos U6:Pos}{a b:Expr}{t:TA}
end
def Fn(P:Program)(w:World)(K:W.Frag)(mg:ZV)(base:Heap)(k:Nat)(x:Str)(ps:ZD)(sp:Sp):Prop :=
 ∃f fd,Gq P w K mg base qp k f fd ps sp/\Binds K fd ps []/\W.keepIn K (.ref f)=true/\mg x=some (.ref f)
section
variable{X:Cx}{k:Nat}{x:Str}{ps:ZD}{sp:Sp}{p pos:Pos}{e:Expr}{es:ZC}{t:TA}
theorem ke(G:Fn X.prog X.w X.K X.mg X.base k x ps sp)(hr:V8 k X.A)(hg:Gl X x)(ha:PA X (e::es) t)(hdb:(x == ("__debug__" : Str))=false:=by decide)
  (he:starEach (e::es) X.env=(false,eval e X.env)::starEach es X.env:=by rfl) (Ij:(backTo pos (starEach es X.env)).any (·.1)=false:=by rfl) :
  PE X (.Call (.Name x p) (e::es) [] pos) (Zxj sp [] E0 t):=by
 obtain⟨f,fd,F,b,kp,m⟩:=G;exact ai F hr hg m kp b .nil Zxc ha hdb he Ij
theorem Gq.any{P:Program}{w:World}{K:W.Frag}{mg:ZV}{base:Heap}{CX:Xx}{k:Nat}{f:Addr}{fd:FuncData}{ps:ZD}{ι:Type}{C:ι->Prop}{sp:ι->Sp}(h:∀i,C i->Gq P w K mg base CX k f fd ps (sp i)) :
  Gq P w K mg base CX k f fd ps (fun vs H Q E=>∃i,C i/\sp i vs H Q E) :=
 ⟨fun vs H Q E ⟨i,c,q⟩=>(h i c).len vs H Q E q,fun A outer s H args us vs Q E hr he hb hv ⟨i,c,q⟩=>(h i c).run A outer s H args us vs Q E hr he hb hv q⟩
end
def Up(K:W.Frag)(H H':Hp):Prop:=∀a xs,Vy K H a xs->Vy K H' a xs
theorem Up.refl{K:W.Frag}(H:Hp):Up K H H:=fun _ _ h=>h
theorem Up.trans{K:W.Frag}{H H1 H2:Hp}(a:Up K H H1)(b:Up K H1 H2):Up K H H2:=fun c xs h=>b c xs (a c xs h)
theorem Zl.up{K:W.Frag}{H H':Hp}(e:Zl H H'):Up K H H':=fun a xs h=>by
 rcases h with (h | ⟨o,h⟩) | h
 .exact .inl (.inl (e _ _ h))
 .exact .inl (.inr ⟨o,e _ _ h⟩)
 .exact .inr h
theorem Zl.put{H H1:Hp}{p:Addr}{o:HO}(e:Zl H H1)(h:H p=none):Zl H (upd H1 p o):=fun b u q=>by
 rw[Zz (Zi q h)];exact e b u q
theorem Em{K:W.Frag}{H:Hp}{p:Addr}{o:HO}{ys:ZQ}(h:H p=some (.lst ys)):Up K H (upd H p o):=fun c xs q=>by
 have ne:∀u,H c=some u->(∀ys,u≠.lst ys)->c≠p:=fun u e n z=>by
  rw[z,h]at e;cases e;exact n _ rfl
 rcases q with (q | ⟨u,q⟩) | q
 .exact .inl (.inl (by rw[Zz (ne _ q fun _ z=>nomatch z)];exact q))
 .exact .inl (.inr ⟨u,by rw[Zz (ne _ q fun _ z=>nomatch z)];exact q⟩)
 .exact .inr q
section
variable{X:Cx}
theorem k6{T:String}{x:Str}{pos:Pos}(hg:Gl X x)(hm:X.mg x=none)(hv:bootBuiltins x=some (.type T))(hn:x ≠ "__name__" := by decide)(hd:(x == ("__debug__" : Str))=false:=by decide) :
  PE X (.Name x pos) (tC (.ty T)):=ae hg hm hv rfl hn hd
end
end L2
namespace DctE
open PySem PySem.SeqAt PySem.MeetsSeq
open PySem.AutoSeq1 (wpAny_loadPart')
end DctE
namespace L2
open PySem PySem.Spec PyProof.Rows
section
variable{X:Cx}{XF:ZY}{j:St}{H H':Hp}{s:Shared}{h':Heap}
theorem Inv.turnLay{t':Nat}{fp:ZU}{a:Addr}{o:HO}(I:Inv X XF j H s)(k:∀b u,b ∉ fp->s.heap.get? b=some u->h'.get? b=some u)(hf:∀b∈fp,Nk X XF H b)(hp:s.heap.objs.size<=a)(new:Zh X.prog X.w (upd H a o) h' a o) :
  Inv X XF j (upd H a o) { s with heap:=h',toks:=t' }:=by
 have hn:=I.hok.fresh hp
 have nf:∀b u,H b=some u->b ∉ fp:=fun b u e m=>by
  have z:=(hf b m).1;rw[e]at z;cases z
 have na:∀b u,s.heap.get? b=some u->b≠a:=fun b u e=>Bv (Wy (Vt e) hp)
 refine I.call (g':=s.gens) (d':=s.drawn) (ch:=fp) ⟨fun b u e _ _ hx=>k b u hx e,fun b u e _ _ hx=>⟨u.slots,k b u hx e⟩,fun b u e n _=>by rw[Zz (na b u e)];exact n,fun b u e hx=>⟨u,k b u hx e⟩,
  fun b xs e=>by rw[Zz (Zi e hn)];exact e,fun b ob u e=>by rw[Zz (Zi e hn)];exact e,fun b ps e=>⟨#[],by rw[Zz (Zi e hn)];simp[e]⟩⟩ (fun b u e=>?_) I.bare
  fun b hb=>⟨(hf b hb).2.2.2.1,(hf b hb).2.1,(hf b hb).2.2.2.2.1,(hf b hb).2.2.2.2.2⟩
 by_cases hb:b=a
 .subst hb;rw[Zx]at e;cases e;exact new
 .rw[Zz hb]at e;refine(I.hok b u e).stay (fun c v hc q=>k c v ?_ q) (fun c q=>by rw[Zz (Zi q hn)];exact q) fun c xs q=>by rw[Zz (Zi q hn)];exact q
  rcases hc with z | z
  .rw[z];exact nf b u e
  .exact nf c _ z
theorem Inv.turnL{t':Nat}{fp:ZU}(I:Inv X XF j H s)(k:∀b u,b ∉ fp->s.heap.get? b=some u->h'.get? b=some u)(hf:∀b∈fp,Nk X XF H b) :
  Inv X XF j H { s with heap:=h',toks:=t' }:=by
 have nf:∀b u,H b=some u->b ∉ fp:=fun b u e m=>by
  have z:=(hf b m).1;rw[e]at z;cases z
 refine I.call (g':=s.gens) (d':=s.drawn) (ch:=fp) ⟨fun b u e _ _ hx=>k b u hx e,fun b u e _ _ hx=>⟨u.slots,k b u hx e⟩,fun b u e n _=>n,fun b u e hx=>⟨u,k b u hx e⟩,
  fun b xs e=>e,fun b ob u e=>e,fun b ps e=>⟨#[],by simp[e]⟩⟩ (fun b u e=>?_) I.bare
  fun b hb=>⟨(hf b hb).2.2.2.1,(hf b hb).2.1,(hf b hb).2.2.2.2.1,(hf b hb).2.2.2.2.2⟩
 refine(I.hok b u e).stay (fun c v hc q=>k c v ?_ q) (fun c q=>q) fun c xs q=>q;rcases hc with z | z
 .rw[z];exact nf b u e
 .exact nf c _ z
end
section
variable{X:Cx}{pos:Pos}
theorem all_range(bs:List Bool):((List.range bs.length).all fun i=>(bs[i]?).getD true)=bs.all id:=by
 rw[Bool.eq_iff_iff,qg,qg];constructor
 .intro h b hb;obtain⟨i,hi⟩:=List.mem_iff_getElem?.mp hb;have:=h i (List.mem_range.mpr (B3.mp hi).1);rw[hi]at this;simpa using this
 .intro h i hi;have c9:=List.mem_range.mp hi;rw[Mz c9];simpa using h _ (G0e c9)
inductive Bo(K:W.Frag)(xs:ZQ)(H:Hp)(Q:VK):Prop
 | mk(p:Addr)(bs:List Bool)(Vj:xs=[.ref p])(Vq:Jj K H p (bs.map V.bl))(Jd:Q (.bl (bs.all id)) H):Bo K xs H Q
theorem x4(hc:X.calm=true):Y5 X (.builtin "all") (fun xs H Q=>Bo X.K xs H Q):=by
 intro XF s j H xs us Q I r h;obtain⟨p,bs,rfl,hq,q⟩:=h;obtain⟨u,rfl,rx⟩:=vals1 r;cases rx;obtain⟨its,rv,pl,hz⟩:=I.list hq;have hl:=pl.isList;have Qc:p<s.heap.objs.size:=by obtain⟨_,e,_⟩:=hl;exact Vt e
 have hlen:its.toArray.size=bs.length:=by rw[V7, <-rv.length,Z0]
 refine call_all_walk (wpAny_pyIter_list hl ?_)
 refine⟨s.heap.objs.size,[s.heap.objs.size,p],[s.heap.objs.size],its.toArray.size,_,_,fun i=>(bs[i]?).getD true,rfl,Walks.list (A:=X.A.in1) (I.ok.hd hc) _ p (Bv Qc) its.toArray,
  ⟨⟨_,Dv _ rfl,rfl,rfl⟩,hl.push _⟩,fun i v s' Q' E' hP hQ=>?_,fun h' tk hk=>?_⟩
 .have e0:its[i]?=some v:=by simpa using hP
  have hi:i<bs.length:=by
   have:=(B3.mp e0).1;rw[V7]at hlen;omega
  obtain⟨v',e1,e2⟩:=rv.get (i:=i) (x:=V.bl bs[i]) (by rw[B4,Mz hi];rfl);rw[e0]at e1;cases e1;cases e2;dsimp only at hQ;rw[Mz hi]at hQ;exact wpAny_truthy_bool hQ
 .rw[hlen,all_range];refine⟨.bl _,H,I.kept fun b x e=>hk b x (fun hm=>?_) (Yi _ e),rfl,q⟩;rw[U1.mp hm]at e;exact Nat.lt_irrefl _ (Vt e)
noncomputable def repS(i:Str)(n:Nat):Str:=⟨(List.replicate n i.cps).foldl (·++·) #[]⟩
theorem yk(a:ZS):∀(n:Nat) (acc:ZS),((List.replicate n a).foldl (·++·) acc).toList=acc.toList++(List.replicate n a.toList).flatten
 | 0,acc=>by simp
 | n+1,acc=>by
  rw[List.replicate_succ,List.foldl_cons,yk a n (acc++a),List.replicate_succ,List.flatten_cons,Array.toList_append,XX]
theorem T9(i:Str)(n:Nat):(repS i n).cps.toList=(List.replicate n i.cps.toList).flatten:=by
 show ((List.replicate n i.cps).foldl (·++·) #[]).toList=_;rw[yk]
 rfl
theorem yb(i:Str)(n:Nat):(repS i n).length=n * i.length:=by
 show (repS i n).cps.size=n * i.cps.size;rw[<-S9,T9,len_rep,S9]
inductive Wo(x:V)(y:V)(H:Hp)(Q:VK):Prop
 | mk(i:Str)(n:Int)(Vj:x=.str i)(Vq:y=.int n)(Jd:2<=n)(Km:n<=1000)(h4_:i.length≠0)(h5_:i.length<=1000)(h6_:Q (.str (repS i n.toNat)) H):Wo x y H Q
theorem oz:D5 X (binaryOp .Mult) (fun x y H Q=>Wo x y H Q):=by
 intro XF s j H x y v u Q I rx ry h;obtain⟨i,n,rfl,rfl,n2,n1,i0,i1,q⟩:=h;obtain⟨t,rfl⟩:=rx;obtain⟨t',rfl⟩:=ry;have c1:¬ n<1:=by omega
 have c2:(n == 1 || i.length == 0)=false:=by
  rw[Bool.or_eq_false_iff];exact⟨B0n.mpr (by omega),B0n.mpr i0⟩
 have hm:i.length * n.toNat<=1000000:=Uu (Nat.mul_le_mul i1 (show n.toNat<=1000 by omega)) (by decide);refine PySem.P.mul_str ?_ (fun _ _=>?_) (fun _ _=>?_) ?_
 .rw[Bool.or_eq_false_iff];exact⟨Nf (by omega),Nf (by omega)⟩
 .intro z;have hn0:(0:Int)<n:=by omega
  have h1:(1000:Int) * n<=2 ^ 63 - 1:=by omega
  have h2:=(Int.le_ediv_iff_mul_le hn0).mpr h1;omega
 .show decide (i.length * n.toNat>sizeLine)=false;exact Nf (Nat.not_lt_of_le (Uu hm (by decide)))
 .rw[if_neg c1,if_neg (by rw[c2];decide)];have hl:(repS i n.toNat).length<=sizeLine:=by rw[yb,Nat.mul_comm];exact Uu hm (by decide)
  exact⟨hl,⟨.str _,H,I.tok _,⟨_,rfl⟩,q⟩⟩
end
def Its(x:Str):It:=⟨fun i _=>i<x.cps.size,fun i H v H'=>H'=H/\∃c,x.cps[i]?=some c/\v=.str ⟨#[c]⟩,fun i _=>x.cps.size<=i⟩
theorem Qi{P:Program}{w:World}{K:PySem.W.Frag}{tg:Expr}(x:Str)(it:Addr)(T:String)(t:Tok)(hT:["enumerate","zip","dict_itemiterator","dict_reverseitemiterator","odict_iterator","itertools.zip_longest","itertools.pairwise"].contains T=false)
  (W:∀A:Around,A.handled=none->Walks P w A it [it] [it] x.cps.size (SignAt x) (fun i h=>h.IsStrIter it T x t i)) (hs:∀(A:Around) (i:Nat) (s:Shared) (Q:ZW) (E:ZW),s.heap.IsStrIter it T x t i->Q (.ref it) s->wpAny (model P w) A (pyIter (.ref it)) Q E s)
  (hd:∀(A:Around) (i:Nat) (s:Shared) (Q:ZT->Shared->Prop) (E:ZW),A.handled=none->x.cps.size<=i->s.heap.IsStrIter it T x t i->(∀h' tk,(∀b o,b≠it->s.heap.get? b=some o->h'.get? b=some o)->Q none { s with heap:=h',toks:=tk })->wpAny (model P w) A (pyNext (.ref it)) Q E s) :
  Turn P w K tg (Its x) [it] it (fun i h=>h.IsStrIter it T x t i) where
 mem:=by simp
 obj:=fun i h st b hb=>by
  have e:b=it:=by simpa using hb
  subst e;obtain⟨o,e,c,d⟩:=st;exact⟨o,e,fun v z=>by rw[d]at z;cases z⟩
 keep:=fun i h h' st k=>let ⟨o,ho,r⟩:=st;⟨o,k it (by simp) o ho,r⟩
 item:=by
  intro X hP hw hK hc i XF s j H E I hf st hg;subst hP hw hK;obtain⟨f0,f1,f2,f3,f4,f5⟩:=hf it (by simp);refine(W X.A (I.ok.hd hc)).item i s _ _ hg st fun v h' tk hv Lu kk=>?_;obtain⟨c,u,qc,rfl⟩:=hv;have I1:Inv X XF j H { s with heap:=h',toks:=tk }:=I.turned (fun b o hb e=>kk b o (by simpa using hb) e) f0 f1 f3 f4 f5;obtain⟨o,e,c1,d⟩:=id Lu;exact⟨_,rfl,W7 (s:={ s with heap:=h',toks:=tk }) e c1 d hT ⟨.str ⟨#[c]⟩,H,I1,⟨u,rfl⟩,⟨rfl,c,qc,rfl⟩,Lu,fun b hb=>(hf b hb).1⟩⟩
 done:=by
  intro X hP hw hK hc i XF s j H E I hf st hg;subst hP hw hK;obtain⟨f0,f1,f2,f3,f4,f5⟩:=hf it (by simp);exact hd X.A i s _ _ (I.ok.hd hc) hg st fun h' tk eb=>⟨rfl,I.turned (fun b o hb e=>eb b o hb e) f0 f1 f3 f4 f5⟩
 self:=fun A i s Q E st h=>hs A i s Q E st h
inductive bh(R:(It->Hp->Prop))(v:V)(H1:Hp):Prop
 | mk(x)(Vj:v=.str x)(Vq:R (Its x) H1):bh R v H1
def iStr(te:TE):TI:=fun j H R=>te j H fun v H1=>bh R v H1
section
variable{X:Cx}{tg l:Expr}{tl:TE}
theorem pi_str(hl:PE X l tl):PI X tg l (iStr tl):=by
 intro XF s j H R I h;refine Z3 (hl XF s j H _ I h) fun v s1 ⟨v',H1,I1,r1,q1⟩=>?_;obtain⟨x,rfl,q⟩:=q1;obtain⟨t,rfl⟩:=r1
 have fin:∀b∈[s1.heap.objs.size],Nk X XF H1 b:=fun b hb=>by
  have e:b=s1.heap.objs.size:=by simpa using hb
  subst e;exact I1.fpOk (Yz _) (I1.hok.fresh (Yz _))
 cases ha:x.cps.all (·<128)
 .refine wpAny_pyIter_wide ha ?_
  exact⟨s1.heap.objs.size,[s1.heap.objs.size],_,_,H1,rfl,I1.kept (t':=s1.toks) fun b o e=>Yi _ e,Qi x _ "str_iterator" t (by decide) (fun A hA=>Walks.strWide hA _ x t) (fun A i s Q E st h=>wpAny_pyIter_striter_wide st h)
   (fun A i s Q E hA hi st h=>wpAny_pyNext_wide_end hA st (by simp[hi]) fun h' he=>h h' s.toks fun b o hb e=>he b o hb e),⟨_,Dv _ rfl,rfl,rfl⟩,fin,q⟩
 .refine wpAny_pyIter_ascii ha ?_
  exact⟨s1.heap.objs.size,[s1.heap.objs.size],_,_,H1,rfl,I1.kept (t':=s1.toks) fun b o e=>Yi _ e,Qi x _ "str_ascii_iterator" t (by decide) (fun A hA=>Walks.strAscii hA _ x t) (fun A i s Q E st h=>wpAny_pyIter_striter_ascii st h)
   (fun A i s Q E hA hi st h=>wpAny_pyNext_ascii_end hA st (by simp[hi]) fun h' he=>h h' s.toks fun b o hb e=>he b o hb e),⟨_,Dv _ rfl,rfl,rfl⟩,fin,q⟩
end
def Itz(K:W.Frag)(l1 l2:Addr):It :=
  ⟨fun i H=>∃xs ys x y,Jj K H l1 xs/\Jj K H l2 ys/\xs[i]?=some x/\ys[i]?=some y,
   fun i H v H'=>∃p x y,v=.ref p/\H p=none/\H'=upd H p (.tup [x,y])/\(∀xs,Jj K H l1 xs->xs[i]?=some x)/\∀ys,Jj K H l2 ys->ys[i]?=some y,
   fun i H=>∃xs ys,Jj K H l1 xs/\Jj K H l2 ys/\(xs.length<=i\/ys.length<=i)⟩
theorem wj{P:Program}{w:World}{K:W.Frag}{es:ZC}{k:Nat}{pos:Pos}(z TI TO i1 i2 l1 l2:Addr)(D:ZipApart z TI TO i1 i2 l1 l2) :
  Turn P w K (.Tuple es k pos) (Itz K l1 l2) [z,TI,TO,i1,i2] z (fun i h=>IsZip h z TI TO .none/\IsPair h TI (.ref i1) (.ref i2)/\(∃a b,IsPair h TO a b)/\h.IsListIter i1 l1 i/\h.IsListIter i2 l2 i) where
 mem:=by simp
 obj:=fun i h st b hb=>by
  obtain⟨hz,Fv,⟨a,c,Oq⟩,⟨o1,e1,_,d1⟩,⟨o2,e2,_,d2⟩⟩:=st;simp only[Y6,Tj,or_false]at hb;rcases hb with rfl | rfl | rfl | rfl | rfl
  .exact⟨_,hz,fun v q=>nomatch q⟩
  .exact⟨_,Fv,fun v q=>nomatch q⟩
  .exact⟨_,Oq,fun v q=>nomatch q⟩
  .exact⟨_,e1,fun v q=>by rw[d1]at q;cases q⟩
  .exact⟨_,e2,fun v q=>by rw[d2]at q;cases q⟩
 keep:=fun i h h' st hk=>by
  obtain⟨hz,Fv,⟨a,b,Oq⟩,h1,h2⟩:=st;exact⟨hk z (by simp) _ hz,hk TI (by simp) _ Fv,⟨a,b,hk TO (by simp) _ Oq⟩,h1.at fun o e=>hk i1 (by simp) o e,h2.at fun o e=>hk i2 (by simp) o e⟩
 item:=by
  intro X hP hw hK hc i XF s j H E I hf st hg;subst hP hw hK;obtain⟨xs,ys,x,y,q1,q2,g1,g2⟩:=hg;obtain⟨hz,Fv,⟨a,b,Oq⟩,h1,h2⟩:=st;obtain⟨cu,v1,zk,z1⟩:=I.list q1;obtain⟨i7,v2,zy,z2⟩:=I.list q2;obtain⟨u1,e1,r1⟩:=v1.get g1;obtain⟨u2,e2,r2⟩:=v2.get g2;refine wpAny_pyNext_zip_item D hz Fv Oq h1 h2 zk.isList zy.isList (x:=u1) (y:=u2) (by simpa using e1) (by simpa using e2) fun h' a1 a2 a3 a4 a5 a6 hk=>?_;refine⟨_,rfl,wpAny_letOwnedTupleGo_zip (s:={ s with heap:=h' }) a1 fun h'' W6 Ng=>?_⟩;have lt:∀{c o},s.heap.get? c=some o->s.heap.objs.size≠c:=fun e=>Nat.ne_of_gt (Vt e);have nz:s.heap.objs.size≠z:=lt hz
  have kk:∀c u,c ∉ [z,TI,TO,i1,i2]->s.heap.get? c=some u->h''.get? c=some u:=fun c u m e=>by
   simp only[Y6,Tj,or_false,not_or]at m;exact Ng.extBut _ _ m.1 (hk c u m.1 m.2.2.1 m.2.2.2.1 m.2.2.2.2 e)
  have fresh:=I.hok.fresh (Yz s.heap.objs.size);have J:Inv X XF j (upd H s.heap.objs.size (.tup [x,y])) { s with heap:=h'',toks:=s.toks }:=I.turnLay kk hf (Yz _) ⟨by show 2<=sizeLine;decide,[u1,u2],.cons r1 (.cons r2 .nil),⟨_,Ng.extBut _ _ nz a5,rfl,⟨_,rfl⟩,rfl⟩⟩;refine⟨.ref s.heap.objs.size,_,J,rfl,⟨_,x,y,rfl,fresh,rfl,fun ws hw=>by rw[I.list_inj hw q1];exact g1,fun ws hw=>by rw[I.list_inj hw q2];exact g2⟩,⟨W6,Ng.extBut _ _ D.TIz (hk _ _ D.TIz D.TITO D.TIi1 D.TIi2 Fv),⟨_,_,Ng.extBut _ _ D.TOz a2⟩,a3.extBut Ng.extBut D.i1z,a4.extBut Ng.extBut D.i2z⟩,fun c hc=>?_⟩
  have nc:c≠s.heap.objs.size:=fun q=>by
   subst q;simp only[Y6,Tj,or_false]at hc;rcases hc with q | q | q | q | q
   .exact lt hz q
   .exact lt Fv q
   .exact lt Oq q
   .obtain⟨_,e,_⟩:=h1;exact lt e q
   .obtain⟨_,e,_⟩:=h2;exact lt e q
  rw[Zz nc];exact(hf c hc).1
 done:=by
  intro X hP hw hK hc i XF s j H E I hf st hg;subst hP hw hK;obtain⟨xs,ys,q1,q2,g⟩:=hg;obtain⟨hz,Fv,⟨a,b,Oq⟩,h1,h2⟩:=st;obtain⟨cu,v1,zk,z1⟩:=I.list q1;obtain⟨i7,v2,zy,z2⟩:=I.list q2;have hl1:=v1.length;have ed:=v2.length;refine wpAny_pyNext_zip_end (I.ok.hd hc) D hz Fv Oq h1 h2 zk.isList zy.isList (by rcases g with g | g;exact .inl (by simp;omega);exact .inr (by simp;omega)) fun h' hk=>⟨rfl,I.turnL (t':=s.toks) (fp:=[z,TI,TO,i1,i2]) (fun c u m e=>?_) hf⟩;simp only[Y6,Tj,or_false,not_or]at m;exact hk c u m.1 m.2.2.1 m.2.2.2.1 m.2.2.2.2 e
 self:=fun A i s Q E st h=>wpAny_pyIter_zip st.1 h
inductive bt(K:W.Frag)(R:(It->Hp->Prop))(vs:ZQ)(H1:Hp):Prop
 | mk(p q)(Vj:vs=[.ref p,.ref q])(Vq:(∃xs,Jj K H1 p xs))(Jd:(∃ys,Jj K H1 q ys))(Km:R (Itz K p q) H1):bt K R vs H1
def iZip(K:W.Frag)(t:TA):TI:=fun j H R=>t j H fun vs H1=>bt K R vs H1
section
variable{X:Cx}{es:ZC}{k:Nat}{p2 pos U6:Pos}{a b:Expr}{t:TA}
theorem pi_zip(hgz:Gl X "zip")(hmz:X.mg "zip" = none)(ha:PA X [a,b] t)
  (he2:starEach [a,b] X.env=(false,eval a X.env)::starEach [b] X.env:=by rfl) (Ij:(backTo U6 (starEach [b] X.env)).any (·.1)=false:=by rfl) :
  PI X (.Tuple es k pos) (.Call (.Name "zip" p2) [a,b] [] U6) (iZip X.K t):=by
 intro XF s j H R I h;refine wpAny_Call_Name_kw (N0 I hgz hmz (by decide +kernel:bootBuiltins "zip" = some (.type "zip")) ?_ (by decide) (by decide));refine callWith_type1 (Z3 (ha U6 XF s j H _ I h) fun us s1 ⟨vs,H1,I1,r1,q1⟩=>?_) he2 Ij;obtain⟨l1,l2,rfl,⟨xs,hx⟩,⟨ys,hy⟩,q⟩:=q1;obtain⟨u1,u2,rfl,e1,e2⟩:=vals2 r1;cases e1;cases e2;obtain⟨cu,v1,zk,z1⟩:=I1.list hx;obtain⟨i7,v2,zy,z2⟩:=I1.list hy;have n1:l1<s1.heap.objs.size:=by obtain⟨_,e,_⟩:=zk.isList;exact Vt e
 have n2:l2<s1.heap.objs.size:=by obtain⟨_,e,_⟩:=zy.isList;exact Vt e
 refine call_zip_2 zk.isList zy.isList fun h2 b1 b2 b3 b4 b5 b6 k2=>?_;refine wpAny_pyIter_zip (s:={ s1 with heap:=h2 }) b1 ?_;have J:Inv X XF j H1 { s1 with heap:=h2,toks:=s1.toks }:=I1.kept k2;refine⟨_,[s1.heap.objs.size+4,s1.heap.objs.size+2,s1.heap.objs.size+3,s1.heap.objs.size,s1.heap.objs.size+1],_,_,H1,rfl,J,wj _ _ _ _ _ l1 l2 (zipApart_new n1 n2),⟨b1,b2,⟨_,_,b3⟩,b4,b5⟩,fun c hc=>?_,q⟩
 have ge:s1.heap.objs.size<=c:=by
  simp only[Y6,Tj,or_false]at hc;rcases hc with q | q | q | q | q<;>rw[q]<;>first | exact Yz _ | exact Nat.le_add_right _ _
 exact I1.fpOk ge (I1.hok.fresh ge)
end
section
variable{X:Cx}
inductive Cf(K:W.Frag)(x:V)(y:V)(H:Hp)(Q:VK):Prop
 | mk(l b zs)(Vj:x=.ref l)(Vq:y=.ref b)(Jd:Vy K H l [])(Km:Vy K H b zs)(h4_:Q (.ref b) H):Cf K x y H Q
theorem gx:D5 X (binaryOp .Add) (fun x y H Q=>Cf X.K x y H Q):=by
 intro XF s j H x y v u Q I rx ry h;obtain⟨l,b,zs,rfl,rfl,hl,hb,q⟩:=h;cases rx;cases ry;obtain⟨i1,r1,p1,z1⟩:=I.tuple hl;obtain⟨i2,r2,p2,z2⟩:=I.tuple hb;have e1:i1=[]:=by cases r1;rfl
 subst e1;obtain⟨⟨c1,d1,t1,s1⟩,o1,k1,n1,m1⟩:=id p1;obtain⟨⟨c2,d2,t2,s2⟩,o2,k2,n2,m2⟩:=id p2;simp only at k1 m1 k2 m2;subst k1 m1 k2 m2;exact concat_meets ⟨_,o1,rfl⟩ ⟨_,o2,rfl⟩ noFill_tuple_add seq_tuple_add PySem.F.slot_tuple_add PySem.F.entry_tuple_add (PySem.F.args_tuple_add_2 _ _) (tuple_addW0 l b _ _ n1 n2 d1 d2 s1 s2 rfl) ⟨o1,o2,⟨.ref b,H,I,rfl,q⟩⟩
end
end L2
namespace HT
open PySem PySem.Spec PyProof.Rows
section
variable{prog:Program}{w:World}{A:Around}{E:ZW}{s:Shared}
theorem Dq{t sl:Addr}{items:ZN}{vl vu:Value}{lo hi:ZR}{Q:ZW}(ht:IsTup s.heap t items)(hs:s.heap.IsSliceOf sl vl vu .none)(pl:IsPart vl lo)(pu:IsPart vu hi)
  (hw:Ym items.size 0 lo=0/\Ym items.size items.size hi=items.size) (h:Q (.ref t) s):wpAny (model prog w) A (getItem (.ref t) (.ref sl)) Q E s:=by
 obtain⟨os,hos,hcs,hds⟩:=id hs;have hTs:s.TypeIs (.ref sl) "slice" := ⟨os,hos,hcs⟩;unfold getItem
 try with_reducible refine wpAny_holding ?_
 first | refine Zb (Yg ?_) | skip
 refine Zb (wpAny_sequenceKey ht.typeIs (by decide) ?_)
 refine Zb (wpAny_callSpecial?_slot (name:=Str.ofString "__getitem__") ht.typeIs slot_tuple_getitem
  (wpAny_call_entry slot_tuple_getitem ht.typeIs entry_tuple_getitem ?_ (args_tuple_getitem _ _)))
 show wpAny _ _ (Builtin.Tuple.tupleItemsOf (.ref t) >>= _) _ _ s;refine Zb (tupleItemsOf_ ht ?_);refine Zb (wpAny_typeOf hTs ?_);rw[if_pos (by decide)];refine Zb (U3 hs pl pu ?_)
 have hyes:(((Ym items.size 0 lo:Nat):Int) == 0 && (1:Int) == 1 && (Ym items.size items.size hi - Ym items.size 0 lo) == items.size)=true:=by
  rw[hw.1,hw.2];simp
 show wpAny _ _ (if (((Ym items.size 0 lo:Nat):Int) == 0 && (1:Int) == 1 && (Ym items.size items.size hi - Ym items.size 0 lo) == items.size)=true then _ else _) _ _ s;rw[if_pos hyes];refine Zb (m:=Builtin.Tuple.tupleIsExact (.ref t)) (Zb (wpAny_typeOf ht.typeIs (Yg ?_)));rw[if_pos (by decide)];exact Zb (wpAny_rule (Yg ⟨_,rfl,Yg h⟩))
end
end HT
namespace L2
open PySem PySem.Spec PyProof.Rows
section
variable{X:Cx}{e:Expr}{te:TE}{lo hi:Option Expr}{tl th:TO}{pos p2 p3 p4:Pos}{j1:Nat}
theorem Zl.lay{H:Hp}{p:Addr}{o:HO}(h:H p=none):Zl H (upd H p o):=fun b u q=>by rw[Zz (Zi q h)];exact q
inductive yp(K:W.Frag)(x:V)(lo:ZR)(hi:ZR)(H:Hp)(Q:VK):Prop
 | mk(a xs)(Vj:x=.ref a)(Vq:Vy K H a xs)(Jd:∀p H',Zl H H'->Vy K H' p (C2 xs lo hi)->Q (.ref p) H'):yp K x lo hi H Q
def rSlG(K:W.Frag):V->ZR->ZR->Hp->VK->Prop:=fun x lo hi H Q=>yp K x lo hi H Q
theorem ph:SlR X (rSlG X.K):=by
 intro XF s j H x v vl vu lo hi sl Q I rx hs pl pu h;obtain⟨a,xs,rfl,hx,q⟩:=h;by_cases hw:HT.Ym xs.length 0 lo=0/\HT.Ym xs.length xs.length hi=xs.length
 .cases rx;obtain⟨its,r,ht,hz⟩:=I.tuple hx;have hlen:its.toArray.size=xs.length:=by rw[V7];exact r.length.symm
  refine⟨"tuple",_,slot_tuple_getitem.lookup,ht.typeIs, ?_⟩;refine HT.Dq ht hs pl pu (by rw[hlen];exact hw) ⟨.ref a,H,I,rfl,q a H (Zl.refl H) ?_⟩
  have e:C2 xs lo hi=xs:=by
   unfold C2;rw[hw.1,hw.2,List.drop_zero,Nat.sub_zero,List.take_length]
  rw[e];exact hx
 .exact sl_tup XF s j H _ v vl vu lo hi sl Q I rx hs pl pu ⟨a,xs,rfl,hx,hw,fun p hp=>q p _ (Zl.lay hp) (Vy.of Zx)⟩
inductive Ad(K:W.Frag)(x:V)(y:V)(H:Hp)(Q:VK):Prop
 | mk(a b xs ys)(Vj:x=.ref a)(Vq:y=.ref b)(Jd:Vy K H a xs)(Km:Vy K H b ys)(h4_:xs.length+ys.length<=sizeLine)(h5_:∀p H',Zl H H'->Vy K H' p (xs++ys)->Q (.ref p) H'):Ad K x y H Q
def rCatG(K:W.Frag):R2:=fun x y H Q=>Ad K x y H Q
theorem om:D5 X (binaryOp .Add) (rCatG X.K):=by
 intro XF s j H x y v u Q I rx ry h;obtain⟨a,b,xs,ys,rfl,rfl,ha,hb,hz,q⟩:=h;cases xs with
 | nil=>exact gx XF s j H _ _ v u Q I rx ry ⟨a,b,ys,rfl,rfl,ha,hb,q b H (Zl.refl H) hb⟩
 | cons x xs =>
  refine oy XF s j H _ _ v u Q I rx ry ⟨a,b,x::xs,ys,rfl,rfl,ha,hb,(fun z=>nomatch z),hz,fun e=>?_,fun _ p hp=>q p _ (Zl.lay hp) (Vy.of Zx)⟩;subst e;exact q a H (Zl.refl H) (by rw[XQ];exact ha)
end
structure FnV(X:Cx)(f:Addr)(ps:ZD)(sp:Sp):Prop where
 ok:∃k fd,Gq X.prog X.w X.K X.mg X.base qp k f fd ps sp/\Binds X.K fd ps []/\V8 k X.A
 kp:W.keepIn X.K (.ref f)=true
section
variable{X:Cx}{x:Str}{p pos:Pos}{e:Expr}{es:ZC}{tn:TE}{t:TA}{Y:Cx->Addr->ZD->Sp->Prop}
inductive Q7(X:Cx)(t:TA)(j:St)(Q:VK)(v:V)(H1:Hp):Prop
 | mk(f ps sp)(Vj:v=.ref f)(Vq:FnV X f ps sp)(Jd:t j H1 fun vs H2=>sp vs H2 Q E0):Q7 X t j Q v H1
def tCallV(X:Cx)(tn:TE)(t:TA):TE:=fun j H Q=>tn j H fun v H1=>Q7 X t j Q v H1
theorem ko(hn:PE X (.Name x p) tn)(ha:PA X (e::es) t)
  (he:starEach (e::es) X.env=(false,eval e X.env)::starEach es X.env:=by rfl) (Ij:(backTo pos (starEach es X.env)).any (·.1)=false:=by rfl) :
  PE X (.Call (.Name x p) (e::es) [] pos) (tCallV X tn t):=by
 intro XF s j H Q I h;refine wpAny_Call_Name_kw (Z3 (hn XF s j H _ I h) fun v s1 ⟨v',H1,I1,r1,f,ps,sp,e1,⟨⟨k,fd,F,b,hr⟩,kp⟩,q1⟩=>?_);subst e1;cases r1;refine W.callWith_K (h₀:=X.base) I1.ok.mod.kin kp (Z3 (ha pos XF s1 j H1 _ I1 q1) fun us s2 ⟨vs,H2,I2,r2,q2⟩=>⟨I2.kIn, ?_⟩) he Ij;exact v7 (sp:=sp) (E:=E0) F hr b .nil Zxc I2 r2 (by rw[XQ];exact q2)
end
section
variable{K:W.Frag}{H H1 H':Hp}
end
section
variable{X:Cx}
theorem i5{XF:ZY}{j:St}{H:Hp}{s:Shared}{a:Addr}{xs:ZQ}{c:Value}{b:Bool}{Q:ZW}{E:ZW}(I:Inv X XF j H s)(q:Vy X.K H a xs)(e:W.kitOne X.K (.type "tuple") c=some b)(h:∀tk,Q (.bool b) { s with toks:=tk }) :
  wpAny (model X.prog X.w) X.A (call (.builtin "isinstance") [.ref a,c]) Q E s:=by
 obtain⟨its,_,⟨o,h1,h2,_⟩,_⟩:=I.tuple q;exact W.kia_one W.kitx_tuple I.kIn ⟨o,h1,h2⟩ e (fun z=>nomatch z) h
end
section
variable{K:W.Frag}{H:Hp}{a D:Addr}{xs:ZQ}{ts:List Th}{te:TE}{tt:TT}{fin:Hp->Prop}{τ:St}{o:Option V}
end
end L2
namespace K01
open PySem PySem.Spec PyProof.Rows L2
end K01
namespace L2
open PySem PySem.Spec PyProof.Rows
section
variable{X:Cx}
end
end L2
namespace RevA
open PySem
section
variable{prog:Program}{w:World}{A:Around}{E:ZW}{s:Shared}{r t:Addr}{its:ZN}{i:Int}
end
end RevA
namespace RevA
open PySem PyProof.Rows
section
variable{prog:Program}{w:World}{A:Around}{E:ZW}{s:Shared}{r t:Addr}{its:ZN}
end
section
variable{prog:Program}{w:World}{A:Around}{E:ZW}{s:Shared}{r t:Addr}{its:ZN}
end
section
variable{prog:Program}{w:World}{A:Around}{E:ZW}{s:Shared}{R:Result->Shared->Prop}{I S:Addr}{fp wr:ZU}{n:Nat}{P:Nat->Value->Prop}{St:Nat->Heap->Prop}{T:String}
end
section
variable{prog:Program}{w:World}{A:Around}{E:ZW}{s:Shared}{I:Addr}{fp wr:ZU}{n:Nat}{P:Nat->Value->Prop}{St:Nat->Heap->Prop}{T:String}
end
section
variable{prog:Program}{w:World}{A:Around}{E:ZW}{s:Shared}{r t:Addr}{its:ZN}
end
section
variable{prog:Program}{w:World}{A:Around}{E:ZW}{s:Shared}{I:Addr}{fp wr:ZU}{n:Nat}{P:Nat->Value->Prop}{St:Nat->Heap->Prop}{T:String}
end
section
variable{prog:Program}{w:World}{A:Around}{E:ZW}{s:Shared}
end
end RevA
namespace IdxT
open PySem PySem.SeqAt PySem.MeetsSeq
open PySem.AutoSeq1 (wpAny_loadPart')
end IdxT
namespace L2
open PySem PySem.Spec PyProof.Rows
section
variable{X:Cx}{p p2 pos U6:Pos}{a:Expr}{t:TA}
end
section
variable{X:Cx}{e:Expr}{t1 t2:TE}
end
section
variable{X:Cx}{p p2 pos U6:Pos}{a:Expr}{t:TA}
end
section
variable{X:Cx}
end
section
variable{X:Cx}{k:Nat}{C:Addr}{m x:Str}{ps:ZD}{sp:Sp}{o e:Expr}{es:ZC}{ta:TE}{t:TA}{p pos apos:Pos}
end
end L2
namespace EnuT
open PySem
section
variable{prog:Program}{w:World}{A:Around}{E:ZW}{s:Shared}
theorem nextT{it t:Addr}{i:Nat}{its:ZN}{x:Value}{Q:ZW}(hi:s.heap.IsTupleIter it t i)(ht:s.heap.IsTuple t its)(hx:its[i]?=some x)
  (q:∀h',h'.IsTupleIter it t (i+1)->Heap.SameBut it s.heap h'->Q x { s with heap:=h' }):wpAny (model prog w) A (Builtin.SmallTypes.nextOf (.ref it)) Q E s:=by
 obtain⟨u,hu,hc,hd⟩:=id hi;obtain⟨p,hp,_,n,dp⟩:=ht;unfold Builtin.SmallTypes.nextOf;refine Zb (wpAny_callSpecial?_slot (name:=Str.ofString "__next__") hi.typeIs F.slot_tuple_iterator_next (wpAny_call_entry F.slot_tuple_iterator_next hi.typeIs F.entry_tuple_iterator_next ?_ (F.args_tuple_iterator_next_1 _)));show wpAny _ _ (field (.ref it) 0 >>= _) _ _ s;refine Zb (wpAny_field hu hd (x:=.ref t) rfl ?_);show wpAny _ _ (if (Value.ref t == Value.none)=true then _ else _) _ _ s;rw[if_neg (show ¬ ((Value.ref t == Value.none)=true) from B5)];show wpAny _ _ (field (.ref it) 1 >>= _) _ _ s;refine Zb (wpAny_field hu hd (x:=.int i 0) rfl ?_);show wpAny _ _ (seqItems? (.ref t) >>= _) _ _ s;refine Zb (wpAny_seqItems hp dp ?_);simp only[XG,hx];refine Zb (wpAny_setField hu hd (by simp) (Yg ⟨x,rfl,Yg (q _ ?_ (Heap.SameBut.update ..))⟩));exact⟨_,Heap.get?_update_self _ hu (Obj.isFreed_of_fields (Obj.data_mapFields hd _)),(Obj.cls_mapFields ..).trans hc,by rw[Obj.data_mapFields hd];simp[rawInt]⟩
theorem endT{it t:Addr}{i:Nat}{its:ZN}{Q:ZW}(hh:A.handled=none)(hi:s.heap.IsTupleIter it t i)(ht:s.heap.IsTuple t its)(hx:its[i]?=none)
  (q:∀h' e,Heap.ExtBut it s.heap h'->(∃o,h'.get? e=some o/\o.cls=.type "StopIteration")->E (.ref e) { s with heap:=h' }):wpAny (model prog w) A (Builtin.SmallTypes.nextOf (.ref it)) Q E s:=by
 obtain⟨u,hu,hc,hd⟩:=id hi;obtain⟨p,hp,_,n,dp⟩:=ht;unfold Builtin.SmallTypes.nextOf;refine Zb (wpAny_callSpecial?_slot (name:=Str.ofString "__next__") hi.typeIs F.slot_tuple_iterator_next (wpAny_call_entry F.slot_tuple_iterator_next hi.typeIs F.entry_tuple_iterator_next ?_ (F.args_tuple_iterator_next_1 _)));show wpAny _ _ (field (.ref it) 0 >>= _) _ _ s;refine Zb (wpAny_field hu hd (x:=.ref t) rfl ?_);show wpAny _ _ (if (Value.ref t == Value.none)=true then _ else _) _ _ s;rw[if_neg (show ¬ ((Value.ref t == Value.none)=true) from B5)];show wpAny _ _ (field (.ref it) 1 >>= _) _ _ s;refine Zb (wpAny_field hu hd (x:=.int i 0) rfl ?_);show wpAny _ _ (seqItems? (.ref t) >>= _) _ _ s;refine Zb (wpAny_seqItems hp dp ?_);simp only[XG,hx];refine Zb (wpAny_rule (Zb (wpAny_setField hu hd (by simp) ?_)));show wpAny _ _ (newExc (.type "StopIteration") [] >>= _) _ _ _;refine Zb ?_;simp only[newExc,newTuple];refine Zb (wpAny_newObj_type ?_ (by size_fits));refine Zb (m:=firstArgMember _ _) (wpAny_of_eq (a:=Value.none) (by first | rfl | (simp only[firstArgMember];rfl)) ?_);refine wpAny_newObj_type ?_ (by size_fits);simp only[raiseNew];refine Zb (wpAny_handled ?_)
 first | rw[show A.in1.handled=none from hh] | rw[hh]
 refine Zb (Yg (wpAny_throw ?_));exact q _ _ (((Heap.SameBut.update ..).extBut.push _).push _) ⟨_,Dv _ rfl,rfl⟩
end
section
variable{prog:Program}{w:World}{A:Around}{E:ZW}{s:Shared}
end
end EnuT
namespace L2
open PySem PySem.Spec PyProof.Rows
section
variable{X:Cx}{es:ZC}{k:Nat}{p2 pos U6:Pos}{a:Expr}{t:TA}
end
section
variable{X:Cx}
end
section
variable{X:Cx}{p p2 pos U6:Pos}{a b:Expr}{t:TA}
end
end L2
namespace EX
open PySem
section
variable{M:Model}{A:Around}{E:ZW}{s:Shared}{env:Env}{outer:List Env}{base:Heap}{L e T:Addr}{oe:Obj}{vs:ZN}{Q:ZA}
end
section
variable{M:Model}{A:Around}{E:ZW}{s:Shared}{env:Env}
end
section
variable{M:Model}{A:Around}{E:ZW}{s:Shared}{env:Env}
end
section
variable{prog:Program}{w:World}{A:Around}{E:ZW}{s:Shared}{env:Env}
end
section
variable{prog:Program}{w:World}{A:Around}{E:ZW}{h:Heap}{g:Array GenState}{d:Drawn}{t:Nat}{os:OsState}
variable{nm q:Str}{C N:Addr}{bs bm bmB:ZM}{hdct:Bool}{sn:ZD}{sub:ZM}{ab:Bool}{col:Option Bool}{dd:ZP}{k0 k1 k2 k3 k5:ZT}{B newId initId:String}
end
section
variable{prog:Program}{w:World}{A:Around}{E:ZW}{h:Heap}{g:Array GenState}{d:Drawn}{t:Nat}{os:OsState}
variable{nm q:Str}{C N:Addr}{bs bm bmB:ZM}{hdct:Bool}{sn:ZD}{sub:ZM}{ab:Bool}{col:Option Bool}{dd:ZP}{k0 k1 k2 k3 k5:ZT}{B newId initId:String}
end
end EX
namespace EX
open PySem Builtin Builtin.ObjectAttr
section
variable{prog:Program}{w:World}{A:Around}{E:ZW}{s:Shared}{x C:Addr}{o:Obj}{name:Str}{v:Value}
end
section
variable{prog:Program}{w:World}{A:Around}{E:ZW}{s:Shared}{x C dx:Addr}{o:Obj}{name:Str}{v:Value}{mA:ZV}{vs:ZN}
end
end EX
namespace EX
open PySem
section
variable{prog:Program}{w:World}{A:Around}{E:ZW}{h:Heap}{g:Array GenState}{d:Drawn}{t:Nat}{os:OsState}
variable{nm q:Str}{C N:Addr}{bs bm bmB:ZM}{hdct:Bool}{sn:ZD}{sub:ZM}{ab:Bool}{col:Option Bool}{dd:ZP}{k0 k1 k2 k3 k5:ZT}{B newId initId:String}
end
end EX
namespace EX
open PySem PySem.W Builtin Builtin.ObjectAttr
section
variable{prog:Program}{w:World}{A:Around}{E:ZW}{s:Shared}{x C:Addr}{o:Obj}{od:Option Obj}{K:Frag}
end
end EX
namespace L2
open PySem PySem.Spec PyProof.Rows
section
variable{P:Program}{w:World}{H:Hp}{h:Heap}{a C:Addr}{od:ZP}{new:Bool}{fs:List (Str×V)}
end
section
variable{K:W.Frag}{C x:Addr}{M:Model}{h:Heap}{f:Str}{o:Obj}
end
section
variable{X:Cx}{XF:ZY}{j:St}{H:Hp}{s:Shared}{h':Heap}{t':Nat}
end
section
variable{X:Cx}{o e value:Expr}{f:Str}{pos pos':Pos}{ta tv:TE}
end
section
variable{X:Cx}{CX:Xx}{k:Nat}{f C:Addr}{fd:FuncData}{ps:ZD}{sp:Sp}{E:XK}{x m:Str}{p pos:Pos}{e:Expr}{es:ZC}{t:TA}
end
section
variable{X:Cx}{XF pn:ZY}{j:St}{H:Hp}{s:Shared}{e:Addr}{W:St->Hp->Addr->Addr->ZP->Prop}
end
section
variable{X:Cx}{XF:ZY}{j:St}{H:Hp}{s:Shared}
end
section
variable{X:Cx}{W:St->Hp->Addr->Addr->ZP->Prop}
end
section
variable{X:Cx}
end
section
variable{X:Cx}
end
end L2
namespace EX
open PySem
section
variable{M:Model}{A:Around}{E:ZW}{s:Shared}{env:Env}{outer:List Env}{base:Heap}{L e T:Addr}{oe:Obj}{vs:ZN}{Q:ZA}
end
end EX
namespace L2
open PySem PySem.Spec PyProof.Rows
section
variable{X:Cx}{XF:ZY}{j:St}{H:Hp}{s s':Shared}
end
section
variable{P:Program}{w:World}{K:W.Frag}{mg:ZV}{base:Heap}
end
section
variable{X:Cx}{W:XWT}{k:Nat}{x:Str}{ps:ZD}{sp:Sp}{p pos:Pos}{e:Expr}{es:ZC}{t:TA}{te:TE}
end
section
variable{X:Cx}{XF pn:ZY}{j:St}{H:Hp}{s:Shared}{e:Addr}{W:XWT}
end
section
variable{X:Cx}
end
section
variable{X:Cx}
end
section
variable{X:Cx}{XF:ZY}{j:St}{H:Hp}{s:Shared}
end
section
variable{X:Cx}{W:XWT}{k:Nat}{f C:Addr}{fd:FuncData}{m:Str}{ps:ZD}{sp:Sp}{o e:Expr}{es:ZC}{ta:TE}{t:TA}{p pos apos:Pos}
end
section
variable{X:Cx}
inductive U9(K:W.Frag)(xs:ZQ)(H:Hp)(Q:VK):Prop
 | mk(p ys)(Vj:xs=[.ref p])(Vq:(Jj K H p ys\/Vy K H p ys))(Jd:∀t H',Zl H H'->Vy K H' t ys->Q (.ref t) H'):U9 K xs H Q
theorem C7:Y5 X (.type "tuple") (fun xs H Q=>U9 X.K xs H Q):=by
 intro XF s j H xs us Q I rs h;obtain⟨p,ys,e,h,q⟩:=h;refine Wq XF s j H xs us Q I rs ⟨p,ys,e, ?_⟩;rcases h with h | h
 .exact .inl ⟨h,fun l hl=>q l _ (Zl.lay hl) (Vy.of Zx)⟩
 .exact .inr ⟨h,q p H (Zl.refl H) h⟩
end
section
variable{X:Cx}{e:Expr}{te t1 t2:TE}{p2 p3 p4 pos:Pos}{j1:Nat}
end
section
variable{j:Type}[DecidableEq j]
noncomputable def G9(XB:List (j×V))(k:j):Option V:=(XB.find? fun kv=>decide (kv.1=k)).map (·.2)
noncomputable def putK(XB:List (j×V))(k:j)(v:V):List (j×V) :=
 if (XB.any fun kv=>decide (kv.1=k))=true then XB.map (fun kv=>if kv.1=k then (kv.1,v) else kv) else XB++[(k,v)]
noncomputable def Zqz(XB:List (j×V))(k:j):List (j×V):=XB.filter fun kv=>decide (kv.1≠k)
theorem Mw{p:j×V}{r:List (j×V)}{k:j}(e:p.1=k):G9 (p::r) k=some p.2:=by simp[G9,List.find?_cons,e]
theorem Mv{p:j×V}{r:List (j×V)}{k:j}(e:¬ p.1=k):G9 (p::r) k=G9 r k:=by simp[G9,List.find?_cons,e]
theorem Qu(k:j):∀XB:List (j×V),(XB.any fun kv=>decide (kv.1=k))=(G9 XB k).isSome
 | []=>rfl
 | p::r=>by
  rw[List.any_cons];by_cases e:p.1=k
  .simp only[Mw e,Bk e,Bool.true_or,Option.isSome_some]
  .rw[Mv e,Nf e,Bool.false_or];exact Qu k r
theorem Uj(XB:List (j×V))(k:j)(v:V):(putK XB k v).length<=XB.length+1:=by
 unfold putK
 split
 .rw[Z0];omega
 .rw[D7,D9,List.length_nil];omega
theorem Bw.isSome_eq{o:Option V}{u:ZT}(r:Bw o u):o.isSome=u.isSome:=by
 cases o with
 | none=>cases u with
  | none=>rfl
  | some _=>exact(show False from r).elim
 | some _=>cases u with
  | none=>exact(show False from r).elim
  | some _=>rfl
theorem Bw.getD{o:Option V}{u:ZT}{d:V}{d':Value}(r:Bw o u)(rd:RelV d d'):RelV (o.getD d) (u.getD d'):=by
 cases o with
 | none=>cases u with
  | none=>exact rd
  | some _=>exact(show False from r).elim
 | some _=>cases u with
  | none=>exact(show False from r).elim
  | some _=>exact r
theorem KV.val{XB:List (j×V)}{vs:List (j×Value)}(r:KV XB vs)(k:j):Bw (G9 XB k) (valueAt vs k):=by
 unfold KV at r
 induction r with
 | nil=>exact True.intro
 | @cons p q ps qs h t ih =>
  obtain⟨h1,h2⟩:=h;by_cases e:p.1=k
  .have e':q.1=k:=h1.symm.trans e;have b:valueAt (q::qs) k=some q.2:=by simp[valueAt,List.find?_cons,e']
   rw[Mw e,b];exact h2
  .have e':¬ q.1=k:=fun z=>e (h1.trans z);have b:valueAt (q::qs) k=valueAt qs k:=by simp[valueAt,List.find?_cons,e']
   rw[Mv e,b];exact ih
theorem KV.any{XB:List (j×V)}{vs:List (j×Value)}(r:KV XB vs)(k:j):(XB.any fun kv=>decide (kv.1=k))=vs.any fun kv=>decide (kv.1=k):=by
 unfold KV at r
 induction r with
 | nil=>rfl
 | cons h t ih=>rw[List.any_cons,List.any_cons,ih,h.1]
theorem KV.repl{XB:List (j×V)}{vs:List (j×Value)}(r:KV XB vs)(k:j){y:V}{u:Value}(ry:RelV y u) :
  KV (XB.map fun kv=>if kv.1=k then (kv.1,y) else kv) (vs.map fun kv=>if kv.1=k then (kv.1,u) else kv):=by
 unfold KV at r ⊢
 induction r with
 | nil=>exact .nil
 | @cons p q ps qs h t ih =>
  rw[Qn,Qn];refine .cons ?_ ih;obtain⟨h1,h2⟩:=h;by_cases e:p.1=k
  .rw[if_pos e,if_pos (h1.symm.trans e)];exact⟨h1,ry⟩
  .rw[if_neg e,if_neg (fun z=>e (h1.trans z))];exact⟨h1,h2⟩
theorem KV.put{XB:List (j×V)}{vs:List (j×Value)}(r:KV XB vs)(k:j){y:V}{u:Value}(ry:RelV y u):KV (putK XB k y) (stored vs k u):=by
 unfold putK stored;rw[r.any k];by_cases e:(vs.any fun kv=>decide (kv.1=k))=true
 .rw[if_pos e,if_pos e];exact r.repl k ry
 .rw[if_neg e,if_neg e];exact Paired.snoc r ⟨rfl,ry⟩
theorem KV.drop{XB:List (j×V)}{vs:List (j×Value)}(r:KV XB vs)(k:j):KV (Zqz XB k) (without vs k):=by
 unfold KV at r ⊢;unfold Zqz without
 induction r with
 | nil=>exact .nil
 | @cons p q ps qs h t ih =>
  obtain⟨h1,h2⟩:=h;rw[List.filter_cons,List.filter_cons];by_cases e:p.1=k
  .have a:¬ decide (p.1≠k)=true:=by simp[e]
   have b:¬ decide (q.1≠k)=true:=by simp[h1.symm.trans e]
   rw[if_neg a,if_neg b];exact ih
  .have e':¬ q.1=k:=fun z=>e (h1.trans z);have a:decide (p.1≠k)=true:=by simp[e]
   have b:decide (q.1≠k)=true:=by simp[e']
   rw[if_pos a,if_pos b];exact .cons ⟨h1,h2⟩ ih
theorem KV.keys{XB:List (j×V)}{vs:List (j×Value)}(r:KV XB vs):XB.map (·.1)=vs.map (·.1):=by
 unfold KV at r
 induction r with
 | nil=>rfl
 | cons h t ih=>rw[Qn,Qn,ih,h.1]
theorem KV.length{XB:List (j×V)}{vs:List (j×Value)}(r:KV XB vs):XB.length=vs.length:=Paired.length r
end
theorem Cp{P:Program}{w:World}{k:Key}{u:Value}(r:RelV (kV k) u):(Zg P w).is k u=true:=by
 cases k with
 | inl i=>obtain⟨t,e⟩:=(show ∃t,u=Value.int i t from r);subst e;exact Po P w i t
 | inr x=>obtain⟨t,e⟩:=(show ∃t,u=Value.str x t from r);subst e;exact Pa P w x t
theorem W3{P:Program}{w:World}:∀{ks:List Key} {us:ZM},Zw (ks.map kV) us->ItemsAre (Zg P w) ks us
 | [],_,r=>by rw[List.map_nil]at r;cases r;exact .nil
 | k::ks,_,r=>by
  rw[Qn]at r;cases r with
  | cons h t=>exact .cons (Cp h) (W3 t)
abbrev KT(H:Hp):List (List Key×V)->List (List Key×Addr×Value)->Prop:=Paired fun p q=>p.1=q.1/\H q.2.1=some (.tup (p.1.map kV))/\RelV p.2 q.2.2
theorem KT.val{H:Hp}{XB:List (List Key×V)}{xs:List (List Key×Addr×Value)}(r:KT H XB xs)(k:List Key):Bw (G9 XB k) ((atKey xs k).map (·.2)):=by
 induction r with
 | nil=>exact True.intro
 | @cons p q ps qs h t ih =>
  obtain⟨h1,_,h2⟩:=h;by_cases e:p.1=k
  .have e':q.1=k:=h1.symm.trans e;have b:atKey (q::qs) k=some q.2:=by simp[atKey,List.find?_cons,e']
   rw[Mw e,b];exact h2
  .have e':¬ q.1=k:=fun z=>e (h1.trans z);have b:atKey (q::qs) k=atKey qs k:=by simp[atKey,List.find?_cons,e']
   rw[Mv e,b];exact ih
theorem KT.repl{H:Hp}{XB:List (List Key×V)}{xs:List (List Key×Addr×Value)}(r:KT H XB xs)(k:List Key){y:V}{u:Value}(ry:RelV y u) :
  KT H (XB.map fun kv=>if kv.1=k then (kv.1,y) else kv) (xs.map (putAt k u)):=by
 induction r with
 | nil=>exact .nil
 | @cons p q ps qs h t ih =>
  rw[Qn,Qn];refine .cons ?_ ih;obtain⟨h1,h2,h3⟩:=h;unfold putAt;by_cases e:p.1=k
  .rw[if_pos e,if_pos (h1.symm.trans e)];exact⟨h1,h2,ry⟩
  .rw[if_neg e,if_neg (fun z=>e (h1.trans z))];exact⟨h1,h2,h3⟩
theorem KT.put{H:Hp}{XB:List (List Key×V)}{xs:List (List Key×Addr×Value)}(r:KT H XB xs)(k:List Key){b:Addr}{y:V}{u:Value}(hb:H b=some (.tup (k.map kV)))(ry:RelV y u) :
  KT H (putK XB k y) (storedH xs k b u):=by
 have e:(XB.any fun kv=>decide (kv.1=k))=(atKey xs k).isSome:=by
  rw[Qu,(r.val k).isSome_eq,Option.isSome_map]
 unfold putK storedH;rw[e];by_cases q:(atKey xs k).isSome=true
 .rw[if_pos q,if_pos q];exact r.repl k ry
 .rw[if_neg q,if_neg q];exact Paired.snoc r ⟨rfl,hb,ry⟩
theorem KT.keeps{H H':Hp}{XB:List (List Key×V)}{xs:List (List Key×Addr×Value)}(r:KT H XB xs)(ht:∀b ys,H b=some (.tup ys)->H' b=some (.tup ys)):KT H' XB xs :=
 Paired.mapP r fun _ _ z=>⟨z.1,ht _ _ z.2.1,z.2.2⟩
section
variable{P:Program}{w:World}{H:Hp}{h:Heap}{a:Addr}
theorem rd_of{u:HO}(ok:D8 P w H h)(e:Rd H a u):Zh P w H h a u:=e.ok ok
theorem J3{XB:List (Key×V)}(ok:D8 P w H h)(e:Rd H a (.dK XB)):XB.length<=sizeLine/\(a == sysModules)=false/\∃vs,KV XB vs/\h.DictOf (Zg P w) a vs :=
 show Zh P w H h a (.dK XB) from rd_of ok e
theorem Zqx{XB:List (Key×V)}(ok:D8 P w H h)(e:H a=some (.dK XB)):XB.length<=sizeLine/\(a == sysModules)=false/\∃vs,KV XB vs/\h.DictOf (Zg P w) a vs:=J3 ok (.inl e)
theorem N4{ks:List Key}(ok:D8 P w H h)(e:H a=some (.tup (ks.map kV))):(tupleKind (Zg P w)).is h ks a:=by
 obtain⟨_,its,r,o,h1,h2,⟨n,h3⟩,_⟩:=(show Zh P w H h a (.tup (ks.map kV)) from ok a _ e);exact⟨o,its.toArray,n,h1,h2,h3,by simpa using W3 r⟩
theorem C0{XB:List (List Key×V)}(ok:D8 P w H h)(e:Rd H a (.dT XB)):XB.length<=sizeLine/\(a == sysModules)=false /\
  ∃xs,KT H XB xs/\h.DictOfH (tupleKind (Zg P w)) a xs:=by
 obtain⟨z,y,xs,r,o,es,ep,h1,h2,h3,h4,h5⟩:=(show Zh P w H h a (.dT XB) from rd_of ok e);refine⟨z,y,xs,r,o,es,ep,h1,h2,h3,h4,fun x hx=>?_,h5⟩
 have all:∀{l:List (List Key×V)} {m:List (List Key×Addr×Value)},KT H l m->∀x∈m,(tupleKind (Zg P w)).is h x.1 x.2.1:=by
  intro l m q
  induction q with
  | nil=>intro x hx;exact nomatch hx
  | @cons p q ps qs hq t ih =>
   intro x hx;rcases Y6.mp hx with e | hx
   .subst e;exact N4 ok (by rw[<-hq.1];exact hq.2.1)
   .exact ih x hx
 exact all r x hx
theorem dt_of{XB:List (List Key×V)}(ok:D8 P w H h)(e:H a=some (.dT XB)):XB.length<=sizeLine/\(a == sysModules)=false /\
  ∃xs,KT H XB xs/\h.DictOfH (tupleKind (Zg P w)) a xs:=C0 ok (.inl e)
end
def Tv(H:Hp)(a:Addr)(y:V)(r:Option V):Prop :=
 (∃XB k,Rd H a (.dK XB)/\y=kV k/\r=G9 XB k)\/∃XB k b,Rd H a (.dT XB)/\y=.ref b/\H b=some (.tup (k.map kV))/\r=G9 XB k
def Hk(H:Hp)(a:Addr)(y v:V)(H':Hp):Prop :=
 (∃XB k,H a=some (.dK XB)/\y=kV k/\XB.length<sizeLine/\H'=upd H a (.dK (putK XB k v))) \/
 ∃XB k b,H a=some (.dT XB)/\y=.ref b/\H b=some (.tup (k.map kV))/\XB.length<sizeLine/\H'=upd H a (.dT (putK XB k v))
theorem Tv.k{H:Hp}{a:Addr}{XB:List (Key×V)}{k:Key}(e:H a=some (.dK XB)):Tv H a (kV k) (G9 XB k):=.inl ⟨XB,k,.inl e,rfl,rfl⟩
theorem Tv.t{H:Hp}{a b:Addr}{XB:List (List Key×V)}{k:List Key}(e:H a=some (.dT XB))(eb:H b=some (.tup (k.map kV))):Tv H a (.ref b) (G9 XB k):=.inr ⟨XB,k,b,.inl e,rfl,eb,rfl⟩
theorem Hk.k{H:Hp}{a:Addr}{XB:List (Key×V)}{k:Key}{v:V}(e:H a=some (.dK XB))(hl:XB.length<sizeLine):Hk H a (kV k) v (upd H a (.dK (putK XB k v))):=.inl ⟨XB,k,e,rfl,hl,rfl⟩
theorem Hk.t{H:Hp}{a b:Addr}{XB:List (List Key×V)}{k:List Key}{v:V}(e:H a=some (.dT XB))(eb:H b=some (.tup (k.map kV)))(hl:XB.length<sizeLine) :
  Hk H a (.ref b) v (upd H a (.dT (putK XB k v))):=.inr ⟨XB,k,b,e,rfl,eb,hl,rfl⟩
section
variable{X:Cx}{XF:ZY}{j:St}{H:Hp}{s:Shared}{a:Addr}{y v:V}{u r:Value}{o:Option V}{A:Around}{E:ZW}
theorem Inv.big(I:Inv X XF j H s):sysModules<s.heap.objs.size:=by
 have h:mainGlobals<s.heap.objs.size:=(I.mod.glob.keeps I.bk).lt;exact Nat.lt_trans (by decide) h
theorem xm{Q:ZW}(hu:A.units+1<cLine)(I:Inv X XF j H s)(g:Tv H a y (some v))(ry:RelV y u)(h:∀w' s',Inv X XF j H s'->RelV v w'->Q w' s') :
  wpAny (model X.prog X.w) A (getItem (.ref a) u) Q E s:=by
 rcases g with ⟨XB,k,e,ey,l⟩ | ⟨XB,k,b,e,ey,eb,l⟩
 .subst ey;obtain⟨z,hd,vs,rel,dd⟩:=J3 I.hok e;obtain⟨w',hw,v5⟩:=Bw.some_of (v:=v) (o:=valueAt vs k) (by rw[l];exact rel.val k);exact wpAny_getItem_of (Cp ry) dd.mapOf hw (h w' _ (I.tok _) v5)
 .subst ey;cases(show u=Value.ref b from ry);obtain⟨z,hd,xs,rel,dd⟩:=C0 I.hok e;obtain⟨w',hw,v5⟩:=Bw.some_of (v:=v) (o:=(atKey xs k).map (·.2)) (by rw[l];exact rel.val k);obtain⟨p,hp,hp2⟩:=Z4.mp hw;refine wpAny_getItem_heap (tupleKind_room_in1 hu) (N4 I.hok eb) dd hp ?_;rw[hp2];exact h w' _ (I.tok _) v5
theorem d_in{Q:ZW}(hu:A.units+1<cLine)(I:Inv X XF j H s)(g:Tv H a y o)(ry:RelV y u)(h:∀s',Inv X XF j H s'->Q (.bool o.isSome) s') :
  wpAny (model X.prog X.w) A (compareOp .In u (.ref a)) Q E s:=by
 rcases g with ⟨XB,k,e,ey,l⟩ | ⟨XB,k,b,e,ey,eb,l⟩
 .subst ey;obtain⟨z,hd,vs,rel,dd⟩:=J3 I.hok e;refine wpAny_in_of (Cp ry) hd dd.mapOf ?_;rw[<-(rel.val k).isSome_eq, <-l];exact h _ (I.tok _)
 .subst ey;cases(show u=Value.ref b from ry);obtain⟨z,hd,xs,rel,dd⟩:=C0 I.hok e;refine wpAny_in_heap (tupleKind_room_in1 hu) (N4 I.hok eb) hd dd ?_;have q:=(rel.val k).isSome_eq;rw[Option.isSome_map]at q;rw[<-q, <-l];exact h _ (I.tok _)
theorem Zzc{Q:ZW}(hu:A.units+1<cLine)(I:Inv X XF j H s)(g:Tv H a y o)(ry:RelV y u)(h:∀s',Inv X XF j H s'->Q (.bool (!o.isSome)) s') :
  wpAny (model X.prog X.w) A (compareOp .NotIn u (.ref a)) Q E s:=by
 rcases g with ⟨XB,k,e,ey,l⟩ | ⟨XB,k,b,e,ey,eb,l⟩
 .subst ey;obtain⟨z,hd,vs,rel,dd⟩:=J3 I.hok e;refine wpAny_notIn_of (Cp ry) hd dd.mapOf ?_;rw[<-(rel.val k).isSome_eq, <-l];exact h _ (I.tok _)
 .subst ey;cases(show u=Value.ref b from ry);obtain⟨z,hd,xs,rel,dd⟩:=C0 I.hok e;refine wpAny_notIn_heap (tupleKind_room_in1 hu) (N4 I.hok eb) hd dd ?_;have q:=(rel.val k).isSome_eq;rw[Option.isSome_map]at q;rw[<-q, <-l];exact h _ (I.tok _)
theorem F8{h':Heap}{t':Nat}{ob:HO}(I:Inv X XF j H s)(mu:Mut (H a))(hs:Heap.SameBut a s.heap h')(he:∃q,h'.get? a=some q)(new:Zh X.prog X.w (upd H a ob) h' a ob) :
  Inv X XF j (upd H a ob) { s with heap:=h',toks:=t' } :=
 I.write (x:=a) (e:=a) mu (.inl rfl) (fun b q hb z=>(hs.2 b hb).trans z) he new
theorem Ka{P:Program}{w:World}{H':Hp}{h':Heap}{XB:List (Key×V)}{vs:List (Key×Value)}(z:XB.length<=sizeLine)(hd:(a == sysModules)=false)(rel:KV XB vs)(dd:h'.DictOf (Zg P w) a vs) :
  Zh P w H' h' a (.dK XB):=⟨z,hd,vs,rel,dd⟩
theorem xb{H':Hp}{Q:ZA}(hu:A.units+1<cLine)(I:Inv X XF j H s)(g:Hk H a y v H')(ry:RelV y u)(rv:RelV v r)(h:∀s',Inv X XF j H' s'->Q () s') :
  wpAny (model X.prog X.w) A (setItem (.ref a) u r) Q E s:=by
 rcases g with ⟨XB,k,e,ey,l,eH⟩ | ⟨XB,k,b,e,ey,eb,l,eH⟩
 .subst ey eH;obtain⟨z,hd,vs,rel,dd⟩:=Zqx I.hok e;have hz:vs.length<=sizeLine:=by rw[<-rel.length];exact z
  have hl:(putK XB k v).length<=sizeLine:=by have:=Uj XB k v;omega
  refine wpAny_setItem_pairs (hsz:=hz) (Cp ry) dd fun h' dd' hs=>h _ ?_;have he:∃q,h'.get? a=some q:=let ⟨q,_,_,hq,_⟩:=dd';⟨q,hq⟩;exact F8 I (by rw[e];exact True.intro) hs he (Ka hl hd (rel.put k rv) dd')
 .subst ey eH;cases(show u=Value.ref b from ry);obtain⟨z,hd,xs,rel,dd⟩:=dt_of I.hok e;have hz:xs.length<=sizeLine:=by rw[<-Paired.length rel];exact z
  have hl:(putK XB k v).length<=sizeLine:=by have:=Uj XB k v;omega
  refine wpAny_setItem_heap (hsz:=hz) (tupleKind_room_in1 hu) (N4 I.hok eb) dd fun h' dd' hs=>h _ ?_;obtain⟨q,es,ep,hq,h2,h3,h4,_,h5⟩:=dd';refine F8 I (by rw[e];exact True.intro) hs ⟨q,hq⟩ ⟨hl,hd,_,(rel.put k eb rv).keeps fun c ys ec=>?_,q,es,ep,hq,h2,h3,h4,h5⟩;rw[Zz (ne_of ec e (fun z=>nomatch z))];exact ec
end
section
variable{X:Cx}{XF:ZY}{j:St}{H:Hp}{s:Shared}{a:Addr}{XB:List (Key×V)}{k:Key}{u:Value}{A:Around}{E:ZW}
theorem d_len{Q:ZW}(I:Inv X XF j H s)(e:Rd H a (.dK XB))(h:∀t s',Inv X XF j H s'->Q (.int XB.length t) s'):wpAny (model X.prog X.w) A (call (.builtin "len") [.ref a]) Q E s:=by
 obtain⟨z,hd,vs,rel,dd⟩:=J3 I.hok e;refine call_len_dict hd dd (by rw[<-rel.length];rw[sizeLine_eq]at z;omega) ?_;rw[<-rel.length];exact h _ _ (I.tok _)
end
theorem Oe{X:Cx}{XF:ZY}{j:St}{H:Hp}{s:Shared}{a:Addr}{y:V}{o:Option V}(I:Inv X XF j H s)(g:Tv H a y o):s.TypeIs (.ref a) "dict" := by
 rcases g with ⟨XB,k,e,_,_⟩ | ⟨XB,k,b,e,_,_,_⟩
 .obtain⟨_,_,vs,_,dd⟩:=J3 I.hok e;exact dd.typeIs
 .obtain⟨_,_,xs,_,dd⟩:=C0 I.hok e;exact dd.typeIs
inductive Av(D:Ends)(j:St)(v:V)(x:V)(y:V)(H3:Hp):Prop
 | mk(a H4)(Vj:x=.ref a)(Vq:Hk H3 a y v H4)(Jd:D.nx j H4):Av D j v x y H3
def sDPut(td ty tv:TE):TS:=fun D j H=>tv j H fun v H1=>td j H1 fun x H2=>ty j H2 fun y H3=>Av D j v x y H3
section
variable{X:Cx}{o i e value:Expr}{pos pos' tpos:Pos}{td ty tv:TE}
theorem aq(hu:X.A.units+1<cLine)(ho:PE X o td)(hi:PE X i ty)(hv:PE X value tv)(hs:swapsWith value (some (.Subscript o i pos')) pos.line X.env=pure false) :
  PS X (.Assign [.Subscript o i pos'] value pos) (sDPut td ty tv):=by
 intro XF s j H D I h;refine wpAny_Assign_Subscript (Z3 (hv XF s j H _ I h) fun r s1 ⟨v,H1,I1,rv,q1⟩=>Z3 (ho XF s1 j H1 _ I1 q1) fun u s2 ⟨x,H2,I2,rx,q2⟩=>Z3 (hi XF s2 j H2 _ I2 q2) fun iv s3 ⟨y,H3,I3,ry,a,H4,ex,g,q3⟩=>?_) hs;subst ex;obtain rfl:u=Value.ref a:=rx;exact xb hu I3 g ry rv fun s4 I4=>⟨j,H4,I4,q3⟩
end
theorem Oi{P:Program}{w:World}{H:Hp}(h:Heap)(hb:sysModules<h.objs.size):Zh P w H (h.push { cls:=.type "dict",data:=.dict #[] }) h.objs.size (.dK []) :=
 ⟨B2 _,B0n.mpr (Ne.symm (Bv hb)),[],.nil,Heap.DictOf.new h⟩
def tDNewK:TE:=fun _ H Q=>∀p,H p=none->Q (.ref p) (upd H p (.dK []))
section
variable{X:Cx}{pos:Pos}
theorem kl:PE X (.Dict [] [] pos) tDNewK:=fun XF s j H Q I h =>
 wpAny_Dict_empty ⟨.ref s.heap.objs.size,_,I.laid (a:=s.heap.objs.size) (o:=.dK []) (t':=s.toks) (fun _ _ q=>Yi _ q) (Yz _) (Oi s.heap I.big),rfl,h _ (I.hok.fresh (Yz _))⟩
end
def Ep:List (TE×TE)->St->Hp->(List (V×V)->Hp->Prop)->Prop
 | [],_,H,Q=>Q [] H
 | (tk,tv)::r,j,H,Q=>tk j H fun x H1=>tv j H1 fun y H2=>Ep r j H2 fun ps H3=>Q ((x,y)::ps) H3
abbrev VV:List (V×V)->List (Value×Value)->Prop:=Paired fun p q=>RelV p.1 q.1/\RelV p.2 q.2
def PPs(X:Cx)(pos:Pos)(keys:List (Option Expr))(values:ZC)(trs:List (TE×TE)):Prop :=
 ∀(XF:ZY) (s:Shared) (j:St) (H:Hp) (Q:List (V×V)->Hp->Prop),Inv X XF j H s->Ep trs j H Q ->
  wpAny (model X.prog X.w) X.A (evalPairs (pairTrees keys values X.env pos)) (fun vs s'=>∃ps H',Inv X XF j H' s'/\VV ps vs/\Q ps H') X.xe s
theorem aj{X:Cx}{pos:Pos}:PPs X pos [] [] []:=fun XF s j H Q I h=>pairTrees_nil_walk ⟨[],H,I,.nil,h⟩
theorem y6{X:Cx}{pos:Pos}{k v:Expr}{ks:List (Option Expr)}{vs:ZC}{tk tv:TE}{trs:List (TE×TE)}(hk:PE X k tk)(hv:PE X v tv)(hr:PPs X pos ks vs trs) :
  PPs X pos (some k::ks) (v::vs) ((tk,tv)::trs):=fun XF s j H Q I h =>
 pairTrees_cons_walk (Z3 (hk XF s j H _ I h) fun u s1 ⟨x,H1,I1,rx,q1⟩=>Z3 (hv XF s1 j H1 _ I1 q1) fun w2 s2 ⟨y,H2,I2,ry,q2⟩ =>
  Z3 (hr XF s2 j H2 _ I2 q2) fun ws s3 ⟨ps,H3,I3,rel,q3⟩=>⟨(x,y)::ps,H3,I3,.cons ⟨rx,ry⟩ rel,q3⟩)
noncomputable def Cd(XB more:List (Key×V)):List (Key×V):=more.foldl (fun acc kv=>putK acc kv.1 kv.2) XB
theorem KV.merge:∀{more:List (Key×V)} {rs:List (Key×Value)} {XB:List (Key×V)} {vs:List (Key×Value)},KV more rs->KV XB vs->KV (Cd XB more) (merged vs rs):=by
 intro more rs XB vs r;unfold KV at r
 induction r generalizing XB vs with
 | nil=>intro q;exact q
 | @cons p q ps qs h t ih =>
  intro r0
  have e:KV (putK XB p.1 p.2) (stored vs q.1 q.2):=by
   have:=r0.put p.1 h.2;rw[<-h.1];exact this
  exact ih e
theorem Dc:∀(more XB:List (Key×V)),(Cd XB more).length<=XB.length+more.length
 | [],XB=>by show XB.length<=XB.length+0;omega
 | p::r,XB=>by
  have h1:=Dc r (putK XB p.1 p.2);have h2:=Uj XB p.1 p.2;show (Cd (putK XB p.1 p.2) r).length<=_;rw[D9];omega
theorem C6{P:Program}{w:World}:∀{XB:List (Key×V)} {ws:List (Value×Value)},VV (XB.map fun kv=>(kV kv.1,kv.2)) ws->∃rs,Carries (Zg P w) ws rs/\KV XB rs
 | [],_,r=>by rw[List.map_nil]at r;cases r;exact⟨[],True.intro,.nil⟩
 | p::XB,_,r=>by
  rw[Qn]at r;cases r with
  | @cons a b as bs h t =>
   obtain⟨rs,c,q⟩:=C6 (P:=P) (w:=w) t;obtain⟨b1,b2⟩:=b;exact⟨(p.1,b2)::rs,⟨Cp h.1,rfl,c⟩,.cons ⟨rfl,h.2⟩ q⟩
def tDisp(trs:List (TE×TE)):TE:=fun j H Q=>∀p,H p=none->Ep trs j (upd H p (.dK [])) fun ps H2=>H2 p=some (.dK [])/\∃XB:List (Key×V),ps=XB.map (fun kv=>(kV kv.1,kv.2))/\XB.length<=15/\Q (.ref p) (upd H2 p (.dK (Cd [] XB)))
theorem au{X:Cx}{pos:Pos}{keys:List (Option Expr)}{values:ZC}{trs:List (TE×TE)}(h:PPs X pos keys values trs)(hall:keys.all (·.isSome)=true)(hl:keys.length=values.length)(h0:keys≠[])
  (h15:keys.length<=15):PE X (.Dict keys values pos) (tDisp trs):=by
 intro XF s j H Q I q;have hn:=I.hok.fresh (Yz s.heap.objs.size);have I1:=I.laid (a:=s.heap.objs.size) (o:=.dK []) (h':=s.heap.push { cls:=.type "dict",data:=.dict #[] }) (t':=s.toks) (fun _ _ q=>Yi _ q) (Yz _) (Oi s.heap I.big);refine wpAny_Dict_walk (knd:=Zg X.prog X.w) hall hl h0 h15 (Z3 (h XF _ j _ _ I1 (q _ hn)) fun ws s2 ⟨ps,H2,I2,rel,e,XB,ep,lk,q2⟩=>?_);subst ep;obtain⟨rs,c,rk⟩:=C6 (P:=X.prog) (w:=X.w) rel;obtain⟨z,hd,vs0,r0,dd⟩:=Zqx I2.hok e;cases r0;refine⟨rs,c,dd,fun h' dd' hs=>⟨.ref s.heap.objs.size,_, ?_,rfl,q2⟩⟩
 have hz:(Cd [] XB).length<=sizeLine:=by
  have h1:=Dc XB [];rw[List.length_nil]at h1;rw[sizeLine_eq];omega
 have he:∃q,h'.get? s.heap.objs.size=some q:=let ⟨q,_,_,hq,_⟩:=dd';⟨q,hq⟩;exact F8 I2 (by rw[e];exact True.intro) hs he (Ka hz hd (rk.merge .nil) dd')
structure M1(X:Cx)(o:Expr)(m:Str)(apos:Pos)(e:Expr)(cpos:Pos):Prop where
 base:attributeBase o m X.env (eval o X.env)=eval o X.env
 few:((backTo cpos (starEach [e] X.env)).all (fun x=>!x.1) && (backToKw cpos (keywordEach [] X.env)).all (fun x=>x.1.isSome)
  && decide (([e]:ZC).length+([]:List Keyword).length+(if ([]:List Keyword).isEmpty then 0 else 1)<30))=true
 line:(apos.endLine == cpos.line)=true
 trees:backTo cpos (starEach [e] X.env)=[(false,eval e X.env)]
def Zqc(H:Hp)(a:Addr):Prop:=(∃XB,Rd H a (.dK XB))\/∃XB,Rd H a (.dT XB)
theorem Cu{X:Cx}{XF:ZY}{j:St}{H:Hp}{s:Shared}{a:Addr}(I:Inv X XF j H s)(d:Zqc H a) :
  s.TypeIs (.ref a) "dict" /\ (∀b,Value.ref a=.ref b->∃ob,s.heap.get? b=some ob/\ob.dict=none)/\(a == sysModules)=false:=by
 rcases d with ⟨XB,e⟩ | ⟨XB,e⟩
 .obtain⟨_,hd,vs,_,dd⟩:=J3 I.hok e;refine⟨dd.typeIs,fun b q=>?_,hd⟩;cases q;obtain⟨ob,_,_,h1,h2,_⟩:=dd;exact⟨ob,h1,h2.2.1⟩
 .obtain⟨_,hd,xs,_,dd⟩:=C0 I.hok e;refine⟨dd.typeIs,fun b q=>?_,hd⟩;cases q;obtain⟨ob,_,_,h1,h2,_⟩:=dd;exact⟨ob,h1,h2.2.1⟩
section
variable{X:Cx}{XF:ZY}{j:St}{H:Hp}{s:Shared}{a:Addr}{y d:V}{u r:Value}{o:Option V}{A:Around}{E:ZW}
theorem d_get1{Q:ZW}(hu:A.units+1<cLine)(I:Inv X XF j H s)(g:Tv H a y o)(ry:RelV y u)(h:∀w' s',Inv X XF j H s'->RelV (o.getD .non) w'->Q w' s') :
  wpAny (model X.prog X.w) A (call (.builtin "dict.get") [.ref a,u]) Q E s:=by
 rcases g with ⟨XB,k,e,ey,l⟩ | ⟨XB,k,b,e,ey,eb,l⟩
 .subst ey;obtain⟨z,hd,vs,rel,dd⟩:=J3 I.hok e;refine call_meetsIn PySem.F.slot_dict_get dd.typeIs PySem.F.entry_dict_get (PySem.F.args_dict_get_2 _ _) (meets_dict_get (Zg X.prog X.w) a (Cp ry) hd) ⟨_,dd.mapOf,h _ _ (I.tok _) ?_⟩;rw[l];exact(rel.val k).getD rfl
 .subst ey;cases(show u=Value.ref b from ry);obtain⟨z,hd,xs,rel,dd⟩:=C0 I.hok e;refine call_meetsIn PySem.F.slot_dict_get dd.typeIs PySem.F.entry_dict_get (PySem.F.args_dict_get_2 _ _) (meetsH_dict_get (tupleKind (Zg X.prog X.w)) a b hd) ⟨tupleKind_room_in1 hu,k,xs,N4 I.hok eb,dd,h _ _ (I.tok _) ?_⟩;rw[l];exact(rel.val k).getD rfl
end
inductive Q5(ty:TE)(j:St)(Q:VK)(x:V)(H1:Hp):Prop
 | mk(a)(Vj:x=.ref a)(Vq:Zqc H1 a)(Jd:ty j H1 fun y H2=>∃o,Tv H2 a y o/\Q (o.getD .non) H2):Q5 ty j Q x H1
def tDGet1(td ty:TE):TE:=fun j H Q=>td j H fun x H1=>Q5 ty j Q x H1
section
variable{X:Cx}{o e f:Expr}{apos cpos:Pos}{td ty tx:TE}
theorem kh(hu:X.A.units+1<cLine)(ho:PE X o td)(he:PE X e ty)(m:M1 X o "get" apos e cpos):PE X (.Call (.Attribute o "get" apos) [e] [] cpos) (tDGet1 td ty):=by
 intro XF s j H Q I h;refine wpAny_Call_method m.base m.few m.line PySem.F.plainAttrs_dict PySem.F.slot_dict_get PySem.F.type_dict_get (Z3 (ho XF s j H _ I h) fun u s1 ⟨x,H1,I1,rx,a,ex,d,q1⟩=>?_);subst ex;obtain rfl:u=Value.ref a:=rx;obtain⟨t1,t2,_⟩:=Cu I1 d;refine⟨t1,t2, ?_⟩;rw[m.trees];refine Calls.callWith_builtin rfl (Calls.evalArgs_plain (Calls.spliced_cons (Z3 (he XF s1 j H1 _ I1 q1) fun iv s2 ⟨y,H2,I2,ry,ov,g,q2⟩=>Calls.spliced_nil ?_)));exact d_get1 hu I2 g ry fun w' s3 I3 v5=>⟨_,H2,I3,v5,q2⟩
end
section
variable{X:Cx}{XF:ZY}{j:St}{H:Hp}{s:Shared}{a:Addr}{XB:List (Key×V)}{A:Around}{E:ZW}
theorem dc{Q:ZW}(I:Inv X XF j H s)(e:Rd H a (.dK XB))(h:∀p s',H p=none->Inv X XF j (upd H p (.dK XB)) s'->Q (.ref p) s'):wpAny (model X.prog X.w) A (call (.type "dict") [.ref a]) Q E s:=by
 obtain⟨z,hd,vs,rel,dd⟩:=J3 I.hok e;refine kt_call_dict hd dd (by rw[<-rel.length];exact z) fun h' dd' hs=>?_;refine h _ _ (I.hok.fresh (Yz _)) (I.laid (a:=s.heap.objs.size) (o:=.dK XB) (t':=s.toks) (fun b q hq=>?_) (Yz _) (Ka z (B0n.mpr (Ne.symm (Bv I.big))) rel dd'));exact(hs.2 b (Bv (Vt hq))).trans (Yi _ hq)
end
section
variable{X:Cx}{XF:ZY}{j:St}{H:Hp}{s:Shared}{a:Addr}{y:V}{u:Value}{A:Around}{E:ZW}
end
section
variable{X:Cx}
end
section
variable{j:Type}[DecidableEq j]
end
section
variable{X:Cx}{XF:ZY}{Z:St}{H:Hp}{s:Shared}
theorem any_range(bs:List Bool):((List.range bs.length).any fun i=>(bs[i]?).getD true)=bs.any id:=by
 rw[Bool.eq_iff_iff,XZ,XZ];constructor
 .rintro⟨i,hi,h⟩;have c9:=List.mem_range.mp hi;rw[Mz c9]at h;exact⟨bs[i],G0e c9,by simpa using h⟩
 .rintro⟨b,hb,h⟩;obtain⟨i,hi⟩:=List.mem_iff_getElem?.mp hb;exact⟨i,List.mem_range.mpr (B3.mp hi).1,by rw[hi];simpa using h⟩
inductive Ba(K:W.Frag)(xs:ZQ)(H:Hp)(Q:VK):Prop
 | mk(p:Addr)(bs:List Bool)(Vj:xs=[.ref p])(Vq:Jj K H p (bs.map V.bl))(Jd:Q (.bl (bs.any id)) H):Ba K xs H Q
theorem xi(hc:X.calm=true):Y5 X (.builtin "any") (fun xs H Q=>Ba X.K xs H Q):=by
 intro XF s Z H xs us Q I r h;obtain⟨p,bs,rfl,hq,q⟩:=h;obtain⟨u,rfl,rx⟩:=vals1 r;cases rx;obtain⟨its,rv,pl,hz⟩:=I.list hq;have hl:=pl.isList;have Qc:p<s.heap.objs.size:=by obtain⟨_,e,_⟩:=hl;exact Vt e
 have hlen:its.toArray.size=bs.length:=by rw[V7, <-rv.length,Z0]
 refine call_any_walk (wpAny_pyIter_list hl ?_)
 refine⟨s.heap.objs.size,[s.heap.objs.size,p],[s.heap.objs.size],its.toArray.size,_,_,fun i=>(bs[i]?).getD true,rfl,Walks.list (A:=X.A.in1) (I.ok.hd hc) _ p (Bv Qc) its.toArray,
  ⟨⟨_,Dv _ rfl,rfl,rfl⟩,hl.push _⟩,fun i v s' Q' E' hP hQ=>?_,fun h' tk hk=>?_⟩
 .have e0:its[i]?=some v:=by simpa using hP
  have hi:i<bs.length:=by
   have:=(B3.mp e0).1;rw[V7]at hlen;omega
  obtain⟨v',e1,e2⟩:=rv.get (i:=i) (x:=V.bl bs[i]) (by rw[B4,Mz hi];rfl);rw[e0]at e1;cases e1;cases e2;dsimp only at hQ;rw[Mz hi]at hQ;exact wpAny_truthy_bool hQ
 .rw[hlen,any_range];refine⟨.bl _,H,I.kept fun b x e=>hk b x (fun hm=>?_) (Yi _ e),rfl,q⟩;have hb:=U1.mp hm;exact absurd (Vt e) (by rw[hb];exact Nat.lt_irrefl _)
inductive Ds(P:Program)(w:World)(xs:ZQ)(H:Hp)(Q:VK):Prop
 | mk(a:Addr)(us:List Key)(Vj:xs=[.ref a])(Vq:H a=some (S0 P w a us))(Jd:Q (.int us.length) H):Ds P w xs H Q
theorem O7:Y5 X (.builtin "len") (fun xs H Q=>Ds X.prog X.w xs H Q):=by
 intro XF s Z H xs us Q I r h;obtain⟨a,ks,rfl,hH,q⟩:=h;obtain⟨u,rfl,rx⟩:=vals1 r;cases rx;obtain⟨⟨o,ho,S⟩,_⟩:=(show Zh X.prog X.w H s.heap a (S0 X.prog X.w a ks) from I.hok a _ hH);obtain⟨es,ep,t,hd,el,pr,hb,ti,hl⟩:=S.dat;have e1:es.size=ks.length:=by rw[pr.length,S9]
 have Qc:ks.length<2 ^ 63:=Nat.lt_trans S.len (by decide +kernel);refine call_len_set ho S.ex hd ti.fits (by omega) ?_;rw[e1];exact⟨.int ks.length,H,I.tok _,⟨_,rfl⟩,q⟩
theorem Inv.freeze{d:Addr}{XB:List (Key×V)}(I:Inv X XF Z H s)(e:H d=some (.dK XB)):∃o,s.heap.get? d=some o/\Inv X XF Z (upd H d (.frz o (.dK XB))) s:=by
 obtain⟨z,y,vs,r,o,es,ep,ho,c⟩:=(show Zh X.prog X.w H s.heap d (.dK XB) from I.hok d _ e)
 have ne:∀{b:Addr} {u:HO},H b=some u->(∀k,u≠.dK k)->b≠d:=fun h n z=>by
  rw[z,e]at h;cases h;exact n _ rfl
 refine⟨o,ho, ?_⟩;refine I.step (g':=s.gens) (d':=s.drawn) (t':=s.toks) (h':=s.heap) (ch:=[]) (fun _ z=>nomatch z) (fun _ _ _ _ _ h _=>h) (fun _ o _ _ _ h _=>⟨o.slots,h⟩) (fun b _ _ _ n=>?_) (fun _ o _ h=>⟨o,h⟩) (fun b xs h=>?_) (fun b o u h=>?_) (fun b ps h=>⟨#[], ?_⟩) (fun _ h=>h) (fun b u h=>?_) I.bare
 .rw[Zz (fun z=>by rw[z,e]at n;cases n)];exact n
 .rw[Zz (ne h fun _ z=>nomatch z)];exact h
 .rw[Zz (ne h fun _ z=>nomatch z)];exact h
 .rw[Zz (ne h fun _ z=>nomatch z),h];simp
 .by_cases q:b=d
  .subst q;rw[Zx]at h;cases h;exact⟨ho,z,y,vs,r,o,es,ep,ho,c⟩
  .rw[Zz q]at h;refine(I.hok b u h).stay (fun c v hc q=>q) (fun c q=>?_) fun c xs q=>?_
   .rw[Zz (ne q fun _ z=>nomatch z)];exact q
   .rw[Zz (ne q fun _ z=>nomatch z)];exact q
noncomputable def Itd(d:Addr)(o:Obj)(XB:List (Key×V)):It :=
 ⟨fun i H=>i<XB.length/\H d=some (.frz o (.dK XB)),fun i H v H'=>H'=H/\∃k x,XB[i]?=some (k,x)/\v=kV k,fun i H=>XB.length<=i/\H d=some (.frz o (.dK XB))⟩
theorem at_of{d:Addr}{o:Obj}{XB:List (Key×V)}(I:Inv X XF Z H s)(e:H d=some (.frz o (.dK XB))):∃vs es ep,(d == sysModules)=false/\KV XB vs/\o.data=.dict es ep/\s.heap.DictAt (Zg X.prog X.w) d vs ep:=by
 obtain⟨ho,z,y,vs,r,o',es,ep,R1,c⟩:=(show Zh X.prog X.w H s.heap d (.frz o (.dK XB)) from I.hok d _ e);rw[ho]at R1;cases R1;exact⟨vs,es,ep,y,r,c.2.1,o,es,ho,c⟩
theorem KV.at{j:Type}:∀{XB:List (j×V)} {vs:List (j×Value)} {i:Nat} {k:j} {x:V},KV XB vs->XB[i]?=some (k,x)->∃v,vs[i]?=some (k,v)
 | [],_,i,k,x,_,e=>by simp at e
 | a::XB,_,0,k,x,.cons h t,e=>by
  rename_i b bs
  simp at e;subst e;exact⟨b.2,by rw[show k=b.1 from h.1];rfl⟩
 | a::XB,_,i+1,k,x,.cons h t,e=>by
  obtain⟨v,e'⟩:=KV.at (i:=i) t (by simpa using e);exact⟨v,by simpa using e'⟩
theorem fe{P:Program}{w:World}{k:Key}{u:Value}(h:(Zg P w).is k u=true):RelV (kV k) u:=by
 rcases Zs (show Mn k u=true from h) with ⟨j,t,rfl,rfl⟩ | ⟨x,t,rfl,rfl⟩
 .exact⟨t,rfl⟩
 .exact⟨t,rfl⟩
theorem Xm{P:Program}{w:World}{K:W.Frag}{tg:Expr}(d it:Addr)(o:Obj)(XB:List (Key×V))(es:Array DictEntry)(ep:Nat)(ho:o.data=.dict es ep) :
  Turn P w K tg (Itd d o XB) [it] it (fun i h=>h.IsKeyIter it d i XB.length ep) where
 mem:=by simp
 obj:=fun i h st b hb=>by
  have e:b=it:=by simpa using hb
  subst e;obtain⟨o,e,c,d⟩:=st;exact⟨o,e,fun v z=>by rw[d]at z;cases z⟩
 keep:=fun i h h' st k=>by
  obtain⟨o,e,c,d⟩:=st;exact⟨o,k it (by simp) o e,c,d⟩
 item:=by
  intro X hP hw hK hc i XF s Z H E I hf st hg;subst hP hw hK;obtain⟨hi,hd⟩:=hg;obtain⟨vs,Ce,ep',y,r,e',m⟩:=at_of I hd;rw[ho]at e';cases e';obtain⟨f0,f1,f2,f3,f4,f5⟩:=hf it (by simp);obtain⟨v,hv⟩:=KV.at (i:=i) (k:=XB[i].1) (x:=XB[i].2) r (Mz hi);have ln:=r.length;refine wpAny_pyNext_dict_item (by rw[<-ln];exact st) m hv fun key h' hk Lu sb=>?_;have I1:Inv X XF Z H { s with heap:=h' }:=I.turned (t':=s.toks) (fun b o hb e=>(sb.2 b hb).trans e) f0 f1 f3 f4 f5;obtain⟨oo,e,c,dd⟩:=id Lu;exact⟨key,rfl,W7 (s:={ s with heap:=h' }) e c dd (by decide) ⟨kV XB[i].1,H,I1,fe hk,⟨rfl,_,_,Mz hi,rfl⟩,by rw[ln];exact Lu,fun b hb=>(hf b hb).1⟩⟩
 done:=by
  intro X hP hw hK hc i XF s Z H E I hf st hg;subst hP hw hK;obtain⟨hi,hd⟩:=hg;obtain⟨vs,Ce,ep',y,r,e',m⟩:=at_of I hd;rw[ho]at e';cases e';obtain⟨f0,f1,f2,f3,f4,f5⟩:=hf it (by simp);have ln:=r.length;exact wpAny_pyNext_dict_end (I.ok.hd hc) (by rw[<-ln];exact st) m (List.getElem?_eq_none (by omega)) fun h' eb=>⟨rfl,I.turned (t':=s.toks) (fun b o hb e=>eb b o hb e) f0 f1 f3 f4 f5⟩
 self:=fun _ _ _ _ _ st h=>wpAny_pyIter_keyiter st h
inductive Dh(xs:ZQ)(H:Hp)(Q:VK):Prop
 | mk(a:Addr)(XB:List (Key×V))(Vj:xs=[.ref a])(Vq:Rd H a (.dK XB))(Jd:∀p,H p=none->Q (.ref p) (upd H p (.dK XB))):Dh xs H Q
theorem O8:Y5 X (.type "dict") (fun xs H Q=>Dh xs H Q):=by
 intro XF s Z H xs us Q I r h;obtain⟨a,XB,rfl,e,q⟩:=h;obtain⟨u,rfl,rx⟩:=vals1 r;cases rx;exact dc I e fun p s' hp I'=>⟨.ref p,_,I',rfl,q p hp⟩
end
noncomputable def cellOf(H:Hp)(l:Addr):Option V:=match H l with
 | some (.lst (x::_))=>some x
 | _=>none
end L2
namespace ZipT
open PySem
theorem V6{h h':Heap}{b i t:Addr}{k:Nat}(st:h.IsTupleIter i t k)(e:Heap.ExtBut b h h')(n:i≠b):h'.IsTupleIter i t k:=let ⟨o,ho,r⟩:=st;⟨o,e _ _ n ho,r⟩
theorem tupK{h h':Heap}{b t:Addr}{xs:ZN}(st:h.IsTuple t xs)(e:Heap.ExtBut b h h')(n:t≠b):h'.IsTuple t xs:=let ⟨o,ho,r⟩:=st;⟨o,e _ _ n ho,r⟩
section
variable{prog:Program}{w:World}{A:Around}{E:ZW}{s:Shared}{z TI TO i1 i2 t1 t2:Addr}{k:Nat}{xs ys:ZN}{x y a b:Value}
theorem itemT{Q:ZW}(D:ZipApart z TI TO i1 i2 t1 t2)(hz:IsZip s.heap z TI TO .none)(hI:IsPair s.heap TI (.ref i1) (.ref i2))(hO:IsPair s.heap TO a b)(j1:s.heap.IsTupleIter i1 t1 k)(j2:s.heap.IsTupleIter i2 t2 k)(p1:s.heap.IsTuple t1 xs)(p2:s.heap.IsTuple t2 ys)(hx:xs[k]?=some x)(hy:ys[k]?=some y)
  (q:∀h',IsZip h' z TI TO (rawInt s.heap.objs.size)->IsPair h' TO x y->h'.IsTupleIter i1 t1 (k+1)->h'.IsTupleIter i2 t2 (k+1)->IsPair h' s.heap.objs.size x y->h'.objs.size=s.heap.objs.size+1->(∀c o,c≠z->c≠TO->c≠i1->c≠i2->s.heap.get? c=some o->h'.get? c=some o)->Q (.ref s.heap.objs.size) { s with heap:=h' }) :
  wpAny (model prog w) A (Builtin.«zip.__next__» ⟨[.ref z],[]⟩) (fun fin s'=>∃v,fin=.done (.ret v)/\Q v s') E s:=by
 show wpAny _ _ (field (.ref z) 2 >>= _) _ _ _;refine Zb (wpAny_field hz rfl (x:=.bool false) rfl ?_);show wpAny _ _ (field (.ref z) 3 >>= _) _ _ _;refine Zb (wpAny_field hz rfl (x:=.ref TI) rfl (Zb (wpAny_seqItems hI rfl ?_)));show wpAny _ _ (Builtin.SmallTypes.ownedTupleIsFree (.ref z) >>= _) _ _ _;refine Zb ?_;unfold Builtin.SmallTypes.ownedTupleIsFree;refine Zb (wpAny_field hz rfl (x:=.none) rfl (Yg ?_));simp only[if_true];refine Zb (wpAny_rule (Zb (wpAny_field hz rfl (x:=.ref TO) rfl ?_)));refine Zb (wpAny_setField_rec hz (by simp) fun g1 qd e1=>?_);replace qd:IsZip g1 z TI TO .ellipsis:=qd;refine Zb ?_;simp only[List.zipIdx_cons,List.zipIdx_nil,List.forIn_cons,List.forIn_nil];refine Zb (Zb (wpAny_onRaise ?_));show wpAny _ _ (Builtin.SmallTypes.nextOf (.ref i1) >>= _) _ _ _;refine Zb (EnuT.nextT (V6 j1 e1.extBut D.i1z) (tupK p1 e1.extBut D.l1z) hx fun g2 j12 e2=>Yg ?_);have hO2:IsPair g2 TO a b:=e2.extBut _ _ D.TOi1 (e1.extBut _ _ D.TOz hO);refine Zb (wpAny_seqItems hO2 rfl (Zb (wpAny_updateSeq_pair hO2 fun g3 hO3 e3=>?_)));replace hO3:IsPair g3 TO x b:=hO3;refine Zb (wpAny_letGo (Yg (Zb (Zb (wpAny_onRaise ?_)))));show wpAny _ _ (Builtin.SmallTypes.nextOf (.ref i2) >>= _) _ _ _;refine Zb (EnuT.nextT (V6 (V6 (V6 j2 e1.extBut D.i2z) e2.extBut D.i12.symm) e3.extBut D.TOi2.symm) (tupK (tupK (tupK p2 e1.extBut D.l2z) e2.extBut D.l2i1) e3.extBut D.l2TO) hy fun g4 j24 e4=>Yg ?_);have hO4:IsPair g4 TO x b:=e4.extBut _ _ D.TOi2 hO3;refine Zb (wpAny_seqItems hO4 rfl (Zb (wpAny_updateSeq_pair hO4 fun g5 hO5 e5=>?_)));replace hO5:IsPair g5 TO x y:=hO5;refine Zb (wpAny_letGo (Yg (Yg (Zb (wpAny_seqItems hO5 rfl (Zb (wpAny_newTuple ?_)))))));have sz:g5.objs.size=s.heap.objs.size:=by rw[e5.1,e4.1,e3.1,e2.1,e1.1]
 have hz5:IsZip g5 z TI TO .ellipsis:=e5.extBut _ _ D.TOz.symm (e4.extBut _ _ D.i2z.symm (e3.extBut _ _ D.TOz.symm (e2.extBut _ _ D.i1z.symm qd)));have kp:∀c o,c≠z->c≠TO->c≠i1->c≠i2->s.heap.get? c=some o->g5.get? c=some o:=fun c o c1 c2 c3 c4 e=>e5.extBut _ _ c2 (e4.extBut _ _ c4 (e3.extBut _ _ c2 (e2.extBut _ _ c3 (e1.extBut _ _ c1 e))));have j15:g5.IsTupleIter i1 t1 (k+1):=V6 (V6 (V6 j12 e3.extBut D.TOi1.symm) e4.extBut D.i12) e5.extBut D.TOi1.symm;have j25:g5.IsTupleIter i2 t2 (k+1):=V6 j24 e5.extBut D.TOi2.symm;have zl:z<g5.objs.size:=Vt hz5;show wpAny _ _ (Builtin.SmallTypes.ownedTupleHandOut (.ref z) (.ref g5.objs.size) >>= _) _ _ _;refine Zb ?_;unfold Builtin.SmallTypes.ownedTupleHandOut;have hz6:IsZip (g5.push { cls:=.type "tuple",data:=.seq #[x,y] }) z TI TO .ellipsis:=Yi _ hz5;refine Zb (wpAny_setField_rec hz6 (by simp) fun g7 hz7 e7=>?_);replace hz7:IsZip g7 z TI TO (rawInt g5.objs.size):=hz7;refine wpAny_setField_rec hz7 (by simp) fun g8 hz8 e8=>?_;replace hz8:IsZip g8 z TI TO (rawInt g5.objs.size):=hz8;have up:∀c o,c≠z->g5.get? c=some o->g8.get? c=some o:=fun c o c1 e=>e8.extBut _ _ c1 (e7.extBut _ _ c1 (Yi _ e));have hT8:IsPair g8 g5.objs.size x y:=e8.extBut _ _ (Nat.ne_of_gt zl) (e7.extBut _ _ (Nat.ne_of_gt zl) (Dv _ rfl));have sz8:g8.objs.size=g5.objs.size+1:=by rw[e8.1,e7.1,Heap.size_push]
 rw[sz]at hz8 hT8 sz8;refine Yg ⟨_,rfl, ?_⟩;show Q (.ref g5.objs.size) _;rw[sz];exact q g8 hz8 (up _ _ D.TOz hO5) (let ⟨o,ho,r⟩:=j15;⟨o,up _ _ D.i1z ho,r⟩) (let ⟨o,ho,r⟩:=j25;⟨o,up _ _ D.i2z ho,r⟩) hT8 sz8 fun c o c1 c2 c3 c4 e=>up c o c1 (kp c o c1 c2 c3 c4 e)
theorem endT{Q:Fin->Shared->Prop}(hh:A.handled=none)(D:ZipApart z TI TO i1 i2 t1 t2)(hz:IsZip s.heap z TI TO .none)(hI:IsPair s.heap TI (.ref i1) (.ref i2))(hO:IsPair s.heap TO a b)(j1:s.heap.IsTupleIter i1 t1 k)(j2:s.heap.IsTupleIter i2 t2 k)(p1:s.heap.IsTuple t1 xs)(p2:s.heap.IsTuple t2 ys)(b7:xs[k]?=none\/ys[k]?=none)
  (q:∀h' e,(∀c o,c≠z->c≠TO->c≠i1->c≠i2->s.heap.get? c=some o->h'.get? c=some o)->(∃o,h'.get? e=some o/\o.cls=.type "StopIteration")->E (.ref e) { s with heap:=h' }) :
  wpAny (model prog w) A (Builtin.«zip.__next__» ⟨[.ref z],[]⟩) Q E s:=by
 show wpAny _ _ (field (.ref z) 2 >>= _) _ _ _;refine Zb (wpAny_field hz rfl (x:=.bool false) rfl ?_);show wpAny _ _ (field (.ref z) 3 >>= _) _ _ _;refine Zb (wpAny_field hz rfl (x:=.ref TI) rfl (Zb (wpAny_seqItems hI rfl ?_)));show wpAny _ _ (Builtin.SmallTypes.ownedTupleIsFree (.ref z) >>= _) _ _ _;refine Zb ?_;unfold Builtin.SmallTypes.ownedTupleIsFree;refine Zb (wpAny_field hz rfl (x:=.none) rfl (Yg ?_));simp only[if_true];refine Zb (wpAny_rule (Zb (wpAny_field hz rfl (x:=.ref TO) rfl ?_)));refine Zb (wpAny_setField_rec hz (by simp) fun g1 qd e1=>?_);replace qd:IsZip g1 z TI TO .ellipsis:=qd;refine Zb ?_;simp only[List.zipIdx_cons,List.zipIdx_nil,List.forIn_cons,List.forIn_nil];refine Zb (Zb (wpAny_onRaise ?_));show wpAny _ _ (Builtin.SmallTypes.nextOf (.ref i1) >>= _) _ _ _;cases hx:xs[k]? with
 | none =>
  refine Zb (EnuT.endT hh (V6 j1 e1.extBut D.i1z) (tupK p1 e1.extBut D.l1z) hx fun g2 e e2 he=>?_);obtain⟨oe,hoe,hce⟩:=he;have hz2:IsZip g2 z TI TO .ellipsis:=e2 _ _ D.i1z.symm qd;have ez:e≠z:=fun v=>by subst v;rw[hz2]at hoe;cases hoe;simp at hce
  exact wpAny_setField_rec hz2 (by simp) fun g3 _ e3=>q g3 e (fun c o c1 _ c3 _ v=>e3.extBut _ _ c1 (e2 _ _ c3 (e1.extBut _ _ c1 v))) ⟨oe,e3.extBut _ _ ez hoe,hce⟩
 | some x =>
  have hy:ys[k]?=none:=by rcases b7 with h | h;rw[hx]at h;cases h;exact h
  refine Zb (EnuT.nextT (V6 j1 e1.extBut D.i1z) (tupK p1 e1.extBut D.l1z) hx fun g2 j12 e2=>Yg ?_);have hO2:IsPair g2 TO a b:=e2.extBut _ _ D.TOi1 (e1.extBut _ _ D.TOz hO);refine Zb (wpAny_seqItems hO2 rfl (Zb (wpAny_updateSeq_pair hO2 fun g3 hO3 e3=>?_)));refine Zb (wpAny_letGo (Yg (Zb (Zb (wpAny_onRaise ?_)))));show wpAny _ _ (Builtin.SmallTypes.nextOf (.ref i2) >>= _) _ _ _;refine Zb (EnuT.endT hh (V6 (V6 (V6 j2 e1.extBut D.i2z) e2.extBut D.i12.symm) e3.extBut D.TOi2.symm) (tupK (tupK (tupK p2 e1.extBut D.l2z) e2.extBut D.l2i1) e3.extBut D.l2TO) hy fun g4 e e4 he=>?_);obtain⟨oe,hoe,hce⟩:=he;have hz4:IsZip g4 z TI TO .ellipsis:=e4 _ _ D.i2z.symm (e3.extBut _ _ D.TOz.symm (e2.extBut _ _ D.i1z.symm qd));have ez:e≠z:=fun v=>by subst v;rw[hz4]at hoe;cases hoe;simp at hce
  exact wpAny_setField_rec hz4 (by simp) fun g5 _ e5=>q g5 e (fun c o c1 c2 c3 c4 v=>e5.extBut _ _ c1 (e4 _ _ c4 (e3.extBut _ _ c2 (e2.extBut _ _ c3 (e1.extBut _ _ c1 v))))) ⟨oe,e5.extBut _ _ ez hoe,hce⟩
theorem gh{Q:ZT->Shared->Prop}(D:ZipApart z TI TO i1 i2 t1 t2)(hz:IsZip s.heap z TI TO .none)(hI:IsPair s.heap TI (.ref i1) (.ref i2))(hO:IsPair s.heap TO a b)(j1:s.heap.IsTupleIter i1 t1 k)(j2:s.heap.IsTupleIter i2 t2 k)(p1:s.heap.IsTuple t1 xs)(p2:s.heap.IsTuple t2 ys)(hx:xs[k]?=some x)(hy:ys[k]?=some y)
  (q:∀h',IsZip h' z TI TO (rawInt s.heap.objs.size)->IsPair h' TO x y->h'.IsTupleIter i1 t1 (k+1)->h'.IsTupleIter i2 t2 (k+1)->IsPair h' s.heap.objs.size x y->h'.objs.size=s.heap.objs.size+1->(∀c o,c≠z->c≠TO->c≠i1->c≠i2->s.heap.get? c=some o->h'.get? c=some o)->Q (some (.ref s.heap.objs.size)) { s with heap:=h' }) :
  wpAny (model prog w) A (pyNext (.ref z)) Q E s:=by
 have T:s.TypeIs (.ref z) "zip" := ⟨_,hz,rfl⟩;unfold pyNext;exact Zb (wpAny_attempt (wpAny_callSpecial?_slot (name:=Str.ofString "__next__") T F.slot_zip_next (wpAny_call_entry F.slot_zip_next T F.entry_zip_next (itemT D hz hI hO j1 j2 p1 p2 hx hy fun h' a1 a2 a3 a4 a5 a6 a7=>Yg (q h' a1 a2 a3 a4 a5 a6 a7)) (F.args_zip_next_1 _))))
theorem o7{Q:ZT->Shared->Prop}(hh:A.handled=none)(D:ZipApart z TI TO i1 i2 t1 t2)(hz:IsZip s.heap z TI TO .none)(hI:IsPair s.heap TI (.ref i1) (.ref i2))(hO:IsPair s.heap TO a b)(j1:s.heap.IsTupleIter i1 t1 k)(j2:s.heap.IsTupleIter i2 t2 k)(p1:s.heap.IsTuple t1 xs)(p2:s.heap.IsTuple t2 ys)(b7:xs[k]?=none\/ys[k]?=none)
  (q:∀h',(∀c o,c≠z->c≠TO->c≠i1->c≠i2->s.heap.get? c=some o->h'.get? c=some o)->Q none { s with heap:=h' }):wpAny (model prog w) A (pyNext (.ref z)) Q E s:=by
 have T:s.TypeIs (.ref z) "zip" := ⟨_,hz,rfl⟩;unfold pyNext;refine Zb (wpAny_attempt (wpAny_callSpecial?_slot (name:=Str.ofString "__next__") T F.slot_zip_next (wpAny_call_entry F.slot_zip_next T F.entry_zip_next (endT hh D hz hI hO j1 j2 p1 p2 b7 fun h' e hk he=>?_) (F.args_zip_next_1 _))));obtain⟨o,ho,hc⟩:=he;exact Zb (wpAny_isInstance (T:="StopIteration") (b:=true) ⟨o,ho,hc⟩ isSubtype_stop (Yg (q _ hk)))
end
noncomputable abbrev H1(h:Heap)(l1:Addr):Heap:=h.push { cls:=.type "tuple_iterator",data:=.fields #[.ref l1,.int 0 0] }
noncomputable abbrev H2(h:Heap)(l1 l2:Addr):Heap:=(H1 h l1).push { cls:=.type "tuple_iterator",data:=.fields #[.ref l2,.int 0 0] }
noncomputable abbrev H3(h:Heap)(l1 l2:Addr):Heap:=(H2 h l1 l2).push { cls:=.type "tuple",data:=.seq #[.ref h.objs.size,.ref (H1 h l1).objs.size] }
noncomputable abbrev H4(h:Heap)(l1 l2:Addr):Heap:=(H3 h l1 l2).push { cls:=.type "tuple",data:=.seq #[.none,.none] }
noncomputable abbrev H5(h:Heap)(l1 l2:Addr):Heap:=(H4 h l1 l2).push { cls:=.type "zip",data:=.fields #[.none,.bool false,.bool false,.ref (H2 h l1 l2).objs.size,.ref (H3 h l1 l2).objs.size] }
theorem meets(l1 l2:Addr)(xs ys:ZN) :
  Meets (Builtin.«zip.__new__» ⟨[.type "zip",.ref l1,.ref l2],[]⟩) (fun _ R s=>s.heap.IsTuple l1 xs/\s.heap.IsTuple l2 ys /\
   R (.ok (.ret (.ref (H4 s.heap l1 l2).objs.size))) { s with heap:=H5 s.heap l1 l2 }) :=
 .of_wp fun prog w A R s h=>by
  obtain⟨hp,g,d,tk,os⟩:=s;obtain⟨hl1,ed,h⟩:=h;have hsub:=sub_zip;have hL1:Heap.IsTuple (Shared.heap ⟨hp,g,d,tk,os⟩) l1 xs:=hl1;have hL2:Heap.IsTuple (Shared.heap ⟨hp.push { cls:=.type "tuple_iterator",data:=.fields #[.ref l1,.int 0 0] },g,d,tk,os⟩) l2 ys:=let ⟨o,ho,r⟩:=ed;⟨o,Yi _ ho,r⟩
  wp_walk using wpAny_pyIter_tuple hL1,wpAny_pyIter_tuple hL2
  exact⟨_,rfl,h⟩
theorem call2{prog:Program}{w:World}{A:Around}{E:ZW}{s:Shared}{l1 l2:Addr}{xs ys:ZN}{Q:ZW}(hl1:s.heap.IsTuple l1 xs)(ed:s.heap.IsTuple l2 ys)
  (h:∀h',IsZip h' (s.heap.objs.size+4) (s.heap.objs.size+2) (s.heap.objs.size+3) .none->IsPair h' (s.heap.objs.size+2) (.ref s.heap.objs.size) (.ref (s.heap.objs.size+1)) ->
   IsPair h' (s.heap.objs.size+3) .none .none->h'.IsTupleIter s.heap.objs.size l1 0->h'.IsTupleIter (s.heap.objs.size+1) l2 0->h'.objs.size=s.heap.objs.size+5 ->
   (∀c o,s.heap.get? c=some o->h'.get? c=some o)->Q (.ref (s.heap.objs.size+4)) { s with heap:=h' }) :
  wpAny (model prog w) A (call (.type "zip") [.ref l1,.ref l2]) Q E s:=by
 refine callType_new F.called_zip (by decide) (F.typeCall_zip_2 _ _) (F.newCall_zip_2 _ _) (fun obj=>F.args_object_init_3 obj _ _) F.entry_zip_new (meets l1 l2 xs ys) ⟨hl1,ed, ?_⟩;have z1:(H1 s.heap l1).objs.size=s.heap.objs.size+1:=Heap.size_push ..;have z2:(H2 s.heap l1 l2).objs.size=s.heap.objs.size+2:=by rw[Heap.size_push,z1]
 have z3:(H3 s.heap l1 l2).objs.size=s.heap.objs.size+3:=by rw[Heap.size_push,z2]
 have z4:(H4 s.heap l1 l2).objs.size=s.heap.objs.size+4:=by rw[Heap.size_push,z3]
 have z5:(H5 s.heap l1 l2).objs.size=s.heap.objs.size+5:=by rw[Heap.size_push,z4]
 have g5:(H5 s.heap l1 l2).get? (H4 s.heap l1 l2).objs.size=some _:=Dv _ rfl;have g4:(H5 s.heap l1 l2).get? (H3 s.heap l1 l2).objs.size=some _:=Yi _ (Dv _ rfl);have g3:(H5 s.heap l1 l2).get? (H2 s.heap l1 l2).objs.size=some _:=Yi _ (Yi _ (Dv _ rfl));have g2:(H5 s.heap l1 l2).get? (H1 s.heap l1).objs.size=some _:=Yi _ (Yi _ (Yi _ (Dv _ rfl)));have g1:(H5 s.heap l1 l2).get? s.heap.objs.size=some _:=Yi _ (Yi _ (Yi _ (Yi _ (Dv _ rfl))));show _/\_;rw[z2,z3,z4]at g5;rw[z1,z2]at g3;rw[z3]at g4;rw[z1]at g2;rw[z4]
 exact⟨⟨_,g5,rfl⟩,h _ g5 g3 g4 ⟨_,g1,rfl,rfl⟩ ⟨_,g2,rfl,rfl⟩ z5 fun c o x =>
  Yi _ (Yi _ (Yi _ (Yi _ (Yi _ x))))⟩
end ZipT
namespace L2
open PySem PySem.Spec PyProof.Rows
def Itzt(K:W.Frag)(l1 l2:Addr):It :=
  ⟨fun i H=>∃xs ys x y,Vy K H l1 xs/\Vy K H l2 ys/\xs[i]?=some x/\ys[i]?=some y,
   fun i H v H'=>∃p x y,v=.ref p/\H p=none/\H'=upd H p (.tup [x,y])/\(∀xs,Vy K H l1 xs->xs[i]?=some x)/\∀ys,Vy K H l2 ys->ys[i]?=some y,
   fun i H=>∃xs ys,Vy K H l1 xs/\Vy K H l2 ys/\(xs.length<=i\/ys.length<=i)⟩
theorem Xg{P:Program}{w:World}{K:W.Frag}{es:ZC}{k:Nat}{pos:Pos}(z TI TO i1 i2 l1 l2:Addr)(D:ZipApart z TI TO i1 i2 l1 l2) :
  Turn P w K (.Tuple es k pos) (Itzt K l1 l2) [z,TI,TO,i1,i2] z (fun i h=>IsZip h z TI TO .none/\IsPair h TI (.ref i1) (.ref i2)/\(∃a b,IsPair h TO a b)/\h.IsTupleIter i1 l1 i/\h.IsTupleIter i2 l2 i) where
 mem:=by simp
 obj:=fun i h st b hb=>by
  obtain⟨hz,Fv,⟨a,c,Oq⟩,⟨o1,e1,_,d1⟩,⟨o2,e2,_,d2⟩⟩:=st;simp only[Y6,Tj,or_false]at hb;rcases hb with rfl | rfl | rfl | rfl | rfl
  .exact⟨_,hz,fun v q=>nomatch q⟩
  .exact⟨_,Fv,fun v q=>nomatch q⟩
  .exact⟨_,Oq,fun v q=>nomatch q⟩
  .exact⟨_,e1,fun v q=>by rw[d1]at q;cases q⟩
  .exact⟨_,e2,fun v q=>by rw[d2]at q;cases q⟩
 keep:=fun i h h' st hk=>by
  obtain⟨hz,Fv,⟨a,b,Oq⟩,h1,h2⟩:=st;exact⟨hk z (by simp) _ hz,hk TI (by simp) _ Fv,⟨a,b,hk TO (by simp) _ Oq⟩,(let ⟨o,ho,r⟩:=h1;⟨o,hk i1 (by simp) o ho,r⟩),(let ⟨o,ho,r⟩:=h2;⟨o,hk i2 (by simp) o ho,r⟩)⟩
 item:=by
  intro X hP hw hK hc i XF s j H E I hf st hg;subst hP hw hK;obtain⟨xs,ys,x,y,q1,q2,g1,g2⟩:=hg;obtain⟨hz,Fv,⟨a,b,Oq⟩,h1,h2⟩:=st;obtain⟨cu,v1,zk,z1⟩:=I.tuple q1;obtain⟨i7,v2,zy,z2⟩:=I.tuple q2;obtain⟨u1,e1,r1⟩:=v1.get g1;obtain⟨u2,e2,r2⟩:=v2.get g2;refine ZipT.gh D hz Fv Oq h1 h2 (show s.heap.IsTuple l1 cu.toArray from zk) (show s.heap.IsTuple l2 i7.toArray from zy) (x:=u1) (y:=u2) (by simpa using e1) (by simpa using e2) fun h' a1 a2 a3 a4 a5 a6 hk=>?_;refine⟨_,rfl,wpAny_letOwnedTupleGo_zip (s:={ s with heap:=h' }) a1 fun h'' W6 Ng=>?_⟩;have lt:∀{c o},s.heap.get? c=some o->s.heap.objs.size≠c:=fun e=>Nat.ne_of_gt (Vt e);have nz:s.heap.objs.size≠z:=lt hz
  have kk:∀c u,c ∉ [z,TI,TO,i1,i2]->s.heap.get? c=some u->h''.get? c=some u:=fun c u m e=>by
   simp only[Y6,Tj,or_false,not_or]at m;exact Ng.extBut _ _ m.1 (hk c u m.1 m.2.2.1 m.2.2.2.1 m.2.2.2.2 e)
  have fresh:=I.hok.fresh (Yz s.heap.objs.size);have J:Inv X XF j (upd H s.heap.objs.size (.tup [x,y])) { s with heap:=h'',toks:=s.toks }:=I.turnLay kk hf (Yz _) ⟨by show 2<=sizeLine;decide,[u1,u2],.cons r1 (.cons r2 .nil),⟨_,Ng.extBut _ _ nz a5,rfl,⟨_,rfl⟩,rfl⟩⟩;refine⟨.ref s.heap.objs.size,_,J,rfl,⟨_,x,y,rfl,fresh,rfl,fun ws hw=>by rw[I.tuple_inj hw q1];exact g1,fun ws hw=>by rw[I.tuple_inj hw q2];exact g2⟩,⟨W6,Ng.extBut _ _ D.TIz (hk _ _ D.TIz D.TITO D.TIi1 D.TIi2 Fv),⟨_,_,Ng.extBut _ _ D.TOz a2⟩,ZipT.V6 a3 Ng.extBut D.i1z,ZipT.V6 a4 Ng.extBut D.i2z⟩,fun c hc=>?_⟩
  have nc:c≠s.heap.objs.size:=fun q=>by
   subst q;simp only[Y6,Tj,or_false]at hc;rcases hc with q | q | q | q | q
   .exact lt hz q
   .exact lt Fv q
   .exact lt Oq q
   .obtain⟨_,e,_⟩:=h1;exact lt e q
   .obtain⟨_,e,_⟩:=h2;exact lt e q
  rw[Zz nc];exact(hf c hc).1
 done:=by
  intro X hP hw hK hc i XF s j H E I hf st hg;subst hP hw hK;obtain⟨xs,ys,q1,q2,g⟩:=hg;obtain⟨hz,Fv,⟨a,b,Oq⟩,h1,h2⟩:=st;obtain⟨cu,v1,zk,z1⟩:=I.tuple q1;obtain⟨i7,v2,zy,z2⟩:=I.tuple q2;have hl1:=v1.length;have ed:=v2.length;refine ZipT.o7 (I.ok.hd hc) D hz Fv Oq h1 h2 (show s.heap.IsTuple l1 cu.toArray from zk) (show s.heap.IsTuple l2 i7.toArray from zy) (by rcases g with g | g;exact .inl (by simp;omega);exact .inr (by simp;omega)) fun h' hk=>⟨rfl,I.turnL (t':=s.toks) (fp:=[z,TI,TO,i1,i2]) (fun c u m e=>?_) hf⟩;simp only[Y6,Tj,or_false,not_or]at m;exact hk c u m.1 m.2.2.1 m.2.2.2.1 m.2.2.2.2 e
 self:=fun A i s Q E st h=>wpAny_pyIter_zip st.1 h
inductive A8(K:W.Frag)(R:(It->Hp->Prop))(vs:ZQ)(H1:Hp):Prop
 | mk(p q)(Vj:vs=[.ref p,.ref q])(Vq:(∃xs,Vy K H1 p xs))(Jd:(∃ys,Vy K H1 q ys))(Km:R (Itzt K p q) H1):A8 K R vs H1
def iZipT(K:W.Frag)(t:TA):TI:=fun j H R=>t j H fun vs H1=>A8 K R vs H1
section
variable{X:Cx}{es:ZC}{k:Nat}{p2 pos U6:Pos}{a b:Expr}{t:TA}
theorem ay(hgz:Gl X "zip")(hmz:X.mg "zip" = none)(ha:PA X [a,b] t)
  (he2:starEach [a,b] X.env=(false,eval a X.env)::starEach [b] X.env:=by rfl) (Ij:(backTo U6 (starEach [b] X.env)).any (·.1)=false:=by rfl) :
  PI X (.Tuple es k pos) (.Call (.Name "zip" p2) [a,b] [] U6) (iZipT X.K t):=by
 intro XF s j H R I h;refine wpAny_Call_Name_kw (N0 I hgz hmz (by decide +kernel:bootBuiltins "zip" = some (.type "zip")) ?_ (by decide) (by decide));refine callWith_type1 (Z3 (ha U6 XF s j H _ I h) fun us s1 ⟨vs,H1,I1,r1,q1⟩=>?_) he2 Ij;obtain⟨l1,l2,rfl,⟨xs,hx⟩,⟨ys,hy⟩,q⟩:=q1;obtain⟨u1,u2,rfl,e1,e2⟩:=vals2 r1;cases e1;cases e2;obtain⟨cu,v1,zk,z1⟩:=I1.tuple hx;obtain⟨i7,v2,zy,z2⟩:=I1.tuple hy;have n1:l1<s1.heap.objs.size:=by obtain⟨_,e,_⟩:=(show s1.heap.IsTuple l1 cu.toArray from zk);exact Vt e
 have n2:l2<s1.heap.objs.size:=by obtain⟨_,e,_⟩:=(show s1.heap.IsTuple l2 i7.toArray from zy);exact Vt e
 refine ZipT.call2 (show s1.heap.IsTuple l1 cu.toArray from zk) (show s1.heap.IsTuple l2 i7.toArray from zy) fun h2 b1 b2 b3 b4 b5 b6 k2=>?_;refine wpAny_pyIter_zip (s:={ s1 with heap:=h2 }) b1 ?_;have J:Inv X XF j H1 { s1 with heap:=h2,toks:=s1.toks }:=I1.kept k2;refine⟨_,[s1.heap.objs.size+4,s1.heap.objs.size+2,s1.heap.objs.size+3,s1.heap.objs.size,s1.heap.objs.size+1],_,_,H1,rfl,J,Xg _ _ _ _ _ l1 l2 (zipApart_new n1 n2),⟨b1,b2,⟨_,_,b3⟩,b4,b5⟩,fun c hc=>?_,q⟩
 have ge:s1.heap.objs.size<=c:=by
  simp only[Y6,Tj,or_false]at hc;rcases hc with q | q | q | q | q<;>rw[q]<;>first | exact Yz _ | exact Nat.le_add_right _ _
 exact I1.fpOk ge (I1.hok.fresh ge)
end
section
variable{X:Cx}
end
section
variable{X:Cx}{es:ZC}{k:Nat}{p2 pos U6:Pos}{a:Expr}{t:TA}
end
section
variable{X:Cx}{XF:ZY}{j:St}{H:Hp}{s:Shared}
end
section
variable{X:Cx}
end
def Rm(c:Addr)(q:Str):HO:=.ext fun h=>h.CodeRec (.ref c) q
def cz(H:Hp)(lp:Pos)(q:Str)(ps:ZN):Prop:=TriplesOk ps.toList/\(codeAmong lp ps.toList=none\/∃c',codeAmong lp ps.toList=some (.ref c')/\H c'=some (Rm c' q))
structure LamAt(X:Cx)(P:Addr):Prop where
 c:∃c,X.env.code=.ref c/\∀h,X.K.In h->W.CodeHd h c P
 bi:∀h,X.K.In h->h.BuiltinsAt X.mg P
 ne:mainGlobals≠P
section
variable{X:Cx}{XF:ZY}{j:St}{H:Hp}{s:Shared}
theorem oi{h h':Heap}{L:Addr}{m:ZV}(n:h.Ns L m)(k:∀o,h.get? L=some o->h'.get? L=some o):h'.Ns L m :=
 let ⟨o,es,ep,e,r⟩:=n
 ⟨o,es,ep,k o e,r⟩
theorem Rm.ok{P:Program}{w:World}{H':Hp}{h:Heap}{c:Addr}{q:Str}(k:h.CodeRec (.ref c) q):Zh P w H' h c (Rm c q):=by
 refine⟨k, ?_,fun h1 h2 k1 e=>?_⟩
 .obtain⟨c1,o,vs,t,e,ho,_⟩:=k;cases e;exact⟨o,ho⟩
 .obtain⟨c1,o,vs,t,ec,ho,r⟩:=k1;cases ec;exact⟨c,o,vs,t,rfl,e o ho,r⟩
theorem Rm.code{P:Program}{w:World}{H':Hp}{h:Heap}{c:Addr}{q:Str}(x:D8 P w H' h)(e:H' c=some (Rm c q)):h.CodeRec (.ref c) q:=(x c _ e).1
end
noncomputable def Na(h:Heap)(L:Addr):Heap:={ h with objs:=h.objs.extract 0 L }
theorem A2{h:Heap}{L b:Nat}:(Na h L).objs[b]?=if b<L then h.objs[b]? else none:=by
 show (h.objs.extract 0 L)[b]?=_;rw[Array.getElem?_extract];simp only[Nat.zero_add,Nat.sub_zero];by_cases hb:b<L
 .rw[if_pos hb];by_cases hc:b<h.objs.size
  .rw[if_pos (by omega)]
  .rw[if_neg (by omega),Array.getElem?_eq_none (by omega)]
 .rw[if_neg hb,if_neg (by omega)]
theorem P0{h:Heap}{L b:Addr}{o:Obj}(e:h.get? b=some o)(hb:b<L):(Na h L).get? b=some o:=by
 unfold Heap.get? at e ⊢;rw[A2,if_pos hb];exact e
theorem L8{h:Heap}{L b:Addr}{o:Obj}(e:(Na h L).get? b=some o):h.get? b=some o/\b<L:=by
 unfold Heap.get? at e;rw[A2]at e;by_cases hb:b<L
 .rw[if_pos hb]at e;exact⟨e,hb⟩
 .rw[if_neg hb]at e;cases e
noncomputable def Dm(h:Heap)(L:Addr):ZY:=(List.range h.objs.size).filterMap fun b=>if b<=L then none else (h.get? b).map fun o=>(b,o)
theorem Nu{h:Heap}{L b:Addr}{o:Obj}:(b,o)∈Dm h L↔L<b/\h.get? b=some o:=by
 unfold Dm;rw[List.mem_filterMap];constructor
 .rintro⟨x,hx,e⟩;by_cases z:x<=L
  .rw[if_pos z]at e;cases e
  .rw[if_neg z]at e;obtain⟨o',e1,e2⟩:=Z4.mp e;cases e2;exact⟨Nat.lt_of_not_le z,e1⟩
 .rintro⟨hb,e⟩;refine⟨b,List.mem_range.mpr (Vt e), ?_⟩;rw[if_neg (Nat.not_le.mpr hb),e];rfl
theorem Zh.has{P:Program}{w:World}{H:Hp}{h:Heap}{a:Addr}{o:HO}(x:Zh P w H h a o):∃u,h.get? a=some u:=by
 cases o with
 | lst xs=>obtain⟨_,_,_,_,e⟩:=x;exact⟨_,e⟩
 | tup xs=>obtain⟨_,_,_,o,e,_⟩:=x;exact⟨_,e⟩
 | dK XB=>obtain⟨_,_,_,_,o,_,_,e,_⟩:=x;exact⟨_,e⟩
 | dT XB=>obtain⟨_,_,_,_,o,_,_,e,_⟩:=x;exact⟨_,e⟩
 | set S n=>obtain⟨o,_,_,_,e,_⟩:=x;exact⟨_,e⟩
 | ins C dx fs=>obtain⟨_,_,_,e,_⟩:=x;exact⟨_,e⟩
 | own y=>exact x
 | xd fs=>obtain⟨_,⟨_,_,_,e,_⟩,_⟩:=x;exact⟨_,e⟩
 | rng lo hi=>obtain⟨_,_,_,e⟩:=x;exact⟨_,e⟩
 | frz ob u=>obtain⟨e,_⟩:=x;exact⟨_,e⟩
 | tbl ps=>exact⟨_,(show h.get? a=some _ from x)⟩
 | met f y=>exact⟨_,(show h.get? a=some _ from x)⟩
 | ext φ=>obtain⟨_,e,_⟩:=x;exact e
theorem Fz{h h':Heap}{L:Addr}{m:ZV}{own:ZY}(f:Fr (Na h L) L h' m)(n:News (Na h L) L h' own)(hs:∀p∈Dm h L,p∈own):∀b o,b≠L->h.get? b=some o->h'.get? b=some o:=fun b o nb e=>by
 rcases Nat.lt_trichotomy b L with z | z | z
 .exact f.keep b o (P0 e z)
 .exact absurd z nb
 .exact(n (b,o) (hs _ (Nu.mpr ⟨z,e⟩))).1
section
variable{X:Cx}{e:Expr}{te:TA}{p pos lp kp p0 p1 p2 p3:Pos}
end
end L2
namespace PySem.Heap
theorem IsTupleIter.aT{h h':Heap}{i t:Addr}{k:Nat}(st:h.IsTupleIter i t k)(e:∀o,h.get? i=some o->h'.get? i=some o):h'.IsTupleIter i t k:=let ⟨o,ho,r⟩:=st;⟨o,e _ ho,r⟩
theorem IsTuple.aT{h h':Heap}{t:Addr}{xs:ZN}(st:h.IsTuple t xs)(e:∀o,h.get? t=some o->h'.get? t=some o):h'.IsTuple t xs:=let ⟨o,ho,r⟩:=st;⟨o,e _ ho,r⟩
end PySem.Heap
namespace L2
open PySem PySem.Spec PyProof.Rows
section
variable{X:Cx}{x y:Str}{p p2 pos U6:Pos}{a b:Expr}{t:TA}
end
end L2
namespace DicP2
open PySem PySem.Spec PyProof.Rows
theorem hb0:hookBefore (.type "tuple")=pure none:=rfl
section
variable{prog:Program}{w:World}{K:Type}[DecidableEq K]{knd:PySem.KeyKind prog w K}
variable{A:Around}{R:Result->Shared->Prop}{E:ZW}{s:Shared}{d it t:Addr}{its:ZN}{rs:List (K×Value)}
end
end DicP2
namespace L2
open PySem PySem.Spec PyProof.Rows
section
variable{X:Cx}{XF:ZY}{j:St}{H:Hp}{s:Shared}
theorem Inv.lay2{h':Heap}{D:Addr}{u:HO}{t':Nat}(I:Inv X XF j H s){m:ZV}(hn:s.heap.Ns X.env.locals m)(hn':h'.Ns X.env.locals m)(ka:∀b o,b≠X.env.locals->s.heap.get? b=some o->h'.get? b=some o)(nD:s.heap.get? D=none)
  (new:Zh X.prog X.w (upd H D u) h' D u):Inv X XF j (upd H D u) { s with heap:=h',toks:=t' }/\H D=none:=by
 have fD:H D=none:=by
  cases eo:H D with
  | none=>rfl
  | some u =>
   obtain⟨o,e⟩:=(I.hok D u eo).has;rw[e]at nD;cases nD
 refine⟨?_,fD⟩;have ne:∀{b:Addr} {o:Obj},s.heap.get? b=some o->b≠D:=fun {b o} e z=>by rw[z,nD]at e;cases e
 have neH:∀{b:Addr} {u:HO},H b=some u->b≠D:=fun {b u} e z=>by rw[z,fD]at e;cases e
 refine I.step (h':=h') (g':=s.gens) (d':=s.drawn) (t':=t') (ch:=[]) (H':=upd H D u) (fun _ z=>nomatch z)
  (fun b o nl _ _ e _=>ka b o nl e) (fun b o nl _ _ e _=>⟨o.slots,ka b o nl e⟩) (fun b o _ e n=>by rw[Zz (ne e)];exact n) (fun b o _ e=>?_) (fun b xs e=>by rw[Zz (neH e)];exact e) (fun b o u e=>by rw[Zz (neH e)];exact e) (fun b qs e=>⟨#[],by rw[Zz (neH e),e];simp⟩) (fun m' hm=>?_) (fun b v e=>?_) I.bare
 .by_cases z:b=X.env.locals
  .obtain⟨o2,_,_,e2,_⟩:=hn';exact⟨o2,by rw[z];exact e2⟩
  .exact⟨o,ka b o z e⟩
 .have em:m'=m:=by
   obtain⟨o2,es,ep,e2,d2,_,r2⟩:=hm;obtain⟨o3,es3,ep3,e3,d3,_,r3⟩:=hn;rw[e2]at e3;cases e3;rw[d2]at d3;cases d3;exact funext fun x=>(r2 x).symm.trans (r3 x)
  rw[em];exact hn'
 .by_cases z:b=D
  .subst z;rw[Zx]at e;cases e;exact new
  .rw[Zz z]at e;refine(I.hok b v e).stay (fun d v hd q=>ka d v ?_ q) (fun d q=>by rw[Zz (neH q)];exact q) fun d xs q=>by rw[Zz (neH q)];exact q
   rcases hd with rfl | hd
   .exact fun zz=>by rw[zz,I.free]at e;cases e
   .exact fun zz=>by rw[zz,I.free]at hd;cases hd
theorem Inv.frame(I:Inv X XF j H s):∃m,s.heap.Ns X.env.locals m/\Fr (Na s.heap X.env.locals) X.env.locals s.heap m/\News (Na s.heap X.env.locals) X.env.locals s.heap (Dm s.heap X.env.locals):=by
 obtain⟨m,hn,_⟩:=id I.loc
 have lsz:(Na s.heap X.env.locals).objs.size<=X.env.locals:=by
  show (s.heap.objs.extract 0 X.env.locals).size<=_;rw[Array.size_extract];omega
 refine⟨m,hn,⟨hn,fun b o e=>(L8 e).1,lsz⟩,fun p hp=>?_⟩;obtain⟨b,o⟩:=p;obtain⟨h1,h2⟩:=Nu.mp hp;refine⟨h2,Nat.ne_of_gt h1, ?_⟩;cases z:(Na s.heap X.env.locals).get? b with
 | none=>rfl
 | some o'=>exact absurd (L8 z).2 (Nat.lt_asymm h1)
theorem Inv.newAt{h':Heap}{D:Addr}{o:Obj}{m:ZV}(n':News (Na s.heap X.env.locals) X.env.locals h' ((D,o)::Dm s.heap X.env.locals))(hD:∀q∈Dm s.heap X.env.locals,q.1<D):s.heap.get? D=none:=by
 obtain⟨_,nDL,lD⟩:=n' (D,o) Vk;cases eo:s.heap.get? D with
 | none=>rfl
 | some o =>
  exfalso
  rcases Nat.lt_trichotomy D X.env.locals with y | y | y
  .rw[P0 eo y]at lD;cases lD
  .exact nDL y
  .exact absurd (hD (D,o) (Nu.mpr ⟨y,eo⟩)) (Nat.lt_irrefl _)
end
section
variable{X:Cx}
end
section
variable{X:Cx}{XF:ZY}{j:St}{H:Hp}{s:Shared}
end
end L2
namespace DctT
open PySem PySem.SeqAt PySem.MeetsSeq
open PySem.AutoSeq1 (wpAny_loadPart')
end DctT
namespace L2
open PySem PySem.Spec PyProof.Rows
section
variable{X:Cx}
end
section
variable{X:Cx}
end
end L2
namespace EX
open PySem
section
variable{M:Model}{A:Around}{E:ZW}{s:Shared}{env:Env}{outer:List Env}{base:Heap}{L e T:Addr}{oe oT:Obj}{vs ts:ZN}{x:Value}{Q:ZA}
end
end EX
namespace L2
open PySem PySem.Spec PyProof.Rows
section
variable(prog:Program)(w:World)(A:Around)(tg elt:Expr)(ifs:ZC)(env:Env)(it acc:Value)(E:ZW)
end
section
variable{X:Cx}{scope:Scope}{N:ZD}{fr:ZG}{tg elt iter:Expr}{ifs:ZC}{pos:Pos}{wi:TI}{g:DG}{tt:DT}{te:DE}
end
section
variable{X:Cx}{XF:ZY}{j:St}{H:Hp}{s s':Shared}
end
section
variable{X:Cx}{scope:Scope}{N:ZD}{fr:ZG}{tg elt iter:Expr}{ifs:ZC}{pos:Pos}{wi:TI}{g:St->DG}{tt:St->DT}{te:St->DE}{W:XWT}
end
section
variable{X:Cx}
end
section
variable{X:Cx}
end
section
variable{X:Cx}
end
end L2
namespace SRT
open PySem PySem.Spec PyProof.Rows L2
noncomputable def insI(x:Int):ZL->ZL
 | []=>[x]
 | y::r=>if x<=y then x::y::r else y::insI x r
def Nn:ZL->ZL
 | []=>[]
 | x::r=>insI x (Nn r)
theorem insI_perm(x:Int):∀r:ZL,(insI x r).Perm (x::r)
 | []=>.refl _
 | y::r=>by
  unfold insI
  split
  .exact .refl _
  .exact((insI_perm x r).cons y).trans (.swap x y r)
theorem Yb:∀r:ZL,(Nn r).Perm r
 | []=>.refl _
 | x::r=>(insI_perm x _).trans ((Yb r).cons x)
theorem P5(x:Int):∀r:ZL,r.Pairwise (·<=·)->(insI x r).Pairwise (·<=·)
 | [],_=>List.pairwise_singleton _ _
 | y::r,h=>by
  rw[ZE]at h;unfold insI
  split
  .rename_i hx
   rw[ZE,ZE];exact⟨fun z m=>by rcases Y6.mp m with rfl | m;exact hx;exact Int.le_trans hx (h.1 z m),h.1,h.2⟩
  .rename_i hx
   rw[ZE];refine⟨fun z m=>?_,P5 x r h.2⟩;rcases Y6.mp ((insI_perm x r).mem_iff.mp m) with rfl | m
   .omega
   .exact h.1 z m
theorem Pz:∀r:ZL,(Nn r).Pairwise (·<=·)
 | []=>List.Pairwise.nil
 | x::r=>P5 x _ (Pz r)
theorem rp{a b:ZL}(h:a.Perm b)(s:a.Pairwise (·<=·)):a=Nn b :=
 List.Perm.eq_of_pairwise (fun _ _ _ _ h1 h2=>Int.le_antisymm h1 h2) s (Pz b) (h.trans (Yb b).symm)
noncomputable def S7(a b:Str):Bool:=!decide (b.cps.toList<a.cps.toList)
noncomputable def z9(x:Str):ZD->ZD
 | []=>[x]
 | y::r=>if S7 x y=true then x::y::r else y::z9 x r
def Uo:ZD->ZD
 | []=>[]
 | x::r=>z9 x (Uo r)
theorem N5(x:Str):∀r:ZD,(z9 x r).Perm (x::r)
 | []=>.refl _
 | y::r=>by
  unfold z9
  split
  .exact .refl _
  .exact((N5 x r).cons y).trans (.swap x y r)
theorem Yf:∀r:ZD,(Uo r).Perm r
 | []=>.refl _
 | x::r=>(N5 x _).trans ((Yf r).cons x)
theorem L9{a b:Str}:S7 a b=true↔¬ b.cps.toList<a.cps.toList:=by unfold S7;simp
theorem W0{a b c:Str}(h1:S7 a b=true)(h2:S7 b c=true):S7 a c=true:=by
 rw[L9]at *;exact List.not_lt.mpr (List.le_trans (List.not_lt.mp h1) (List.not_lt.mp h2))
theorem zi{a b:Str}(h:¬ S7 a b=true):S7 b a=true:=by
 rw[L9]at *;exact fun z=>List.lt_asymm (Decidable.not_not.mp h) z
theorem fk{a b:Str}(h1:S7 a b=true)(h2:S7 b a=true):a=b:=by
 rw[L9]at *;have e:a.cps.toList=b.cps.toList:=List.le_antisymm (List.not_lt.mp h1) (List.not_lt.mp h2);cases a;cases b
 congr
 exact Array.toList_inj.mp e
theorem P4(x:Str):∀r:ZD,r.Pairwise (fun a b=>S7 a b=true)->(z9 x r).Pairwise (fun a b=>S7 a b=true)
 | [],_=>List.pairwise_singleton _ _
 | y::r,h=>by
  rw[ZE]at h;unfold z9
  split
  .rename_i hx
   rw[ZE,ZE];exact⟨fun z m=>by rcases Y6.mp m with rfl | m;exact hx;exact W0 hx (h.1 z m),h.1,h.2⟩
  .rename_i hx
   rw[ZE];refine⟨fun z m=>?_,P4 x r h.2⟩;rcases Y6.mp ((N5 x r).mem_iff.mp m) with rfl | m
   .exact zi hx
   .exact h.1 z m
theorem Q9:∀r:ZD,(Uo r).Pairwise (fun a b=>S7 a b=true)
 | []=>List.Pairwise.nil
 | x::r=>P4 x _ (Q9 r)
theorem Mf:∀(l:ZD) (p:Str),risingS p l=true->(p::l).Pairwise (fun a b=>S7 a b=true)
 | [],p,_=>List.pairwise_singleton _ _
 | q::l,p,h=>by
  unfold risingS at h;rw[Ya]at h;have r:=Mf l q h.2
  have h1:S7 p q=true:=by
   have:=h.1;rw[ltCps_eq]at this;exact this
  rw[ZE];refine⟨fun z m=>?_,r⟩;rcases Y6.mp m with rfl | m
  .exact h1
  .exact W0 h1 ((ZE.mp r).1 z m)
theorem La:∀l:ZD,sortedS l=true->l.Pairwise (fun a b=>S7 a b=true)
 | [],_=>List.Pairwise.nil
 | p::l,h=>Mf l p h
theorem rl{a b:ZD}(h:a.Perm b)(s:sortedS a=true):a=Uo b :=
 List.Perm.eq_of_pairwise (fun _ _ _ _ h1 h2=>fk h1 h2) (La a s) (Q9 b) (h.trans (Yf b).symm)
noncomputable def qb{j:Type}[DecidableEq j]:List j->List j
 | []=>[]
 | x::r=>if x∈r then qb r else x::qb r
theorem Ts{j:Type}[DecidableEq j]{x:j}:∀{l:List j},x∈qb l↔x∈l
 | []=>Iff.rfl
 | y::r=>by
  unfold qb
  split
  .rename_i hy
   rw[Ts,Y6];exact⟨.inr,fun h=>h.elim (fun e=>e ▸ hy) id⟩
  .rw[Y6,Y6,Ts]
theorem Kx{j:Type}[DecidableEq j]:∀{l:List j},(qb l).Nodup
 | []=>List.Pairwise.nil
 | y::r=>by
  unfold qb
  split
  .exact Kx
  .rename_i hy
   exact List.nodup_cons.mpr ⟨fun m=>hy (Ts.mp m),Kx⟩
theorem gy{j:Type}[DecidableEq j]{us l:List j}(nd:us.Nodup)(h:∀x,x∈us↔x∈l):us.Perm (qb l) :=
 (List.perm_ext_iff_of_nodup nd Kx).mpr fun x=>(h x).trans Ts.symm
section
variable{prog:Program}{w:World}{A:Around}{E:ZW}{s:Shared}
theorem O4{l:Addr}{o:Obj}{vs:ZM}{n:Nat}{T:String}{Q:ZM->Shared->Prop}(ho:s.heap.get? l=some o)(hc:o.cls=.type T)(hT:T = "list" \/ T = "tuple")(hd:o.data=.seq vs.toArray n)
  (h:Q vs { s with heap:=(s.heap.push (seqObj "list" #[] 0)).update s.heap.objs.size (Obj.mapSeq (·++vs.toArray)) }) (hsz:vs.length<=sizeLine) :
  wpAny (model prog w) A (collect (.ref l)) Q E s:=by
 unfold collect;refine Zb (wpAny_runValue (codeAny_builtin entry_proto_collect' ?_));show wpAny _ _ (do again (.builtin "list.__iadd__" ⟨[<-newList [],.ref l],[]⟩)) _ _ s;refine Zb (wpAny_newList (Yg ⟨Code.quiet_builtin _ (by decide +kernel),codeAny_builtin entry_list_iadd' ?_⟩));show wpAny _ _ (Builtin.List.listExtendWith (.ref s.heap.objs.size) (.ref l) (.ref s.heap.objs.size)) _ _ { s with heap:=s.heap.push (seqObj "list" #[] 0) };unfold Builtin.List.listExtendWith;have R1:(s.heap.push (seqObj "list" #[] 0)).get? l=some o:=Yi _ ho;refine Zb (wpAny_typeOf (T:=T) ⟨o,R1,hc⟩ ?_)
 have ht:(Value.type T == Value.type "list" || Value.type T == Value.type "tuple")=true:=by
  rcases hT with rfl | rfl<;>rfl
 rw[if_pos (by rw[Bool.or_assoc,ht];simp)];refine Zb (listItems_at R1 hd ?_);refine Zb (listItems_at (xs:=#[]) (n:=0) (Dv _ rfl) rfl ?_);rw[if_neg (by simp)];refine Zb (listUpdate_at (xs:=#[]) (n:=0) (Dv _ rfl) rfl ?_ (B2 _) (by show (#[]++vs.toArray).size<=sizeLine+1;simp only[Array.size_append,V7,List.length_nil];omega));refine Yg ?_
 show wpAny (model prog w) A (do
   let o <-load s.heap.objs.size
   match o.data with
   | .seq xs _=>pure xs.toList
   | _=>unsupported "internal:collect") Q E { s with heap:=(s.heap.push (seqObj "list" #[] 0)).update s.heap.objs.size (Obj.mapSeq (·++vs.toArray)) }
 refine Zb (wpAny_load (get?_update_seq (Dv _ rfl) _) ?_);show wpAny _ _ (pure ((#[]:ZN)++vs.toArray).toList) Q E _;rw[show ((#[]:ZN)++vs.toArray).toList=vs by simp];exact Yg h
theorem Bm{l:Addr}{o:Obj}{vs:ZM}{n:Nat}{T:String}{Q:ZW}(ho:s.heap.get? l=some o)(hc:o.cls=.type T)(hT:T = "list" \/ T = "tuple")(hd:o.data=.seq vs.toArray n)(hsz:vs.length<=sizeLine)
  (h:∀(h1:Heap) (D:Addr),(∀b ob,s.heap.get? b=some ob->h1.get? b=some ob)->s.heap.objs.size<=D->h1.get? D=some (seqObj "list" vs.toArray 0) ->
   wpAny (model prog w) A.in1 (call (.builtin "list.sort") [.ref D]) (fun _ s'=>Q (.ref D) s') E { s with heap:=h1 }) :
  wpAny (model prog w) A (call (.builtin "sorted") [.ref l]) Q E s:=by
 refine Calls.call_function_entry kind_sorted plain_sorted entry_sorted (args_sorted1 _) ?_;unfold Builtin.«sorted»;refine Zb (m:=checkCount "sorted" 1 1 _) (Yg ?_);refine Zb (O4 ho hc hT hd ?_ hsz);refine Zb (wpAny_newList ?_ hsz)
 have c7:((s.heap.push (seqObj "list" #[] 0)).update s.heap.objs.size (Obj.mapSeq (·++vs.toArray))).objs.size=s.heap.objs.size+1:=by
  rw[Heap.size_update,size_push']
 have k1:∀b ob,s.heap.get? b=some ob->((s.heap.push (seqObj "list" #[] 0)).update s.heap.objs.size (Obj.mapSeq (·++vs.toArray))).get? b=some ob:=fun b ob e=>by
  rw[Heap.get?_update_ne _ _ _ _ (Bv (Vt e))];exact Yi _ e
 have hg:=h ((((s.heap.push (seqObj "list" #[] 0)).update s.heap.objs.size (Obj.mapSeq (·++vs.toArray)))).push (seqObj "list" vs.toArray 0)) _ (fun b ob e=>Yi _ (k1 b ob e)) (by rw[c7];exact Nat.le_succ _) (Dv _ rfl);refine Zb (wpAny_holding (wpAny_mono hg (fun _ s' x=>?_) fun _ _ e=>e));exact Yg ⟨_,rfl,x⟩
def Srt(prog:Program)(w:World)(Ok:Heap->Prop)(vs:ZM)(R:ZM->Prop):Prop:=∀(A:Around) (E:ZW) (s:Shared) (D:Addr) (Q:Shared->Prop),Ok s.heap->s.heap.get? D=some (seqObj "list" vs.toArray 0) ->
 (∀(h1:Heap) (out:ZN) (n:Nat),(∀b ob,b≠D->s.heap.get? b=some ob->h1.get? b=some ob)->h1.get? D=some (seqObj "list" out n)->R out.toList->Q { s with heap:=h1 }) ->
 wpAny (model prog w) A (call (.builtin "list.sort") [.ref D]) (fun _ s'=>Q s') E s
theorem srt_ints{Ok:Heap->Prop}{vs:ZM}{zs:ZL}(hI:IntsAre vs zs)(h64:vs.length<64):Srt prog w Ok vs fun o=>IntsAre o (Nn zs):=by
 intro A E s D Q _ Lq h;refine wpAny_call_entry slot_list_sort ⟨_,Lq,rfl⟩ entry_list_sort ?_ (args_list_sort _);refine list_sort_tree Lq hI h64 fun out ns q1 q2 q3=>⟨_,rfl, ?_⟩;obtain⟨n,e⟩:=sortedHeap_at (h:=s.heap) (a:=D) (vs:=vs) (n:=0) (out:=out) Lq;exact h _ out n (fun b ob nb e0=>SetM.Vn nb e0) e (by rw[<-rp q2 q3];exact q1)
theorem srt_strs{Ok:Heap->Prop}{vs:ZM}{ss:ZD}(hI:StrsAre vs ss)(h64:vs.length<64):Srt prog w Ok vs fun o=>StrsAre o (Uo ss):=by
 intro A E s D Q _ Lq h;refine wpAny_call_entry slot_list_sort ⟨_,Lq,rfl⟩ entry_list_sort ?_ (args_list_sort _);refine list_sort_treeK strKind_oneLt Lq hI.keysOf (fun v1 v2 rest e=>keyKind_strs (by rw[<-e];exact hI)) h64 fun st hp hs=>⟨_,rfl, ?_⟩;obtain⟨ns,q1,q2,q3⟩:=sorted_out_str hI hp hs;obtain⟨n,e⟩:=sortedHeap_at (h:=s.heap) (a:=D) (vs:=vs) (n:=0) (out:=(arrOf st).map (·.2)) Lq;exact h _ _ n (fun b ob nb e0=>SetM.Vn nb e0) e (by rw[<-rl q2 q3];exact q1)
end
theorem W4:∀{zs:ZL} {vs:ZM},Zw (zs.map V.int) vs->IntsAre vs zs
 | [],_,h=>by cases h;exact .nil
 | z::zs,_,h=>by
  cases h with | cons a b =>
  obtain⟨t,rfl⟩:=(show ∃t,_=Value.int z t from a);exact .cons _ _ (W4 b)
theorem Wd:∀{zs:ZD} {vs:ZM},Zw (zs.map V.str) vs->StrsAre vs zs
 | [],_,h=>by cases h;exact .nil
 | z::zs,_,h=>by
  cases h with | cons a b =>
  obtain⟨t,rfl⟩:=(show ∃t,_=Value.str z t from a);exact .cons _ _ (Wd b)
theorem Wf{P:Program}{w:World}:∀{XB:List (Key×Value)} {vs:ZM},vs.length=XB.length->(∀(j:Nat) (v:Value),vs[j]?=some v->∃k x,XB[j]?=some (k,x)/\(Zg P w).is k v=true)->Zw (XB.map fun p=>kV p.1) vs
 | [],vs,l,_=>by
  cases vs with
  | nil=>exact .nil
  | cons _ _=>simp at l
 | (k,x)::r,vs,l,h=>by
  cases vs with
  | nil=>simp at l
  | cons v vs =>
   obtain⟨k',x',ek,iv⟩:=h 0 v rfl;cases(show some (k,x)=some (k',x') from ek);refine .cons ?_ (Wf (by simpa using l) fun j v hv=>h (j+1) v hv);rcases Zs (show Mn k v=true from iv) with ⟨j,t,rfl,rfl⟩ | ⟨y,t,rfl,rfl⟩
   .exact⟨t,rfl⟩
   .exact⟨t,rfl⟩
section
variable{X:Cx}
def qv(X:Cx)(H:Hp)(zs ys:ZQ):Prop:=ys.length=zs.length/\∀XF j s,Inv X XF j H s->∀vs,Zw zs vs->∃Ok:Heap->Prop,(∀h1:Heap,(∀b o,b≠X.env.locals->s.heap.get? b=some o->h1.get? b=some o)->Ok h1)/\Srt X.prog X.w Ok vs fun o=>Zw ys o
theorem Xs{H:Hp}{zs:ZL}(h:zs.length<64):qv X H (zs.map V.int) ((Nn zs).map V.int):=by
 refine⟨by rw[Z0,Z0,(Yb zs).length_eq],fun XF j s I vs r=>⟨fun _=>True,fun _ _=>trivial, ?_⟩⟩;have:=srt_ints (prog:=X.prog) (w:=X.w) (Ok:=fun _=>True) (W4 r) (by rw[<-r.length,Z0];exact h);intro A E s D Q o e q;exact this A E s D Q o e fun h1 out n k e1 r1=>q h1 out n k e1 (Nd r1)
theorem Xr{H:Hp}{zs:ZD}(h:zs.length<64):qv X H (zs.map V.str) ((Uo zs).map V.str):=by
 refine⟨by rw[Z0,Z0,(Yf zs).length_eq],fun XF j s I vs r=>⟨fun _=>True,fun _ _=>trivial, ?_⟩⟩;have:=srt_strs (prog:=X.prog) (w:=X.w) (Ok:=fun _=>True) (Wd r) (by rw[<-r.length,Z0];exact h);intro A E s D Q o e q;exact this A E s D Q o e fun h1 out n k e1 r1=>q h1 out n k e1 (Wk r1)
theorem Nz:Y5 X (.builtin "sorted") (fun xs H Q=>∃(a:Addr) (zs ys:ZQ),xs=[.ref a]/\(Jj X.K H a zs\/Vy X.K H a zs)/\qv X H zs ys/\∀l:Addr,H l=none->Q (.ref l) (upd H l (.lst ys))):=by
 intro XF s j H xs us Q I r h;obtain⟨a,zs,ys,rfl,hq,hv,q⟩:=h;obtain⟨u,rfl,rx⟩:=vals1 r;cases rx
 obtain⟨its,o,T,n,rv,e0,hc,hT,hd,z⟩:∃(its:ZM) (o:Obj) (T:String) (n:Nat),Zw zs its/\s.heap.get? a=some o/\o.cls=.type T/\(T = "list" \/ T = "tuple")/\o.data=.seq its.toArray n/\zs.length<=sizeLine:=by
  rcases hq with hq | hq
  .obtain⟨its,rv,⟨o,n,e,hc,_,hd⟩,z⟩:=I.list hq;exact⟨its,o,_,n,rv,e,hc,.inl rfl,hd,z⟩
  .obtain⟨its,rv,⟨o,e,hc,n,hd⟩,z⟩:=I.tuple hq;exact⟨its,o,_,n,rv,e,hc,.inr rfl,hd,z⟩
 obtain⟨lv,hv⟩:=hv;obtain⟨Ok,ok,st⟩:=hv XF j s I its rv;refine Bm e0 hc hT hd (by rw[<-rv.length];exact z) fun h1 D k1 sz Lq=>?_;refine st _ _ { s with heap:=h1 } D _ (ok h1 fun b o _ e=>k1 b o e) Lq fun h2 out n k2 at2 r2=>?_;refine⟨.ref D,_,I.put (o:=.lst ys) (t':=s.toks) (d':=s.drawn) (fun b o e=>k2 b o (Bv (Wy (Vt e) sz)) (k1 b o e)) sz ⟨by rw[lv];exact z,out.toList,n,r2,by simpa using at2⟩,rfl,q D (I.hok.fresh sz)⟩
theorem Qq(hc:X.calm=true):Y5 X (.builtin "sorted") (fun xs H Q=>∃(a:Addr) (XB:List (Key×V)) (ys:ZQ),xs=[.ref a]/\Rd H a (.dK XB)/\qv X H (XB.map fun p=>kV p.1) ys/\∀l:Addr,H l=none->Q (.ref l) (upd H l (.lst ys))):=by
 intro XF s j H xs us Q I r h;obtain⟨a,XB,ys,rfl,hq,⟨lv,hv⟩,q⟩:=h;obtain⟨u,rfl,rx⟩:=vals1 r;cases rx;obtain⟨z,hd,ws,rel,dd⟩:=J3 I.hok hq;obtain⟨ep,da⟩:=dd.dictAt;obtain⟨m,hn,fr,nw⟩:=I.frame;refine W.kdu_sorted (W.kdl_dict (knd:=Zg X.prog X.w) (ep:=ep) hd) (I.ok.hd hc) fr nw da (by rw[<-rel.length];exact z) fun D h' tk vs f' n' hD vl bp=>?_
 have rv:Zw (XB.map fun p=>kV p.1) vs:=by
  have:=Wf vl bp;have e:=congrArg (List.map kV) rel.keys;rw[List.map_map,List.map_map]at e;have e:(XB.map fun p=>kV p.1)=ws.map fun p=>kV p.1:=e;rw[e];exact this
 obtain⟨Ok,ok,st⟩:=hv XF j s I vs rv;have ka:=Fz f' n' fun p hp=>Vb _ hp;have nD:=Inv.newAt (X:=X) (m:=m) n' hD;obtain⟨eD,nDL,_⟩:=n' _ Vk;have Lq:h'.get? D=some (seqObj "list" vs.toArray 0):=eD;refine st _ _ { s with heap:=h',toks:=tk } D _ (ok h' fun b o nb e=>ka b o nb e) Lq fun h2 out n k2 at2 r2=>?_;have neD:∀{b:Addr} {o:Obj},s.heap.get? b=some o->b≠D:=fun {b o} e z=>by rw[z,nD]at e;cases e
 obtain⟨J,fD⟩:=I.lay2 (h':=h2) (D:=D) (u:=.lst ys) (t':=tk) hn (oi f'.ns fun o e=>k2 _ o (fun z=>nDL z.symm) e) (fun b o nb eb=>k2 b o (neD eb) (ka b o nb eb)) nD ⟨by rw[lv,Z0];exact z,out.toList,n,r2,by simpa using at2⟩;exact⟨.ref D,_,J,rfl,q D fD⟩
end
end SRT
namespace DicL
open PySem PySem.Spec PyProof.Rows
open DicP2
theorem hb0:hookBefore (.type "list")=pure none:=rfl
end DicL
namespace DicL
open PySem PySem.Spec PyProof.Rows DicP2
section
variable{prog:Program}{w:World}{K:Type}[DecidableEq K]{knd:PySem.KeyKind prog w K}
variable{A:Around}{R:Result->Shared->Prop}{E:ZW}{s:Shared}{d it t:Addr}{its:ZN}{rs:List (K×Value)}
end
end DicL
namespace SetM
open PySem PySem.Spec PyProof.Rows
section
variable{prog:Program}{w:World}{A:Around}{E:ZW}{s:Shared}
variable{K:Type}[DecidableEq K]{knd:KeyKind prog w K}
set_option maxHeartbeats 4000000 in
theorem xn{l:Addr}{xs:ZN}{val:Nat->K}{Q:ZW}(hh:A.handled=none)(hl:s.heap.IsTuple l xs)(hx:∀i v,xs[i]?=some v->knd.is (val i) v=true/\v.scannable=true)(hb:xs.size+1<scanBound)
  (fin:∀(h1:Heap) (tk:Nat) (ks:List K),D3 knd h1 s.heap.objs.size ks->Rg val xs.size ks->(∀b o,s.heap.get? b=some o->h1.get? b=some o)->Q (.ref s.heap.objs.size) { s with heap:=h1,toks:=tk }) :
  wpAny (model prog w) A (call (.type "set") [.ref l]) Q E s:=by
 refine C9 PySem.F.called_set (PySem.F.typeCall_set_1 (.ref l)) (A1 (.ref l) ?_);generalize hb0:(!(w.params.followText "set-order"))=b0;have at0:(s.heap.push (Vz b0)).get? s.heap.objs.size=some (Vz b0):=Dv _ rfl;have ty0:Shared.TypeIs { s with heap:=s.heap.push (Vz b0) } (.ref s.heap.objs.size) "set" := ⟨_,at0,rfl⟩;refine⟨ty0,codeAny_call_builtin PySem.F.called_set.init.plain PySem.F.entry_set_init (check_set_init_1 ty0 ?_)⟩;obtain⟨⟨c0,d0,dt0,sl0⟩,e0,hc0,n0,hd0⟩:=hl;simp only at hc0 hd0;subst hc0 hd0;have e1:(s.heap.push (Vz b0)).get? l=some ⟨.type "tuple",d0,.seq xs n0,sl0⟩:=Yi _ e0;have li:(s.heap.push (Vz b0)).IsTuple l xs:=⟨_,e1,rfl,n0,rfl⟩;have u1:=PySem.F.sub_tuple_set;have u2:=PySem.F.sub_tuple_frozenset;have u3:(Value.type "tuple" == Value.type "dict")=false:=by decide
 unfold Builtin.«set.__init__» noKeywords Builtin.Frozenset.updateFrom;generalize hit:pyIter=it
 wp_walk
 subst hit;have lt0:l<s.heap.objs.size:=Vt e0;have sz:(s.heap.push (Vz b0)).objs.size=s.heap.objs.size+1:=Heap.size_push _ _;refine wpAny_pyIter_tuple li (Zb (wpAny_runValue ?_))
 refine N6 (knd:=knd) (val:=val) ((Walks.tuple (by simp[hh]) _ l (by rw[sz];exact Bv (Nat.lt_succ_of_lt lt0)) xs).toS) (fun z=>(Y6.mp z).elim (fun z=>absurd z (Bv (by rw[sz];exact Nat.lt_succ_self _))) fun z=>absurd (U1.mp z) (Nat.ne_of_gt lt0)) hx hb 0 _ [] (B2 _) ⟨⟨_,Dv _ rfl,rfl,rfl⟩,li.aT fun o e=>Yi _ e⟩
  ⟨_,Yi _ at0,⟨⟨rfl,rfl,rfl⟩,⟨#[],0,_,rfl,fun e he=>by simp at he,.nil,by unfold scanBound;decide,Wm _ _ _,hb0.symm⟩,List.nodup_nil⟩⟩ (Rg.zero val) ?_
 rintro⟨h2,g2,d2,tk2,o2⟩ ks mv S2 u;have x1:g2=s.gens:=mv.gens;have x2:d2=s.drawn:=mv.drawn;have x3:o2=s.os:=mv.os;subst x1 x2 x3;refine Yg (Yg ⟨rfl,fin h2 tk2 ks S2 u fun b o e=>mv.heap b o ?_ (Yi _ (Yi _ e))⟩);have lb:=Vt e;intro z;rcases Y6.mp z with z | z
 .exact absurd z (Bv lb)
 .have z:=U1.mp z;rw[sz]at z;exact absurd z (Bv (Nat.lt_succ_of_lt lb))
end
end SetM
namespace L2
open PySem PySem.Spec PyProof.Rows
section
variable{X:Cx}
theorem xh(hc:X.calm=true):Y5 X (.type "set") (fun xs H Q=>∃(p:Addr) (ks:List Key),xs=[.ref p]/\(Jj X.K H p (ks.map kV)\/Vy X.K H p (ks.map kV))/\ks.length+1<scanBound /\
  ∀(l:Addr) (us:List Key),H l=none->us.Nodup->(∀x,x∈us↔x∈ks)->us.length<=ks.length->Q (.ref l) (upd H l (S0 X.prog X.w l us))):=by
 intro XF s Z H xs us Q I r h;obtain⟨p,ks,rfl,hq,hz,q⟩:=h;obtain⟨u,rfl,rx⟩:=vals1 r;cases rx;rcases hq with hq | hq
 .obtain⟨its,rv,pl,hzz⟩:=I.list hq;have hl:its.toArray.size=ks.length:=by rw[V7, <-rv.length,Z0]
  refine SetM.tj (knd:=Zg X.prog X.w) (val:=fun i=>ks.getD i (.inl 0)) (I.ok.hd hc) pl.isList (fun i v e=>?_) (by omega) fun h1 tk ws S u k1=>?_
  .have e':its[i]?=some v:=by simpa using e
   have hi:i<ks.length:=by
    have:=(B3.mp e').1;rw[V7]at hl;omega
   have e2:(ks.map kV)[i]?=some (kV ks[i]):=by rw[B4,Mz hi];rfl
   obtain⟨v',g1,g2⟩:=rv.get e2;rw[e']at g1;cases g1;have e3:ks.getD i (.inl 0)=ks[i]:=by simp[hi]
   rw[e3];exact Aw _ g2
  .obtain⟨o,ho,SO⟩:=id S
   have mem:∀x,x∈ws↔x∈ks:=fun x=>by
    rw[u.mem x,hl];constructor
    .rintro⟨j,h1,h2⟩;rw[<-h2];have e3:ks.getD j (.inl 0)=ks[j]:=by simp[h1]
     rw[e3];exact G0e h1
    .intro hx;obtain⟨j,h1,h2⟩:=List.mem_iff_getElem.mp hx;exact⟨j,h1,by simp[h1,h2]⟩
   refine⟨.ref s.heap.objs.size,_,I.put (o:=S0 X.prog X.w s.heap.objs.size ws) (d':=s.drawn) k1 (Yz _) ⟨S,⟨o,ho⟩,fun h2 h3 x e=>SetM.D3.at' x e⟩,rfl,q _ ws (I.hok.fresh (Yz _)) SO.nd mem ?_⟩;have:=u.len;omega
 .obtain⟨its,rv,pl,hzz⟩:=I.tuple hq;have hl:its.toArray.size=ks.length:=by rw[V7, <-rv.length,Z0]
  refine SetM.xn (knd:=Zg X.prog X.w) (val:=fun i=>ks.getD i (.inl 0)) (I.ok.hd hc) pl (fun i v e=>?_) (by omega) fun h1 tk ws S u k1=>?_
  .have e':its[i]?=some v:=by simpa using e
   have hi:i<ks.length:=by
    have:=(B3.mp e').1;rw[V7]at hl;omega
   have e2:(ks.map kV)[i]?=some (kV ks[i]):=by rw[B4,Mz hi];rfl
   obtain⟨v',g1,g2⟩:=rv.get e2;rw[e']at g1;cases g1;have e3:ks.getD i (.inl 0)=ks[i]:=by simp[hi]
   rw[e3];exact Aw _ g2
  .obtain⟨o,ho,SO⟩:=id S
   have mem:∀x,x∈ws↔x∈ks:=fun x=>by
    rw[u.mem x,hl];constructor
    .rintro⟨j,h1,h2⟩;rw[<-h2];have e3:ks.getD j (.inl 0)=ks[j]:=by simp[h1]
     rw[e3];exact G0e h1
    .intro hx;obtain⟨j,h1,h2⟩:=List.mem_iff_getElem.mp hx;exact⟨j,h1,by simp[h1,h2]⟩
   refine⟨.ref s.heap.objs.size,_,I.put (o:=S0 X.prog X.w s.heap.objs.size ws) (d':=s.drawn) k1 (Yz _) ⟨S,⟨o,ho⟩,fun h2 h3 x e=>SetM.D3.at' x e⟩,rfl,q _ ws (I.hok.fresh (Yz _)) SO.nd mem ?_⟩;have:=u.len;omega
end
end L2
namespace PySem.SeqAt
open PySem PySem.Spec PyProof.Rows PySem.Calls
section
variable{A:Around}{s:Shared}
end
end PySem.SeqAt
namespace L2
open PySem PySem.Spec PyProof.Rows
section
variable{X:Cx}{p p2 pos ap:Pos}{o:Expr}{to:TE}
end
end L2
namespace TNM
open PySem PySem.Calls PyProof.Rows SeqAt
section
variable{prog:Program}{w:World}{A:Around}{E:ZW}{s:Shared}{Q:ZW}
theorem add_bi{b:Bool}{a:Int}{t:Tok}(h:Q (.int ((if b=true then (1:Int) else 0)+a) s.toks) { s with toks:=s.toks+1 }):wpAny (model prog w) A (binaryOp .Add (.bool b) (.int a t)) Q E s :=
 binaryOp_left_gives (op:=.Add) (T:="bool") (U:="int") (by decide) rfl (fun s'=>typeIs_int s' a t) F.fills_bool_add F.fills_int_add F.sub_int_bool F.slot_bool_add F.slot_int_radd F.entry_int_add (F.args_int_add_2 _ _) (m:=.int ((if b=true then (1:Int) else 0)+a)) (by cases b<;>exact .of_eq rfl) trivial h
end
end TNM
namespace TNM
open PySem PySem.Spec PyProof.Rows L2
section
variable{X:Cx}
inductive Si(x:V)(y:V)(H:Hp)(Q:VK):Prop
 | mk(b i)(h0:x=.bl b)(h1:y=.int i)(h2:Q (.int ((if b=true then 1 else 0)+i)) H):Si x y H Q
theorem zd:D5 X (binaryOp .Add) (fun x y H Q=>Si x y H Q):=by
 intro XF s j H x y v u Q I rx ry h;obtain⟨b,i,rfl,rfl,q⟩:=h;cases rx;obtain⟨t,rfl⟩:=ry;exact add_bi ⟨.int _,H,I.tok _,⟨_,rfl⟩,q⟩
end
end TNM
namespace HT
open PySem PySem.Spec PyProof.Rows
section
variable{prog:Program}{w:World}{A:Around}{E:ZW}{s:Shared}
end
end HT
namespace L2
open PySem PySem.Spec PyProof.Rows
section
variable{X:Cx}{e:Expr}{te:TE}{pos p2 p3:Pos}{j1:Nat}
end
theorem KV.at2{j:Type}:∀{XB:List (j×V)} {vs:List (j×Value)} {i:Nat} {p:j×V},KV XB vs->XB[i]?=some p->∃v,vs[i]?=some (p.1,v)/\RelV p.2 v
 | [],_,i,p,_,e=>by simp at e
 | a::XB,_,0,p,.cons h t,e=>by
  rename_i b bs
  simp at e;subst e;exact⟨b.2,by rw[h.1];rfl,h.2⟩
 | a::XB,_,i+1,p,.cons h t,e=>by
  obtain⟨v,e',r⟩:=KV.at2 (i:=i) t (by simpa using e);exact⟨v,by simpa using e',r⟩
def Itv(d:Addr)(o:Obj)(XB:List (Key×V)):It :=
 ⟨fun i H=>i<XB.length/\H d=some (.frz o (.dK XB)),fun i H v H'=>H'=H/\∃k,XB[i]?=some (k,v),fun i H=>XB.length<=i/\H d=some (.frz o (.dK XB))⟩
def Iti(d:Addr)(o:Obj)(XB:List (Key×V)):It :=
 ⟨fun i H=>i<XB.length/\H d=some (.frz o (.dK XB)),fun i H v H'=>∃p k x,v=.ref p/\H p=none/\H'=upd H p (.tup [kV k,x])/\XB[i]?=some (k,x),fun i H=>XB.length<=i/\H d=some (.frz o (.dK XB))⟩
theorem Xf{P:Program}{w:World}{K:W.Frag}{tg:Expr}(d it:Addr)(o:Obj)(XB:List (Key×V))(es:Array DictEntry)(ep:Nat)(ho:o.data=.dict es ep) :
  Turn P w K tg (Itv d o XB) [it] it (fun i h=>h.IsValIter it d i XB.length ep) where
 mem:=by simp
 obj:=fun i h st b hb=>by
  have e:b=it:=by simpa using hb
  subst e;obtain⟨o,e,c,d⟩:=st;exact⟨o,e,fun v z=>by rw[d]at z;cases z⟩
 keep:=fun i h h' st k=>by
  obtain⟨o,e,c,d⟩:=st;exact⟨o,k it (by simp) o e,c,d⟩
 item:=by
  intro X hP hw hK hc i XF s j H E I hf st hg;subst hP hw hK;obtain⟨hi,hd⟩:=hg;obtain⟨vs,Ce,ep',y,r,e',m⟩:=at_of I hd;rw[ho]at e';cases e';obtain⟨f0,f1,f2,f3,f4,f5⟩:=hf it (by simp);obtain⟨v,hv,rv⟩:=KV.at2 (i:=i) r (Mz hi);have ln:=r.length;refine wpAny_pyNext_values_item (by rw[<-ln];exact st) m hv fun h' Lu sb=>?_;have I1:Inv X XF j H { s with heap:=h' }:=I.turned (t':=s.toks) (fun b o hb e=>(sb.2 b hb).trans e) f0 f1 f3 f4 f5;obtain⟨oo,e,c,dd⟩:=id Lu;exact⟨v,rfl,W7 (s:={ s with heap:=h' }) e c dd (by decide) ⟨XB[i].2,H,I1,rv,⟨rfl,_,Mz hi⟩,by rw[ln];exact Lu,fun b hb=>(hf b hb).1⟩⟩
 done:=by
  intro X hP hw hK hc i XF s j H E I hf st hg;subst hP hw hK;obtain⟨hi,hd⟩:=hg;obtain⟨vs,Ce,ep',y,r,e',m⟩:=at_of I hd;rw[ho]at e';cases e';obtain⟨f0,f1,f2,f3,f4,f5⟩:=hf it (by simp);have ln:=r.length;exact wpAny_pyNext_values_end (I.ok.hd hc) (by rw[<-ln];exact st) m (List.getElem?_eq_none (by omega)) fun h' eb=>⟨rfl,I.turned (t':=s.toks) (fun b o hb e=>eb b o hb e) f0 f1 f3 f4 f5⟩
 self:=fun _ _ _ _ _ st h=>wpAny_pyIter_valiter st h
theorem B6{P:Program}{w:World}{A:Around}{E:ZW}{s:Shared}{it d:Addr}{i n ep:Nat}{ok ov:Value}{Q:ZW}(hit:IsItemIter s.heap it d i n ep ok ov)(h:Q (.ref it) s):wpAny (model P w) A (pyIter (.ref it)) Q E s:=by
 have hT:s.TypeIs (.ref it) "dict_itemiterator" := ⟨_,hit,rfl⟩;refine wpAny_pyIter_slot hT F.slot_dict_itemiterator_iter (wpAny_call_entry F.slot_dict_itemiterator_iter hT (show entryFor table "dict_itemiterator.__iter__" = some Builtin.«dict_keyiterator.__iter__» from entryFor_alias (id':="dict_keyiterator.__iter__") (by kernel_rfl) rfl (by decide +kernel) (by kernel_rfl)) ?_ (F.args_dict_itemiterator_iter_1 _));show wpAny _ _ (ret (.ref it)) _ _ s;exact Yg ⟨_,rfl,"dict_itemiterator",_,hT,F.slot_dict_itemiterator_next.lookup,h⟩
theorem El{P:Program}{w:World}{K:W.Frag}{Ce:ZC}{k':Nat}{pos:Pos}(d it:Addr)(o:Obj)(XB:List (Key×V))(es:Array DictEntry)(ep:Nat)(ho:o.data=.dict es ep) :
  Turn P w K (.Tuple Ce k' pos) (Iti d o XB) [it] it (fun i h=>∃ok ov,IsItemIter h it d i XB.length ep ok ov) where
 mem:=by simp
 obj:=fun i h st b hb=>by
  have e:b=it:=by simpa using hb
  subst e;obtain⟨ok,ov,e⟩:=st;exact⟨_,e,fun v z=>nomatch z⟩
 keep:=fun i h h' st k=>by
  obtain⟨ok,ov,e⟩:=st;exact⟨ok,ov,k it (by simp) _ e⟩
 item:=by
  intro X hP hw hK hc i XF s j H E I hf st hg;subst hP hw hK;obtain⟨hi,hd⟩:=hg;obtain⟨vs,Ce,ep',y,r,e',m⟩:=at_of I hd;rw[ho]at e';cases e';obtain⟨v,hv,rv⟩:=KV.at2 (i:=i) r (Mz hi);have ln:=r.length;obtain⟨ok,ov,st⟩:=st;refine wpAny_pyNext_items_item (by rw[<-ln];exact st) m hv fun key h' hk Lu ht hz kp=>?_;refine⟨_,rfl,wpAny_letOwnedTupleGo_items (s:={ s with heap:=h' }) Lu fun h'' st'' hs=>?_⟩;have ne:s.heap.objs.size≠it:=Nat.ne_of_gt (Vt st)
  have kk:∀c o,c ∉ [it]->s.heap.get? c=some o->h''.get? c=some o:=fun c o m q=>by
   simp only[Y6,Tj,or_false]at m;exact hs.extBut _ _ m (kp c o m q)
  have J:Inv X XF j (upd H s.heap.objs.size (.tup [kV XB[i].1,XB[i].2])) { s with heap:=h'',toks:=s.toks }:=I.turnLay kk hf (Yz _) ⟨by show 2<=sizeLine;decide,[key,v],.cons (fe hk) (.cons rv .nil),⟨_,hs.extBut _ _ ne ht,rfl,⟨_,rfl⟩,rfl⟩⟩;refine⟨.ref s.heap.objs.size,_,J,rfl,⟨_,_,_,rfl,I.hok.fresh (Yz _),rfl,Mz hi⟩,⟨key,v,by rw[ln];exact st''⟩,fun c hc=>?_⟩;have qc:c=it:=by simpa using hc
  rw[Zz fun z=>ne (by rw[<-qc,z])];exact(hf c hc).1
 done:=by
  intro X hP hw hK hc i XF s j H E I hf st hg;subst hP hw hK;obtain⟨hi,hd⟩:=hg;obtain⟨vs,Ce,ep',y,r,e',m⟩:=at_of I hd;rw[ho]at e';cases e';obtain⟨f0,f1,f2,f3,f4,f5⟩:=hf it (by simp);have ln:=r.length;obtain⟨ok,ov,st⟩:=st;exact wpAny_pyNext_items_end (I.ok.hd hc) (by rw[<-ln];exact st) m (List.getElem?_eq_none (by omega)) fun h' eb=>⟨rfl,I.turned (t':=s.toks) (fun b o hb e=>eb b o hb e) f0 f1 f3 f4 f5⟩
 self:=fun _ _ _ _ _ st h=>let ⟨_,_,e⟩:=st;B6 e h
section
variable{X:Cx}{XF:ZY}{j:St}{H2:Hp}{s1:Shared}{tg ox:Expr}{cp ap:Pos}{R:It->Hp->Prop}
theorem n6{d:Addr}{o:Obj}{XB:List (Key×V)}(I2:Inv X XF j H2 s1)(e:H2 d=some (.frz o (.dK XB)))(q:R (Itv d o XB) H2):MethodOn X.prog X.w X.A "values" cp (.ref d) [] (fun v s=>wpAny (model X.prog X.w) X.A (pyIter v) (PIE X XF j tg R) X.xe s) X.xe s1:=by
 obtain⟨vs,es,ep,y,r,e',m⟩:=at_of I2 e;obtain⟨z,qt,ws,rel,dd⟩:=J3 I2.hok (.inr ⟨o,e⟩);obtain⟨t1,t2,_⟩:=Cu I2 (.inl ⟨XB,.inr ⟨o,e⟩⟩);have ln:=r.length;refine⟨"dict","dict.values",PySem.F.plainAttrs_dict,PySem.F.slot_dict_values,PySem.F.type_dict_values,t1,t2,Calls.callWith_builtin rfl (PySem.evalArgs_none ?_)⟩;refine call_meetsIn PySem.F.slot_dict_values dd.typeIs PySem.F.entry_dict_values (PySem.F.args_dict_values_1 _) (meets_dict_values (Zg X.prog X.w) d qt) ⟨⟨ws,dd⟩, ?_⟩;have I3:Inv X XF j H2 { s1 with heap:=s1.heap.push { cls:=.type "dict_values",data:=.fields #[.ref d] } }:=I2.kept (t':=s1.toks) fun b o e=>Yi _ e;refine wpAny_pyIter_values (s:={ s1 with heap:=s1.heap.push { cls:=.type "dict_values",data:=.fields #[.ref d] } }) ⟨_,Dv _ rfl,rfl,rfl⟩ (m.push _) ?_;refine⟨_,[(s1.heap.push { cls:=.type "dict_values",data:=.fields #[.ref d] }).objs.size],_,_,_,rfl,I3.kept (t':=s1.toks) fun b o e=>Yi _ e,Xf d _ o XB es ep e',⟨_,Dv _ rfl,rfl,by rw[ln];rfl⟩,fun b hb=>?_,q⟩;have e:b=(s1.heap.push { cls:=.type "dict_values",data:=.fields #[.ref d] }).objs.size:=by simpa using hb
 subst e;exact I3.fpOk (Yz _) (I3.hok.fresh (Yz _))
theorem bz{Ce:ZC}{k':Nat}{pos:Pos}{d:Addr}{o:Obj}{XB:List (Key×V)}(I2:Inv X XF j H2 s1)(e:H2 d=some (.frz o (.dK XB)))(q:R (Iti d o XB) H2):MethodOn X.prog X.w X.A "items" cp (.ref d) [] (fun v s=>wpAny (model X.prog X.w) X.A (pyIter v) (PIE X XF j (.Tuple Ce k' pos) R) X.xe s) X.xe s1:=by
 obtain⟨vs,es,ep,y,r,e',m⟩:=at_of I2 e;obtain⟨z,qt,ws,rel,dd⟩:=J3 I2.hok (.inr ⟨o,e⟩);obtain⟨t1,t2,_⟩:=Cu I2 (.inl ⟨XB,.inr ⟨o,e⟩⟩);have ln:=r.length;refine⟨"dict","dict.items",PySem.F.plainAttrs_dict,PySem.F.slot_dict_items,PySem.F.type_dict_items,t1,t2,Calls.callWith_builtin rfl (PySem.evalArgs_none ?_)⟩;refine call_meetsIn PySem.F.slot_dict_items dd.typeIs PySem.F.entry_dict_items (PySem.F.args_dict_items_1 _) (meets_dict_items (Zg X.prog X.w) d qt) ⟨⟨ws,dd⟩, ?_⟩;have I3:Inv X XF j H2 { s1 with heap:=s1.heap.push { cls:=.type "dict_items",data:=.fields #[.ref d] } }:=I2.kept (t':=s1.toks) fun b o e=>Yi _ e;refine wpAny_pyIter_items (s:={ s1 with heap:=s1.heap.push { cls:=.type "dict_items",data:=.fields #[.ref d] } }) ⟨_,Dv _ rfl,rfl,rfl⟩ (m.push _) ?_;refine⟨_,[(s1.heap.push { cls:=.type "dict_items",data:=.fields #[.ref d] }).objs.size],_,_,_,rfl,I3.kept (t':=s1.toks) fun b o e=>Yi _ e,El d _ o XB es ep e',⟨.none,.none,by rw[ln];exact Dv _ rfl⟩,fun b hb=>?_,q⟩;have e:b=(s1.heap.push { cls:=.type "dict_items",data:=.fields #[.ref d] }).objs.size:=by simpa using hb
 subst e;exact I3.fpOk (Yz _) (I3.hok.fresh (Yz _))
end
def uh(K:W.Frag):V->ZQ->Hp->VK->Prop:=fun x xs H Q=>∃(a:Addr) (zs:ZL) (z:Int) (j:Nat),x=.ref a/\xs=[.int z]/\Jj K H a (zs.map V.int)/\zs[j]?=some z/\(∀m,m<j->zs[m]?≠some z)/\Q (.int j) H
theorem Ih{zs:ZL}{us:ZM}(r:Zw (zs.map V.int) us){m:Nat}(h:m<us.length)(z:Int):nk (.int z) us[m]=decide (zs[m]?=some z):=by
 have hl:m<zs.length:=by have:=r.length;rw[Z0]at this;omega
 obtain⟨u,e,q⟩:=r.get (i:=m) (x:=.int zs[m]) (by rw[B4,Mz hl];rfl);rw[Mz h]at e;cases e;obtain⟨t,e2⟩:=q;rw[e2,Mz hl];show (zs[m] == z)=_;rw[Bool.beq_eq_decide_eq];simp
theorem zh{X:Cx}:MtM X "list.index" (uh X.K):=by
 intro XF s Z H x vs v us Q I rx rv h;obtain⟨a,zs,z,j,rfl,rfl,hq,hj,hno,q⟩:=h;cases rx;obtain⟨u,rfl,ru⟩:=rv.one;obtain⟨tz,rfl⟩:=id ru;obtain⟨its,r,pl,hz⟩:=I.list hq;obtain⟨⟨cl,dd,dt,sl⟩,e,hc,n,hd⟩:=pl.isList;simp only at hc hd;subst hc hd;have hl:=r.length;rw[Z0]at hl;have hjl:=(B3.mp hj).1;rw[Z0]at hz;have hsm:(j:Int)<2 ^ 63 - 1:=by have:=sizeLine_eq;omega
 refine call_meets PySem.F.slot_list_index ⟨_,e,rfl⟩ PySem.F.entry_list_index (PySem.F.args_list_index_2 _ _) (SeqAt.list_indexAt a its.toArray n dd sl (.int z tz) (nk (.int z)) j (by simp;omega) hsm ?_ fun m hm h2=>?_) ⟨e,fun y hy=>?_,⟨.int j,H,I.tok _,⟨_,rfl⟩,q⟩⟩
 .simp only[List.getElem_toArray];rw[Ih r (by omega) z,Bk hj]
 .simp only[List.getElem_toArray];rw[Ih r (by simpa using hm) z,Nf (hno m h2)]
 .exact Pe (x:=.int z) ru rfl r (by rw[List.all_map];exact qg.mpr fun _ _=>rfl) y (by simpa using hy)
end L2
namespace SRT
open PySem PySem.Spec PyProof.Rows PySem.W
noncomputable def runK{Z:Type}(b:Nat->Nat->Bool):KasT Z->Z
 | .ret a=>a
 | .ask i j k=>runK b (k (b i j))
def AllK{Z:Type}(n:Nat)(P:Z->Prop):KasT Z->Prop
 | .ret a=>P a
 | .ask i j k=>i<n/\j<n/\∀c,AllK n P (k c)
theorem AllK.bind{j Z:Type}{n:Nat}{P:j->Prop}{R:Z->Prop}{f:j->KasT Z}:∀{t:KasT j},AllK n P t->(∀a,P a->AllK n R (f a))->AllK n R (t.bind f)
 | .ret a,h,g=>g a h
 | .ask _ _ k,h,g=>⟨h.1,h.2.1,fun c=>AllK.bind (h.2.2 c) g⟩
theorem Ak{Z:Type}{n:Nat}{P:Z->Prop}{b:Nat->Nat->Bool}{s:Shared}{cmp:Nat->Nat->(Bool->Shared->Prop)->Shared->Prop}(hc:∀i j,i<n->j<n->∀C:Bool->Shared->Prop,C (b i j) s->cmp i j C s){Q:Z->Shared->Prop} :
  ∀{t:KasT Z},AllK n P t->(P (runK b t)->Q (runK b t) s)->t.kasWp cmp Q s
 | .ret _,h,q=>q h
 | .ask i j _,h,q=>hc i j h.1 h.2.1 _ (Ak hc (h.2.2 (b i j)) q)
theorem Pj{Z:Type}{n:Nat}{P:Z->Prop}{b:Nat->Nat->Bool}:∀{t:KasT Z},AllK n P t->P (runK b t)
 | .ret _,h=>h
 | .ask i j k,h=>Pj (t:=k (b i j)) (h.2.2 (b i j))
def Pm(n:Nat)(p:ZS):Prop:=p.toList.Perm (List.range n)
theorem Pm.perm{n:Nat}{p q:ZS}(h:Pm n p)(e:q.Perm p):Pm n q:=(Array.perm_iff_toList_perm.mp e).trans h
theorem Pm.at{n:Nat}(n0:0<n){p:ZS}(h:Pm n p)(k:Nat):p.getD k 0<n:=by
 unfold Array.getD
 split
 .rename_i hk
  exact List.mem_range.mp (h.mem_iff.mp (Array.mem_def.mp (Array.getElem_mem hk)))
 .exact n0
section
variable{n:Nat}(n0:0<n)
include n0
theorem Qg{p:ZS}(h:Pm n p):∀f m,AllK n (fun _=>True) (kas_asc p f m)
 | 0,_=>trivial
 | f+1,m=>⟨h.at n0 _,h.at n0 _,fun c=>by cases c;exact Qg h f _;exact trivial⟩
theorem M4:∀f (p:ZS) m q,Pm n p->AllK n (fun r=>Pm n r.1) (kas_desc f p m q)
 | 0,_,_,_,h=>h
 | f+1,p,m,q,h=>⟨h.at n0 _,h.at n0 _,fun c=>by
  cases c with
  | true =>
   show AllK n _ (if q>0 then _ else _)
   split
   .exact M4 f _ _ _ (h.perm (mirror_perm _ _ _ _))
   .exact M4 f _ _ _ h
  | false=>exact⟨h.at n0 _,h.at n0 _,fun c=>by cases c;exact M4 f _ _ _ h;exact h⟩⟩
theorem Wb{p:ZS}(h:Pm n p)(m:Nat):AllK n (fun r=>Pm n r.2) (kas_tail3 m n p) :=
 (Qg n0 (h.perm (mirror_perm _ _ _ _)) _ _).bind fun _ _=>h.perm (mirror_perm _ _ _ _)
theorem M5{p:ZS}(h:Pm n p)(m:Nat):AllK n (fun r=>Pm n r.2) (kas_descPart m n p) :=
 (M4 n0 _ p _ _ h).bind fun r hr=>by
  show AllK n _ (if r.2.2>0 then _ else _)
  split
  .exact Wb n0 (hr.perm (mirror_perm _ _ _ _)) _
  .exact Wb n0 hr _
theorem xt{p:ZS}(h:Pm n p):AllK n (fun r=>Pm n r.2) (kas_count n p) :=
 (Qg n0 h _ _).bind fun m _=>by
  show AllK n _ (if (m == n)=true then _ else _)
  split
  .exact h
  .split
   .exact⟨h.at n0 _,h.at n0 _,fun c=>by cases c;exact M5 n0 (h.perm (mirror_perm _ _ _ _)) _;exact h⟩
   .exact M5 n0 h _
theorem Wp{p:ZS}(h:Pm n p)(k:Nat):∀f l r,AllK n (fun _=>True) (kas_place p k f l r)
 | 0,_,_=>trivial
 | f+1,l,r=>by
  unfold kas_place
  split
  .exact trivial
  .exact⟨h.at n0 _,h.at n0 _,fun c=>by cases c<;>exact Wp h k f _ _⟩
theorem Ie:∀f (p:ZS) k,Pm n p->AllK n (Pm n) (kas_bin f p k)
 | 0,_,_,h=>h
 | f+1,p,k,h=>(Wp n0 h _ _ _ _).bind fun l _=>Ie f _ _ (h.perm (bubble_perm _ _ _))
theorem Px:AllK n (Pm n) (kas_sort n) :=
 (xt n0 (show Pm n (List.toArray (List.range n)) by unfold Pm;rw[List.toList_toArray])).bind fun r hr=>by
  show AllK n _ (if r.1<n then _ else _)
  split
  .exact Ie n0 _ _ _ hr
  .exact hr
end
end SRT
namespace SRT
open PySem PySem.Spec PyProof.Rows L2 PySem.W
def rh(n:Nat)(b:Nat->Nat->Bool):List Nat:=(runK b (kas_sort n)).toList
theorem Wn{n:Nat}(n0:0<n)(b:Nat->Nat->Bool):(rh n b).Perm (List.range n):=Pj (Px n0)
section
variable{prog:Program}{w:World}{A:Around}{E:ZW}{s:Shared}
theorem Xl{Ok:Heap->Prop}{vs:ZM}(hz:vs.length<2):Srt prog w Ok vs fun o=>o=vs:=by
 intro A E s D Q _ Lq h;refine wpAny_call_entry slot_list_sort ⟨_,Lq,rfl⟩ entry_list_sort ?_ (args_list_sort _);have ha:D<s.heap.objs.size:=Vt Lq;have sl:=sizeLine_eq;rw[list_sort_plain];refine Zb (listItems_at Lq rfl (Zb (listUpdate_at Lq rfl ?_ (by rw[V7];omega) (B2 _))));obtain⟨e1,ho1⟩:∃e1,(s.heap.update D (Obj.mapSeq fun _=>#[])).get? D=some (seqObj "list" #[] e1):=⟨_,get?_update_seq Lq (fun _=>#[])⟩;refine Zb (seqEpoch_at ho1 rfl (Zb (wpAny_newTuple (Zb (wpAny_newList (wpAny_holding ?_) (B2 _))) (by show vs.length<=_;omega))))
 have ho6:(((s.heap.update D (Obj.mapSeq fun _=>#[])).push (seqObj "tuple" vs.toArray 0)).push (seqObj "list" #[] 0)).get? D=some (seqObj "list" #[] e1) :=
  Yi _ (Yi _ ho1)
 show wpAny _ _ _ _ _ { s with heap:=((s.heap.update D (Obj.mapSeq fun _=>#[])).push (seqObj "tuple" vs.toArray 0)).push (seqObj "list" #[] 0) };dsimp only;have h2:vs.toArray.size<2:=by rw[V7];exact hz
 rw[if_pos h2,if_pos h2];refine Zb (Yg ?_);rw[StateT.run_pure];refine Zb (Yg ?_);dsimp only;refine Zb (seqEpoch_at ho6 rfl (Zb (listUpdate_at ho6 rfl ?_ (B2 _) (by rw[Array.size_map];show (pairsOf vs).size<=_;rw[pairsOf_size];omega))));simp only[bne_self_eq_false,Bool.false_eq_true,if_false];refine Yg ⟨_,rfl, ?_⟩;obtain⟨n,e⟩:=sortedHeap_at (h:=s.heap) (a:=D) (vs:=vs) (n:=0) (out:=(pairsOf vs).map fun x:Keyed=>x.2) Lq;refine h (sortedHeap s.heap D vs ((pairsOf vs).map fun x:Keyed=>x.2)) ((pairsOf vs).map fun x:Keyed=>x.2) n (fun b ob nb e0=>SetM.Vn nb e0) e ?_;rw[Array.toList_map];unfold pairsOf;rw[Array.toList_zip];exact List.map_snd_zip (Yz _)
end
section
variable{X:Cx}
theorem Ea{H:Hp}{zs:ZQ}(h:zs.length<2):qv X H zs zs:=by
 refine⟨rfl,fun XF j s I vs r=>⟨fun _=>True,fun _ _=>trivial, ?_⟩⟩;have:=Xl (prog:=X.prog) (w:=X.w) (Ok:=fun _=>True) (vs:=vs) (by rw[<-r.length];exact h);intro A E s D Q o e q;exact this A E s D Q o e fun h1 out n k e1 r1=>q h1 out n k e1 (by rw[r1];exact r)
theorem Gp{zs:ZQ}{vs:ZM}(r:Zw zs vs){i:Nat}(hi:i<vs.length):RelV (zs.getD i .non) (vs.getD i .none):=by
 have hl:=r.length;obtain⟨v,h1,h2⟩:=Zw.get r (Mz (show i<zs.length by omega));rw[List.getD_eq_getElem?_getD,List.getD_eq_getElem?_getD,h1,Mz (show i<zs.length by omega)];exact h2
theorem Wg{zs:ZQ}{vs:ZM}(r:Zw zs vs):∀(p:List Nat),(∀i∈p,i<vs.length)->Zw (p.map fun i=>zs.getD i .non) (p.map fun i=>vs.getD i .none)
 | [],_=>.nil
 | i::p,h=>.cons (Gp r (h i Vk)) (Wg r p fun j m=>h j (Vb _ m))
def Kept(X:Cx)(s s':Shared):Prop:=∀b o,b≠X.env.locals->s.heap.get? b=some o->s'.heap.get? b=some o
def Asks(X:Cx)(H:Hp)(zs:ZQ)(b:Nat->Nat->Bool):Prop:=∀XF Z s,Inv X XF Z H s->∀s',Kept X s s'->∀vs,Zw zs vs->∀i j,i<zs.length->j<zs.length->∀C:Bool->Shared->Prop,C (b i j) s' ->
 wpAny (model X.prog X.w) X.A.in1.in1 (keyLt' (tuples' true) (vs.getD i .none) (vs.getD j .none)) C (fun _ _=>False) s'
theorem Ht{h:Heap}:∀{vs:ZM},(∀v∈vs,∃a o xs n i t,v=.ref a/\h.get? a=some o/\o.cls=.type "tuple" /\ o.data=.seq xs n/\xs[0]?=some (.int i t))->∃fs,KatTups h vs fs/\fs.length=vs.length/\∀v∈fs,∃i t,v=.int i t
 | [],_=>⟨[],trivial,rfl,fun _ m=>absurd m Tj⟩
 | v::vs,g=>by
  obtain⟨fs,k1,k2,k3⟩:=Ht (vs:=vs) fun v m=>g v (Vb _ m);obtain⟨a,o,xs,n,i,t,rfl,h1,h2,h3,h4⟩:=g v Vk
  exact⟨.int i t::fs,⟨⟨a,o,xs,n,rfl,h1,h2,h3,h4⟩,k1⟩,by simp[k2],fun v m=>by
   rcases Y6.mp m with rfl | m
   .exact⟨_,_,rfl⟩
   .exact k3 v m⟩
theorem Qx:Y5 X (.builtin "sorted") (fun xs H Q=>∃(a:Addr) (zs:ZQ) (b:Nat->Nat->Bool),xs=[.ref a]/\(Jj X.K H a zs\/Vy X.K H a zs)/\(∀z∈zs,∃c i ws,z=.ref c/\Vy X.K H c (.int i::ws))/\Asks X H zs b/\2<=zs.length/\zs.length<64 /\
  ∀l:Addr,H l=none->Q (.ref l) (upd H l (.lst ((rh zs.length b).map fun i=>zs.getD i .non)))):=by
 intro XF s Z H xs us Q I r h;obtain⟨a,zs,b,rfl,hq,hd,ha,h2,h64,q⟩:=h;obtain⟨u,rfl,rx⟩:=vals1 r;cases rx
 obtain⟨its,o,T,n,rv,e0,hc,hT,hdt,z⟩:∃(its:ZM) (o:Obj) (T:String) (n:Nat),Zw zs its/\s.heap.get? a=some o/\o.cls=.type T/\(T = "list" \/ T = "tuple")/\o.data=.seq its.toArray n/\zs.length<=sizeLine:=by
  rcases hq with hq | hq
  .obtain⟨its,rv,⟨o,n,e,hc,_,hd⟩,z⟩:=I.list hq;exact⟨its,o,_,n,rv,e,hc,.inl rfl,hd,z⟩
  .obtain⟨its,rv,⟨o,e,hc,n,hd⟩,z⟩:=I.tuple hq;exact⟨its,o,_,n,rv,e,hc,.inr rfl,hd,z⟩
 have il:=rv.length;obtain⟨m,hn,fr,nw⟩:=I.frame;have hL:X.env.locals<s.heap.objs.size:=I.lt;refine Bm e0 hc hT hdt (by omega) fun h1 D k1 sz Lq=>?_;have nDs:s.heap.get? D=none:=Heap.get?_none_of_le sz;have nDL:D≠X.env.locals:=Nat.ne_of_gt (Wy hL sz)
 have N1:News (Na s.heap X.env.locals) X.env.locals h1 ((D,listOf its.toArray 0)::Dm s.heap X.env.locals):=fun p hp=>by
  rcases Y6.mp hp with rfl | hp
  .refine⟨Lq,nDL, ?_⟩;cases eo:(Na s.heap X.env.locals).get? D with
   | none=>rfl
   | some o=>have:=(L8 eo).1;rw[nDs]at this;cases this
  .exact(nw.grown k1) p hp
 have lt:∀q∈Dm s.heap X.env.locals,q.1≠D:=fun q hq z=>by have:=(nw q hq).1;rw[z,nDs]at this;cases this
 refine kat_lsort (vs:=its) (s:={ s with heap:=h1 }) (fr.kept k1) N1 (.head lt) (by simp) (by omega) (by omega) fun e1 h' F' N'=>?_;have N2:News (Na s.heap X.env.locals) X.env.locals h' (Dm s.heap X.env.locals):=fun p hp=>N' p (Vb _ hp);have kp:Kept X s { s with heap:=h' }:=Fz F' N2 fun p hp=>hp
 obtain⟨fs,t1,t2,t3⟩:=Ht (h:=h') (vs:=its) fun v mv=>by
  obtain⟨i,hi,rfl⟩:=List.getElem_of_mem mv;have rr:=Gp rv hi;rw[List.getD_eq_getElem?_getD,List.getD_eq_getElem?_getD,Mz hi,Mz (show i<zs.length by omega)]at rr;obtain⟨c,k,ws,e2,sq⟩:=hd _ (G0e (show i<zs.length by omega));have rr:RelV zs[i] its[i]:=rr;rw[e2]at rr;obtain⟨jts,jr,⟨o,g1,g2,n,g3⟩,_⟩:=I.tuple sq;cases jr with | cons j1 j2 =>
  obtain⟨t,rfl⟩:=(show ∃t,_=Value.int _ t from j1);refine⟨c,o,_,n,k,t,rr,kp c o (fun e=>?_) g1,g2,g3,by simp⟩;obtain⟨o',es,ep,k1,k2,_⟩:=hn;rw[<-e,g1]at k1;cases k1;rw[g3]at k2;cases k2
 refine kat_kind (s:={ s with heap:=h' }) (T:=.type "int") t1 (by omega) (fun v m=>?_) rfl ?_
 .obtain⟨i,t,rfl⟩:=t3 v m;exact Looks.of_pure rfl
 rw[show (Value.type "int" != Value.type "tuple")=true by decide];refine Ak (n:=its.length) (b:=b) (s:={ s with heap:=h' }) (fun i j hi hj C hC=>?_) (Px (by omega)) fun pm=>?_
 .exact ha XF Z s I _ kp its rv i j (by omega) (by omega) C hC
 refine KasFin.intro F' N' (g:=fun o=>(D,o)::Dm s.heap X.env.locals) (.head lt) fun h2 c F2 N3=>?_;have ka:=Fz F2 N3 fun p hp=>Vb _ hp;obtain⟨eD,_,_⟩:=N3 _ Vk;have pl':∀i∈(runK b (kas_sort its.length)).toList,i<its.length:=fun i mi=>List.mem_range.mp (pm.mem_iff.mp mi)
 have ln:((runK b (kas_sort its.length)).toList.map fun i=>zs.getD i .non).length<=sizeLine:=by
  rw[Z0,pm.length_eq,XJ];omega
 obtain⟨J,fD⟩:=I.lay2 (h':=h2) (D:=D) (u:=.lst ((runK b (kas_sort its.length)).toList.map fun i=>zs.getD i .non)) (t':=s.toks) hn F2.ns (fun b o nb eb=>ka b o nb eb) nDs ⟨ln,_,c,Wg rv _ pl',by simpa using eD⟩;have:=q D fD;unfold rh at this;rw[il]at this;exact⟨.ref D,_,J,rfl,this⟩
end
end SRT
namespace PV
open PySem
structure TP where
 P:Addr
 lp:Pos
 q:Str
def wm:Option TP:=none
def Cr:ZK:=[]
end PV
namespace PV
open PySem PySem.Spec PyProof.Rows L2
def Tb(T:TP)(H:Hp):Prop:=∃ps,H T.P=some (.tbl ps)/\cz H T.lp T.q ps
def Pln(o:HO):Prop:=(∀ps,o≠.tbl ps)/\∀φ,o≠.ext φ
theorem y8{vs:ZQ}:Pln (.lst vs):=⟨fun _ z=>(nomatch z),fun _ z=>(nomatch z)⟩
theorem Ap{vs:List (Key×V)}:Pln (.dK vs):=⟨fun _ z=>(nomatch z),fun _ z=>(nomatch z)⟩
theorem pln_f{o:Obj}{u:HO}:Pln (.frz o u):=⟨fun _ z=>(nomatch z),fun _ z=>(nomatch z)⟩
section
variable{T:TP}{F G H H':Hp}{a:Addr}{o o':HO}
theorem Tb.ne(t:Tb T H)(e:H a=some o)(n:Pln o):a≠T.P:=fun z=>by
 obtain⟨ps,h,_⟩:=t;rw[z,h]at e;cases e;exact n.1 _ rfl
theorem Tb.no(t:Tb T H)(e:H a=none):a≠T.P:=fun z=>by
 obtain⟨ps,h,_⟩:=t;rw[z,h]at e;cases e
theorem tab_keep{lp:Pos}{q:Str}{ps:ZN}(t:cz H lp q ps)(h:∀a φ,H a=some (.ext φ)->H' a=some (.ext φ)):cz H' lp q ps:=⟨t.1,t.2.imp id fun⟨c,e,hc⟩=>⟨c,e,h c _ hc⟩⟩
theorem Tb.same(t:Tb T H)(s:Zl H H'):Tb T H':=let ⟨ps,e,k⟩:=t;⟨ps,s _ _ e,tab_keep k fun a o h=>s _ _ h⟩
theorem Tb.upd(t:Tb T H)(e:H a=some o)(n:Pln o):Tb T (upd H a o'):=by
 have ne:=t.ne e n;obtain⟨ps,h,k⟩:=t;refine⟨ps,by rw[Zz ne.symm];exact h,tab_keep k fun b φ q=>?_⟩;rw[Zz fun z=>by rw[z,e]at q;cases q;exact n.2 _ rfl];exact q
structure TBT(T:TP)(F G H:Hp):Prop where
 f:F T.P=none
 g:G T.P=none
 h:Tb T H
end
def TB(F G H:Hp):Prop:=∀T,wm=some T->TBT T F G H
theorem TB.same{F G H H':Hp}(t:TB F G H)(s:Zl H H'):TB F G H':=fun T e=>let ⟨f,g,h⟩:=t T e;⟨f,g,h.same s⟩
end PV
namespace L2
open PySem PySem.Spec PyProof.Rows
section
variable{X:Cx}{e:Expr}{te:TA}{p pos lp kp p0 p1 p2 p3:Pos}
end
end L2
namespace PV
open PySem PySem.Spec PyProof.Rows L2
inductive T where
 | non | bl(b:Bool) | int(i:Int) | str(x:Str) | tup(ts:List T) | lst(ts:List T) | dct(XB:List (Key×T)) | fn(x:Str)
abbrev ZZ:=List T
abbrev ZX:=List (Key×T)
inductive Sl where | no | f(t:T) | o(t:T)
abbrev P:=List Sl
set_option genInjectivity true in
inductive A where | t(t:T) | s(i:Nat)
inductive Op where | add | sub | mul | fdiv | mod | pow
inductive Cm where | eq | ne | lt | le | gt | ge | isin | notin | is | isnt
inductive Kd where | int | bool | str | tuple | list | dict
inductive Pr where
 | op(o:Op) | cm(c:Cm) | c2(c d:Cm) | neg | ix | sl(lo hi:Bool) | rev
 | len | all | any | list | tuple | sorted | sset | lset | min | max | int | repr | dict | sum | abs | str | isi (n:Kd) | get1 | get2 | join (x:Str) | lvals | tup1 | dnew | idx | dct1 | srtP
inductive Mt where | append | extend | pop | popAt | insert
inductive Ik where | rng | zip | vls | its
inductive E where
 | v(i:Nat) | mv(i:Nat) | io(i:Nat) | k(t:T) | g(x:Str)
 | nil | cons (a r:E)
 | tup (es:E) | lst (es:E) | pr (p:Pr) (es:E)
 | and (a b:E) | or (a b:E) | not (a:E) | ite (c a b:E)
 | call (f:Str) (es:E) | cal (i:Nat) (es:E) | mt (m:Mt) (i:Nat) (es:E)
 | comp (tg it c el:E) (fr:ZG) (ns:ZD) | itr (k:Ik) (es:E) | tmp (a:E)
inductive S where
 | nil | seq(a r:S) | ret(a:E) | ex(a:E) | set(i:Nat)(a:E) | unp(tg a:E) | put(i:Nat)(k a:E)
 | ite (c:E) (a b:S) | loop (tg it:E) (b:S) | wh (c:E) (b:S) | pass | brk | cont
inductive Fl where | nx | rt(r:Sl) | bk | ct
noncomputable def Y4(ts:ZZ)(lo hi:ZR):ZZ:=(ts.drop (HT.Ym ts.length 0 lo)).take (HT.Ym ts.length ts.length hi - HT.Ym ts.length 0 lo)
noncomputable def Zr(XB:ZX)(k:Key):Option T:=(XB.find? fun p=>decide (p.1=k)).map (·.2)
noncomputable def Yp(XB:ZX)(k:Key)(v:T):ZX :=
 if (XB.any fun p=>decide (p.1=k))=true then XB.map fun p=>if p.1=k then (p.1,v) else p else XB++[(k,v)]
noncomputable def keyT:T->Option Key
 | .int i=>some (.inl i)
 | .str x=>some (.inr x)
 | _=>none
noncomputable def T2:Key->T
 | .inl i=>.int i
 | .inr x=>.str x
noncomputable def allB:ZZ->Option (List Bool)
 | []=>some []
 | .bl b::r=>(allB r).map (b::·)
 | _::_=>none
def Bh:T->Bool
 | .non=>true
 | .bl _=>true
 | .int _=>true
 | .str _=>true
 | _=>false
noncomputable def shV:T->Option V
 | .non=>some .non
 | .bl b=>some (.bl b)
 | .int i=>some (.int i)
 | .str x=>some (.str x)
 | .tup _=>some (.ref 0)
 | _=>none
noncomputable def eqT:T->T->Option Bool
 | .str a,.str b=>some (decide (a=b))
 | .int a,.int b=>some (decide (a=b))
 | a,b=>if Bh b=true then (shV a).bind fun x=>(shV b).map (ny x) else none
def Q2:T->Option (ZZ)
 | .tup ts=>some ts
 | _=>none
noncomputable def eq1(a b:T):Option Bool:=match Q2 b with
 | none=>eqT a b
 | some bs=>if bs.isEmpty=true then (match Q2 a with
  | some as=>some as.isEmpty
  | none=>if Bh a=true then some false else none) else none
noncomputable def dj:ZZ->ZZ->Option Bool
 | [],[]=>some true
 | [],_::_=>some false
 | _::_,[]=>some false
 | a::r,b::q=>(eq1 a b).bind fun x=>(dj r q).map (x && ·)
noncomputable def eqE(a b:T):Option Bool:=match Q2 b with
 | none=>eqT a b
 | some bs=>(Q2 a).bind fun as=>dj as bs
noncomputable def lt1:T->T->Option Bool
 | .int a,.int b=>some (decide (a<b))
 | .str a,.str b=>some (decide (a.cps.toList<b.cps.toList))
 | .bl a,.bl b=>some (!a && b)
 | _,_=>none
noncomputable def ltTs:ZZ->ZZ->Option Bool
 | [],bs=>some (!bs.isEmpty)
 | a::r,bs=>match bs with
  | []=>some false
  | b::q=>if r.isEmpty=true/\q.isEmpty=true then lt1 a b else none
def ltE(a b:T):Option Bool:=match Q2 b with
 | none=>lt1 a b
 | some bs=>(Q2 a).bind fun as=>ltTs as bs
noncomputable def Gm:ZZ->ZZ->Option Bool
 | [],bs=>some (!bs.isEmpty)
 | _::_,[]=>some false
 | a::r,b::q=>(eqE a b).bind fun e=>if e=true then Gm r q else ltE a b
noncomputable def Bf:ZZ->Option (List (ZZ))
 | []=>some []
 | .tup (.int i::r)::ts=>(Bf ts).map ((.int i::r)::·)
 | _::_=>none
noncomputable def Ho(ts:ZZ):Option (ZZ):=(Bf ts).bind fun us=>if ts.length<2 then some ts else
 if ts.length<64/\∀a∈us,∀b∈us,(Gm a b).isSome=true then some ((SRT.rh ts.length fun i j=>(Gm (us.getD i []) (us.getD j [])).getD false).map fun i=>ts.getD i .non) else none
noncomputable def Kb(n:Int):ZL->ZH
 | []=>none
 | z::r=>if z=n then some 0 else (Kb n r).map (·+1)
noncomputable def iw:T->T->Option Bool
 | .int a,.int b=>some (decide (a<b))
 | _,_=>none
def geT:T->T->Option Bool
 | .int a,.int b=>some (decide (b<=a))
 | _,_=>none
noncomputable def B0(a:T):ZZ->Option Bool
 | []=>some false
 | t::r=>(eqT t a).bind fun b=>(B0 a r).map (b || ·)
noncomputable def Dn:ZZ->Option (ZL)
 | []=>some []
 | .int i::r=>(Dn r).map (i::·)
 | _::_=>none
noncomputable def Bb:ZZ->Option (ZD)
 | []=>some []
 | .str i::r=>(Bb r).map (i::·)
 | _::_=>none
def Ac:Key->PyData
 | .inl i=>.int i
 | .inr x=>.str x
mutual
noncomputable def toPy:T->Option PyData
 | .non=>some .none
 | .bl b=>some (.bool b)
 | .int i=>some (.int i)
 | .str x=>some (.str x)
 | .tup ts=>(V9 ts).map .tuple
 | .lst ts=>(V9 ts).map .list
 | .dct XB=>(Dy XB).map .dict
 | .fn _=>none
noncomputable def V9:ZZ->Option (List PyData)
 | []=>some []
 | t::r=>(toPy t).bind fun d=>(V9 r).map (d::·)
noncomputable def Dy:ZX->Option (List (PyData×PyData))
 | []=>some []
 | (k,t)::r=>(toPy t).bind fun d=>(Dy r).map ((Ac k,d)::·)
end
noncomputable def rpT(t:T):Option Str:=(toPy t).bind fun d=>if d.showable=true/\d.shown.length<=sizeLine/\d.depth<=100 then some d.shown else none
def inF(a:T)(ts:ZZ):Option Bool:=if Bh a=true then B0 a ts else none
noncomputable def Zx0:T->Str->Option Bool
 | .str x,y=>some (!(Builtin.Str.occurrences y x 0 y.length 1).isEmpty)
 | _,_=>none
noncomputable def bf(a:T):T->Option Bool
 | .lst ts=>inF a ts
 | .tup ts=>inF a ts
 | .dct XB=>(keyT a).map fun k=>(Zr XB k).isSome
 | .str y=>Zx0 a y
 | _=>none
noncomputable def isT:T->T->Option Bool
 | .non,.non=>some true
 | _,.non=>some false
 | _,_=>none
noncomputable def eqC:T->T->Option Bool
 | .tup ts,.tup []=>some ts.isEmpty
 | a,b=>eqT a b
noncomputable def eqG:T->T->Option Bool
 | .tup ts,.tup (b::q)=>dj ts (b::q)
 | a,b=>eqC a b
noncomputable def Wz:Cm->T->T->Option Bool
 | .eq,a,b=>eqG a b
 | .ne,a,b=>(eqC a b).map not
 | .lt,a,b=>iw a b
 | .gt,a,b=>iw b a
 | .le,a,b=>(iw b a).map not
 | .ge,a,b=>geT a b
 | .isin,a,b=>bf a b
 | .notin,a,b=>(bf a b).map not
 | .is,a,b=>isT a b
 | .isnt,a,b=>(isT a b).map not
noncomputable def bj(f:Int->Int->Option Sl)(t t':T):Option Sl:=match t with
 | .int a=>(match t' with
  | .int b=>f a b
  | _=>none)
 | _=>none
noncomputable def addT(t t':T):Option Sl:=match t with
 | .int a=>(match t' with
  | .int b=>some (.f (.int (a+b)))
  | _=>none)
 | .str a=>(match t' with
  | .str b=>if a.length+b.length<=sizeLine then some (.f (.str (a++b))) else none
  | _=>none)
 | .lst a=>(match t' with
  | .lst b=>if a.length+b.length<=sizeLine then some (.o (.lst (a++b))) else none
  | _=>none)
 | .tup a=>(match t' with
  | .tup b=>if a.length+b.length<=sizeLine then some (.f (.tup (a++b))) else none
  | _=>none)
 | .bl a=>(match t' with
  | .int b=>some (.f (.int ((if a=true then 1 else 0)+b)))
  | _=>none)
 | _=>none
noncomputable def mulT(t t':T):Option Sl:=match t with
 | .int a=>(match t' with
  | .int b=>if (-(2 ^ 64)<a/\a<2 ^ 64)\/(-(2 ^ 64)<b/\b<2 ^ 64) then some (.f (.int (a * b))) else none
  | _=>none)
 | .str a=>(match t' with
  | .int n=>if 0<=n/\n<=1000/\a.length<=1000 then some (.f (.str (repS a n.toNat))) else none
  | _=>none)
 | .lst a=>(match t' with
  | .int n=>if -(2 ^ 63)<=n/\n<2 ^ 63/\a.length * n.toNat<=sizeLine then some (.o (.lst (List.replicate n.toNat a).flatten)) else none
  | _=>none)
 | _=>none
noncomputable def cf(o:Op)(t t':T):Option Sl:=match o with
 | .add=>addT t t'
 | .sub=>bj (fun a b=>some (.f (.int (a - b)))) t t'
 | .mul=>mulT t t'
 | .fdiv=>bj (fun a b=>if 0<b/\b<1073741824 then some (.f (.int (a / b))) else none) t t'
 | .mod=>bj (fun a b=>if 0<b then some (.f (.int (a % b))) else none) t t'
 | .pow=>bj (fun a b=>if 0<=b/\b<=1000000/\a.natAbs<2 ^ 64 then some (.f (.int (a ^ b.toNat))) else none) t t'
noncomputable def Qt:T->T->Option T
 | .tup ts,.int i=>Bq ts i
 | .lst ts,.int i=>Bq ts i
 | .str z,.int i=>if z.length<=sizeLine then (Bq z.cps.toList i).map fun c=>.str ⟨#[c]⟩ else none
 | .dct XB,k=>(keyT k).bind (Zr XB)
 | _,_=>none
noncomputable def slT:T->ZR->ZR->Option Sl
 | .tup ts,lo,hi=>some (.f (.tup (Y4 ts lo hi)))
 | .lst ts,lo,hi=>some (.o (.lst (Y4 ts lo hi)))
 | .str z,lo,hi=>if z.length<=sizeLine then some (.f (.str (Txt.slice z lo hi))) else none
 | _,_,_=>none
noncomputable def ib:T->ZH
 | .tup ts=>some ts.length
 | .lst ts=>some ts.length
 | .dct ts=>some ts.length
 | .str z=>if z.length<=sizeLine then some z.length else none
 | _=>none
noncomputable def isiT:Kd->T->Option Bool
 | .int,.int _=>some true
 | .int,.bl _=>some true
 | .bool,.bl _=>some true
 | .str,.str _=>some true
 | .tuple,.tup _=>some true
 | .list,.lst _=>some true
 | .dict,.dct _=>some true
 | _,.fn _=>none
 | _,_=>some false
def i8:T->ZR
 | .int i=>some i
 | _=>none
def ctn:T->Bool
 | .lst _=>true
 | .dct _=>true
 | _=>false
noncomputable def T4(ts:ZZ):Option (ZZ) :=
 if ts.length<64 then match Dn ts with
  | some zs=>some ((SRT.Nn zs).map .int)
  | none=>(Bb ts).map fun ss=>(SRT.Uo ss).map .str
 else none
mutual
def noC:T->Bool
 | .tup ts=>noCs ts
 | .lst _=>false
 | .dct _=>false
 | .fn _=>false
 | _=>true
def noCs:ZZ->Bool
 | []=>true
 | t::r=>noC t && noCs r
end
noncomputable def scal:T->Bool
 | .tup _=>false
 | .lst _=>false
 | .dct _=>false
 | _=>true
def pOp(o:Op):ZZ->Option Sl
 | [a,b]=>cf o a b
 | _=>none
noncomputable def pCm(c:Cm):ZZ->Option Sl
 | [a,b]=>(Wz c a b).map fun r=>.f (.bl r)
 | _=>none
noncomputable def pC2(c:Cm)(d:Cm):ZZ->Option Sl
 | [a,b,e]=>(Wz c a b).bind fun r=>if r=true then (Wz d b e).map fun r=>.f (.bl r) else some (.f (.bl false))
 | _=>none
noncomputable def pNeg:ZZ->Option Sl
 | [.int i]=>some (.f (.int (-i)))
 | _=>none
noncomputable def pIx:ZZ->Option Sl
 | [a,b]=>(Qt a b).map .f
 | _=>none
noncomputable def pSl10:ZZ->Option Sl
 | [a,l]=>(i8 l).bind fun i=>slT a (some i) none
 | _=>none
def pSl01:ZZ->Option Sl
 | [a,h]=>(i8 h).bind fun j=>slT a none (some j)
 | _=>none
noncomputable def pSl11:ZZ->Option Sl
 | [a,l,h]=>(i8 l).bind fun i=>(i8 h).bind fun j=>slT a (some i) (some j)
 | _=>none
noncomputable def pLen:ZZ->Option Sl
 | [a]=>(ib a).map fun n=>.f (.int n)
 | _=>none
noncomputable def pAll:ZZ->Option Sl
 | [.lst ts]=>(allB ts).map fun bs=>.f (.bl (bs.all id))
 | _=>none
def pAny:ZZ->Option Sl
 | [.lst ts]=>(allB ts).map fun bs=>.f (.bl (bs.any id))
 | _=>none
noncomputable def Zxr:ZZ->Option Sl
 | [.tup ts]=>some (.o (.lst ts))
 | _=>none
noncomputable def Ao:ZZ->Option Sl
 | [.lst ts]=>(T4 ts).map fun us=>.o (.lst us)
 | [.dct XB]=>(T4 (XB.map fun p=>T2 p.1)).map fun us=>.o (.lst us)
 | _=>none
noncomputable def k7:ZZ->Option Sl
 | [.lst ts]=>some (.f (.tup ts))
 | _=>none
noncomputable def pMin:ZZ->Option Sl
 | [.int a,.int b]=>some (.f (.int (if b<a then b else a)))
 | _=>none
noncomputable def pMax:ZZ->Option Sl
 | [.int a,.int b]=>some (.f (.int (if b>a then b else a)))
 | _=>none
noncomputable def pInt:ZZ->Option Sl
 | [.bl b]=>some (.f (.int (if b then 1 else 0)))
 | _=>none
noncomputable def pIsi(n:Kd):ZZ->Option Sl
 | [a]=>(isiT n a).map fun r=>.f (.bl r)
 | _=>none
noncomputable def Zxs:ZZ->Option Sl
 | [.dct XB]=>some (.o (.dct XB))
 | _=>none
noncomputable def Zxl:ZZ->Option Sl
 | [a]=>(rpT a).map fun z=>.f (.str z)
 | _=>none
noncomputable def pDnew:ZZ->Option Sl
 | []=>some (.o (.dct []))
 | _=>none
noncomputable def pGet1:ZZ->Option Sl
 | [.dct XB,k]=>(keyT k).map fun k=>.f ((Zr XB k).getD .non)
 | _=>none
noncomputable def pIdx:ZZ->Option Sl
 | [.lst ts,.int n]=>(Dn ts).bind fun zs=>(Kb n zs).map fun j:Nat=>Sl.f (.int (j:Nat))
 | _=>none
noncomputable def pLset:ZZ->Option Sl
 | [.lst ts]=>(Bb ts).bind fun ss=>if ss.length<64 then some (.f (.int (SRT.qb ss).length)) else none
 | _=>none
noncomputable def pDct1:ZZ->Option Sl
 | [k,v]=>if ctn v=true then none else (keyT k).map fun k=>.o (.dct [(k,v)])
 | _=>none
noncomputable def Zxn:ZZ->Option Sl
 | [.tup ts]=>(Ho ts).map fun us=>.o (.lst us)
 | _=>none
noncomputable def As:Pr->ZZ->Option Sl
 | .op o=>pOp o
 | .cm c=>pCm c
 | .c2 c d=>pC2 c d
 | .neg=>pNeg
 | .ix=>pIx
 | .sl true false=>pSl10
 | .sl false true=>pSl01
 | .sl true true=>pSl11
 | .len=>pLen
 | .all=>pAll
 | .any=>pAny
 | .list=>Zxr
 | .sorted=>Ao
 | .tuple=>k7
 | .min=>pMin
 | .max=>pMax
 | .int=>pInt
 | .isi n=>pIsi n
 | .dict=>Zxs
 | .repr=>Zxl
 | .dnew=>pDnew
 | .get1=>pGet1
 | .idx=>pIdx
 | .lset=>pLset
 | .dct1=>pDct1
 | .srtP=>Zxn
 | _=>fun _=>none
noncomputable def wb:Sl->Option Sl
 | .f t=>if scal t=true then some (.f t) else none
 | .o t=>(match t with
  | .dct XB=>if XB.all (fun p=>noC p.2)=true then some (.o (.dct XB)) else none
  | _=>none)
 | .no=>none
noncomputable def look(p:P)(a:A):Option T :=
 match a with
 | .t t=>some t
 | .s i=>match p[i]? with
  | some (.f t)=>some t
  | some (.o t)=>some t
  | _=>none
noncomputable def looks(p:P):List A->Option (ZZ)
 | []=>some []
 | a::r=>(look p a).bind fun t=>(looks p r).map (t::·)
noncomputable def frs:Sl->Sl
 | .o t=>.f t
 | s=>s
noncomputable def frz(p:P):P:=p.map frs
noncomputable def args(p:P):List A->Option (List Sl)
 | []=>some []
 | .t t::r=>(args p r).map (.f t::·)
 | .s i::r=>match p[i]? with
  | some (.o t)=>(args (p.set i .no) r).map (.o t::·)
  | _=>none
def mkO:T->Sl
 | .fn _=>.no
 | t=>.o t
theorem mkO_f{t u:T}:mkO t≠.f u:=by cases t<;>exact fun z=>nomatch z
noncomputable def outs(p:P):List A->ZZ->Option P
 | [],[]=>some p
 | .t _::r,ts=>outs p r ts
 | .s i::r,t::ts=>outs (p.set i (mkO t)) r ts
 | _,_=>none
noncomputable def Rt:List Sl->ZZ->List Sl
 | .o _::r,t::ts=>mkO t::Rt r ts
 | s::r,ts=>s::Rt r ts
 | [],_=>[]
noncomputable def qr(fr:ZG)(p:P):P:=fr.map fun o=>match o with
 | some j=>(p[j]?).getD .no
 | none=>.no
noncomputable def back:ZG->P->P->P
 | some j::fr,s::q,p=>back fr q (p.set j s)
 | none::fr,_::q,p=>back fr q p
 | _,_,p=>p
mutual
noncomputable def asg:E->T->P->Option P
 | .v i,t,p=>some (p.set i (.f t))
 | .tup es,.tup ts,p=>K8 es ts p
 | _,_,_=>none
noncomputable def K8:E->ZZ->P->Option P
 | .nil,[],p=>some p
 | .cons a r,t::ts,p=>(asg a t p).bind fun q=>K8 r ts q
 | _,_,_=>none
end
def thaw:Sl->Option T
 | .f t=>some t
 | .o t=>some t
 | .no=>none
noncomputable def Mq:T->Option (ZZ)
 | .tup ts=>some ts
 | .lst ts=>some ts
 | .dct XB=>some (XB.map fun p=>T2 p.1)
 | .str z=>if z.length<=sizeLine then some (z.cps.toList.map fun c=>.str ⟨#[c]⟩) else none
 | _=>none
noncomputable def Dr(body:T->P->Option (Option T×P)):ZZ->ZZ->P->Option (ZZ×P)
 | [],acc,p=>some (acc,p)
 | x::r,acc,p=>(body x p).bind fun q=>match q.1 with
  | some y=>Dr body r (acc++[y]) q.2
  | none=>Dr body r acc q.2
noncomputable def iq:Mt->T->ZZ->Option (T×T)
 | .append,.lst ts,[x]=>if ts.length<sizeLine then some (.lst (ts++[x]),.non) else none
 | _,_,_=>none
abbrev Cs:=Str->List Sl->Option (Sl×ZZ)
structure W where
 C:Cs
 gl:Str->Option T
noncomputable def read(p:P)(i:Nat):Option (T×P):=match p[i]? with
 | some (.f t)=>some (t,p)
 | some (.o t)=>some (t,p.set i (.f t))
 | _=>none
noncomputable def done(p:P)(i:Nat):Bool:=match p[i]? with
 | some (.f _)=>true
 | some (.o _)=>true
 | _=>false
noncomputable def zb(p:P)(i:Nat):Bool:=match p[i]? with
 | some (.o (.lst _))=>true
 | _=>false
noncomputable def rngT:T->Option (ZZ)
 | .int n=>if -1000000<=n/\n<=1000000 then some ((List.range n.toNat).map fun k=>.int (k:Nat)) else none
 | _=>none
noncomputable def Ta(a b:ZZ):ZZ:=(a.zip b).map fun p=>.tup [p.1,p.2]
noncomputable def itT:Ik->ZZ->Option (ZZ)
 | .rng,[t]=>rngT t
 | .zip,[.lst a,.lst b]=>some (Ta a b)
 | .zip,[.tup a,.tup b]=>some (Ta a b)
 | .vls,[.dct XB]=>some (XB.map (·.2))
 | .its,[.dct XB]=>some (XB.map fun p=>.tup [T2 p.1,p.2])
 | _,_=>none
section
variable(w:W)
def isNil:E->Bool
 | .nil=>true
 | _=>false
noncomputable def Gj(o:Option (Sl×P)):Option (Bool×P):=o.bind fun q=>match q.1 with
 | .f (.bl b)=>some (b,q.2)
 | _=>none
noncomputable def toT(o:Option (Sl×P)):Option (T×P):=o.bind fun q=>(thaw q.1).map fun t=>(t,q.2)
noncomputable def cg(o:Option (Sl×P)):Option (ZZ×P):=(toT o).bind fun q=>(Mq q.1).map fun ts=>(ts,q.2)
noncomputable def P7(m:Bool)(a:E)(p:P)(x:Option (T×P)):Option (A×P):=match a with
 | .io i=>if done p i=true then some (.s i,p) else none
 | .v i=>if m=true then (if done p i=true then some (.s i,p) else none) else (read p i).map fun q=>(.t q.1,q.2)
 | _=>x.map fun q=>(.t q.1,q.2)
mutual
noncomputable def ev:E->P->Option (Sl×P)
 | .v i,p=>(read p i).map fun q=>(.f q.1,q.2)
 | .mv i,p=>match p[i]? with
  | some (.o t)=>some (.o t,p.set i .no)
  | some (.f t)=>some (.f t,p)
  | _=>none
 | .k t,p=>some (.f t,p)
 | .g x,p=>(w.gl x).map fun t=>(.f t,p)
 | .tup es,p=>(Jn false es p).bind fun q=>(looks q.2 q.1).bind fun ts=>if ts.length<=sizeLine then some (.f (.tup ts),q.2) else none
 | .lst es,p=>(Jn false es p).bind fun q=>(looks q.2 q.1).bind fun ts=>if ts.length<=sizeLine then some (.o (.lst ts),q.2) else none
 | .pr r es,p=>(Jn true es p).bind fun q=>(looks q.2 q.1).bind fun ts=>(As r ts).map fun s=>(s,q.2)
 | .and a b,p=>(Gj (ev a p)).bind fun q=>if q.1=true then ev b q.2 else some (.f (.bl false),q.2)
 | .or a b,p=>(Gj (ev a p)).bind fun q=>if q.1=true then some (.f (.bl true),q.2) else ev b q.2
 | .not a,p=>(Gj (ev a p)).map fun q=>(.f (.bl (!q.1)),q.2)
 | .ite c a b,p=>(Gj (ev c p)).bind fun q=>if q.1=true then ev a q.2 else ev b q.2
 | .call f es,p=>(Jn false es p).bind fun q=>(args q.2 q.1).bind fun as=>(w.C f as).bind fun r=>(outs q.2 q.1 r.2).map fun p'=>(r.1,p')
 | .cal i es,p=>match p[i]? with
  | some (.f (.fn f))=>(Jn false es p).bind fun q=>(args q.2 q.1).bind fun as=>(w.C f as).bind fun r=>(outs q.2 q.1 r.2).map fun p'=>(r.1,p')
  | _=>none
 | .mt m i es,p=>if zb p i=true then (Jn false es p).bind fun q=>(looks q.2 q.1).bind fun ts=>match q.2[i]? with
   | some (.o t)=>(iq m t ts).map fun r=>(.f r.2,q.2.set i (.o r.1))
   | _=>none
  else none
 | .comp tg it c el fr _,p=>(cg (ev it p)).bind fun q=>(Dr (fun x s=>(asg tg x s).bind fun s1=>(if isNil c=true then some (true,s1) else Gj (ev c s1)).bind fun b=>if b.1=true then (toT (ev el b.2)).map fun r=>(some r.1,r.2) else some (none,b.2)) q.1 [] (qr fr q.2)).map fun r=>(.o (.lst r.1),back fr r.2 q.2)
 | .itr k es,p=>(Jn false es p).bind fun q=>(looks q.2 q.1).bind fun ts=>(itT k ts).map fun xs=>(.f (.lst xs),q.2)
 | .tmp a,p=>(ev a (frz p)).bind fun q=>(wb q.1).map fun r=>(r,p)
 | _,_=>none
noncomputable def Jn:Bool->E->P->Option (List A×P)
 | _,.nil,p=>some ([],p)
 | m,.cons a r,p=>(P7 m a p (toT (ev a p))).bind fun q=>(Jn m r q.2).map fun s=>(q.1::s.1,s.2)
 | _,_,_=>none
end
end
theorem ev_vQ{w:W}{p:P}:∀i,ev w (.v i) p=((read p i).map fun q=>(.f q.1,q.2)):=fun _=>rfl
theorem ev_mvQ{w:W}{p:P}:∀i,ev w (.mv i) p=(match p[i]? with
  | some (.o t)=>some (.o t,p.set i .no)
  | some (.f t)=>some (.f t,p)
  | _=>none):=fun _=>rfl
theorem ev_gQ{w:W}{p:P}:∀x,ev w (.g x) p=((w.gl x).map fun t=>(.f t,p)):=fun _=>rfl
theorem Zzk{w:W}{p:P}:∀es,ev w (.tup es) p=((Jn w false es p).bind fun q=>(looks q.2 q.1).bind fun ts=>if ts.length<=sizeLine then some (.f (.tup ts),q.2) else none):=fun _=>rfl
theorem Zzg{w:W}{p:P}:∀es,ev w (.lst es) p=((Jn w false es p).bind fun q=>(looks q.2 q.1).bind fun ts=>if ts.length<=sizeLine then some (.o (.lst ts),q.2) else none):=fun _=>rfl
theorem ev_prQ{w:W}{p:P}:∀r es,ev w (.pr r es) p=((Jn w true es p).bind fun q=>(looks q.2 q.1).bind fun ts=>(As r ts).map fun s=>(s,q.2)):=fun _ _=>rfl
theorem Il{w:W}{p:P}:∀a b,ev w (.and a b) p=((Gj (ev w a p)).bind fun q=>if q.1=true then ev w b q.2 else some (.f (.bl false),q.2)):=fun _ _=>rfl
theorem m7{w:W}{p:P}:∀a b,ev w (.or a b) p=((Gj (ev w a p)).bind fun q=>if q.1=true then some (.f (.bl true),q.2) else ev w b q.2):=fun _ _=>rfl
theorem Im{w:W}{p:P}:∀a,ev w (.not a) p=((Gj (ev w a p)).map fun q=>(.f (.bl (!q.1)),q.2)):=fun _=>rfl
theorem Zzf{w:W}{p:P}:∀c a b,ev w (.ite c a b) p=((Gj (ev w c p)).bind fun q=>if q.1=true then ev w a q.2 else ev w b q.2):=fun _ _ _=>rfl
theorem m9{w:W}{p:P}:∀f es,ev w (.call f es) p=((Jn w false es p).bind fun q=>(args q.2 q.1).bind fun as=>(w.C f as).bind fun r=>(outs q.2 q.1 r.2).map fun p'=>(r.1,p')):=fun _ _=>rfl
theorem Zzb{w:W}{p:P}:∀i es,ev w (.cal i es) p=(match p[i]? with
  | some (.f (.fn f))=>(Jn w false es p).bind fun q=>(args q.2 q.1).bind fun as=>(w.C f as).bind fun r=>(outs q.2 q.1 r.2).map fun p'=>(r.1,p')
  | _=>none):=fun _ _=>rfl
theorem ev_mtQ{w:W}{p:P}:∀m i es,ev w (.mt m i es) p=(if zb p i=true then (Jn w false es p).bind fun q=>(looks q.2 q.1).bind fun ts=>match q.2[i]? with
   | some (.o t)=>(iq m t ts).map fun r=>(.f r.2,q.2.set i (.o r.1))
   | _=>none
  else none):=fun _ _ _=>rfl
theorem m8{w:W}{p:P}:∀tg it c el fr zz,ev w (.comp tg it c el fr zz) p=((cg (ev w it p)).bind fun q=>(Dr (fun x s=>(asg tg x s).bind fun s1=>(if isNil c=true then some (true,s1) else Gj (ev w c s1)).bind fun b=>if b.1=true then (toT (ev w el b.2)).map fun r=>(some r.1,r.2) else some (none,b.2)) q.1 [] (qr fr q.2)).map fun r=>(.o (.lst r.1),back fr r.2 q.2)):=fun _ _ _ _ _ _=>rfl
theorem Ic{w:W}{p:P}:∀k es,ev w (.itr k es) p=((Jn w false es p).bind fun q=>(looks q.2 q.1).bind fun ts=>(itT k ts).map fun xs=>(.f (.lst xs),q.2)):=fun _ _=>rfl
theorem Ig{w:W}{p:P}:∀a,ev w (.tmp a) p=((ev w a (frz p)).bind fun q=>(wb q.1).map fun r=>(r,p)):=fun _=>rfl
noncomputable def Bs(body:T->P->Option (Fl×P)):ZZ->P->Option (Fl×P)
 | [],p=>some (.nx,p)
 | x::r,p=>(body x p).bind fun q=>match q.1 with
  | .nx=>Bs body r q.2
  | .ct=>Bs body r q.2
  | .bk=>some (.nx,q.2)
  | .rt t=>some (.rt t,q.2)
noncomputable def Br(test:P->Option (Bool×P))(body:P->Option (Fl×P)):Nat->P->Option (Fl×P)
 | 0,_=>none
 | n+1,p=>(test p).bind fun b=>if b.1=true then (body b.2).bind fun q=>match q.1 with
   | .nx=>Br test body n q.2
   | .ct=>Br test body n q.2
   | .bk=>some (.nx,q.2)
   | .rt t=>some (.rt t,q.2)
  else some (.nx,b.2)
noncomputable def V3(pt:Nat->Bool):E->Bool
 | .v i=>!pt i
 | .tup es=>V3 pt es
 | .nil=>true
 | .cons a r=>V3 pt a && V3 pt r
 | _=>false
noncomputable def putAt:T->T->T->Option T
 | .lst ts,.int i,t=>(qm ts.length i).map fun j=>.lst (ts.set j t)
 | .dct XB,k,t=>(keyT k).bind fun k=>if XB.length<sizeLine then some (.dct (Yp XB k t)) else none
 | _,_,_=>none
section
variable(w:W)(pt:Nat->Bool)
noncomputable def ex:S->P->Option (Fl×P)
 | .nil,p=>some (.nx,p)
 | .seq a r,p=>(ex a p).bind fun q=>match q.1 with
  | .nx=>ex r q.2
  | .rt t=>some (.rt t,q.2)
  | .bk=>some (.bk,q.2)
  | .ct=>some (.ct,q.2)
 | .ret a,p=>(ev w a p).map fun q=>(.rt q.1,q.2)
 | .ex a,p=>(ev w a p).map fun q=>(.nx,q.2)
 | .set i a,p=>if pt i=true then none else (ev w a p).map fun q=>(.nx,q.2.set i q.1)
 | .unp tg a,p=>if V3 pt tg=true then (toT (ev w a p)).bind fun q=>(asg tg q.1 q.2).map fun p'=>(.nx,p') else none
 | .put i k a,p=>(toT (ev w a p)).bind fun q=>if done q.2 i=true then (toT (ev w k q.2)).bind fun r=>match r.2[i]? with
   | some (.o t)=>(putAt t r.1 q.1).map fun t'=>(.nx,r.2.set i (.o t'))
   | _=>none
  else none
 | .ite c a b,p=>(Gj (ev w c p)).bind fun q=>if q.1=true then ex a q.2 else ex b q.2
 | .loop tg it b,p=>if V3 pt tg=true then (cg (ev w it p)).bind fun q=>Bs (fun x s=>(asg tg x s).bind fun s1=>ex b s1) q.1 q.2 else none
 | .wh c b,p=>Br (fun s=>Gj (ev w c s)) (fun s=>ex b s) 1000000 p
 | .pass,p=>some (.nx,p)
 | .brk,p=>some (.bk,p)
 | .cont,p=>some (.ct,p)
end
theorem Zzj{w:W}{pt:Nat->Bool}{p:P}:∀a r,ex w pt (.seq a r) p=((ex w pt a p).bind fun q=>match q.1 with
  | .nx=>ex w pt r q.2
  | .rt t=>some (.rt t,q.2)
  | .bk=>some (.bk,q.2)
  | .ct=>some (.ct,q.2)):=fun _ _=>rfl
theorem Zzw{w:W}{pt:Nat->Bool}{p:P}:∀a,ex w pt (.ret a) p=((ev w a p).map fun q=>(.rt q.1,q.2)):=fun _=>rfl
theorem ex_exQ{w:W}{pt:Nat->Bool}{p:P}:∀a,ex w pt (.ex a) p=((ev w a p).map fun q=>(.nx,q.2)):=fun _=>rfl
theorem Zzq{w:W}{pt:Nat->Bool}{p:P}:∀i a,ex w pt (.set i a) p=(if pt i=true then none else (ev w a p).map fun q=>(.nx,q.2.set i q.1)):=fun _ _=>rfl
theorem Zzx{w:W}{pt:Nat->Bool}{p:P}:∀tg a,ex w pt (.unp tg a) p=(if V3 pt tg=true then (toT (ev w a p)).bind fun q=>(asg tg q.1 q.2).map fun p'=>(.nx,p') else none):=fun _ _=>rfl
theorem Zzv{w:W}{pt:Nat->Bool}{p:P}:∀i k a,ex w pt (.put i k a) p=((toT (ev w a p)).bind fun q=>if done q.2 i=true then (toT (ev w k q.2)).bind fun r=>match r.2[i]? with
   | some (.o t)=>(putAt t r.1 q.1).map fun t'=>(.nx,r.2.set i (.o t'))
   | _=>none
  else none):=fun _ _ _=>rfl
theorem Zzy{w:W}{pt:Nat->Bool}{p:P}:∀c a b,ex w pt (.ite c a b) p=((Gj (ev w c p)).bind fun q=>if q.1=true then ex w pt a q.2 else ex w pt b q.2):=fun _ _ _=>rfl
theorem m6{w:W}{pt:Nat->Bool}{p:P}:∀tg it b,ex w pt (.loop tg it b) p=(if V3 pt tg=true then (cg (ev w it p)).bind fun q=>Bs (fun x s=>(asg tg x s).bind fun s1=>ex w pt b s1) q.1 q.2 else none):=fun _ _ _=>rfl
theorem ex_whQ{w:W}{pt:Nat->Bool}{p:P}:∀c b,ex w pt (.wh c b) p=(Br (fun s=>Gj (ev w c s)) (fun s=>ex w pt b s) 1000000 p):=fun _ _=>rfl
def on{j:Type}(o:Option j)(Q:j->Prop):Prop:=match o with
 | some a=>Q a
 | none=>False
theorem Z2{j:Type}{o:Option j}{a:j}{Q:j->Prop}(e:o=some a)(h:Q a):on o Q:=by rw[e];exact h
theorem Z9{j:Type}{o:Option j}{Q:j->Prop}(h:on o Q):∃a,o=some a/\Q a:=by
 cases o with
 | none=>exact h.elim
 | some a=>exact⟨a,rfl,h⟩
noncomputable def S6(r:Sl)(Q:Bool->Prop):Prop:=match r with
 | .f (.bl b)=>Q b
 | _=>False
def Bn(r:Sl)(Q:T->Prop):Prop:=match r with
 | .f t=>Q t
 | .o t=>Q t
 | .no=>False
theorem D0{r:Sl}{p:P}{Q:Bool->Prop}{o:Option (Sl×P)}(e:o=some (r,p))(h:S6 r Q):∃b,Gj o=some (b,p)/\Q b:=by
 subst e;unfold S6 at h
 split at h
 .exact⟨_,rfl,h⟩
 .exact h.elim
theorem De{r:Sl}{p:P}{Q:T->Prop}{o:Option (Sl×P)}(e:o=some (r,p))(h:Bn r Q):∃t,toT o=some (t,p)/\Q t:=by
 subst e;cases r with
 | no=>exact h.elim
 | f t=>exact⟨t,rfl,h⟩
 | o t=>exact⟨t,rfl,h⟩
theorem gq{r:Sl}{p:P}{Q:ZZ->Prop}{o:Option (Sl×P)}(e:o=some (r,p))(h:Bn r fun t=>on (Mq t) Q):∃ts,cg o=some (ts,p)/\Q ts:=by
 obtain⟨t,e1,h1⟩:=De e h;obtain⟨ts,e2,h2⟩:=Z9 h1;exact⟨ts,by unfold cg;rw[e1];show (Mq t).map _=_;rw[e2];rfl,h2⟩
def Vs(body:T->P->(Option T->P->Prop)->Prop):ZZ->ZZ->P->(ZZ->P->Prop)->Prop
 | [],acc,p,Q=>Q acc p
 | x::r,acc,p,Q=>body x p fun o p'=>match o with
  | some y=>Vs body r (acc++[y]) p' Q
  | none=>Vs body r acc p' Q
section
variable(w:W)
mutual
noncomputable def wE:E->P->(Sl->P->Prop)->Prop
 | .v i,p,Q=>on (read p i) fun q=>Q (.f q.1) q.2
 | .mv i,p,Q=>match p[i]? with
  | some (.o t)=>Q (.o t) (p.set i .no)
  | some (.f t)=>Q (.f t) p
  | _=>False
 | .k t,p,Q=>Q (.f t) p
 | .g x,p,Q=>on (w.gl x) fun t=>Q (.f t) p
 | .tup es,p,Q=>wR false es p fun as p1=>on (looks p1 as) fun ts=>if ts.length<=sizeLine then Q (.f (.tup ts)) p1 else False
 | .lst es,p,Q=>wR false es p fun as p1=>on (looks p1 as) fun ts=>if ts.length<=sizeLine then Q (.o (.lst ts)) p1 else False
 | .pr r es,p,Q=>wR true es p fun as p1=>on (looks p1 as) fun ts=>on (As r ts) fun s=>Q s p1
 | .and a b,p,Q=>wE a p fun r p1=>S6 r fun c=>if c=true then wE b p1 Q else Q (.f (.bl false)) p1
 | .or a b,p,Q=>wE a p fun r p1=>S6 r fun c=>if c=true then Q (.f (.bl true)) p1 else wE b p1 Q
 | .not a,p,Q=>wE a p fun r p1=>S6 r fun c=>Q (.f (.bl (!c))) p1
 | .ite c a b,p,Q=>wE c p fun r p1=>S6 r fun c=>if c=true then wE a p1 Q else wE b p1 Q
 | .call f es,p,Q=>wR false es p fun as p1=>on (args p1 as) fun sl=>on (w.C f sl) fun r=>on (outs p1 as r.2) fun p2=>Q r.1 p2
 | .cal i es,p,Q=>match p[i]? with
  | some (.f (.fn f))=>wR false es p fun as p1=>on (args p1 as) fun sl=>on (w.C f sl) fun r=>on (outs p1 as r.2) fun p2=>Q r.1 p2
  | _=>False
 | .mt m i es,p,Q=>if zb p i=true then wR false es p fun as p1=>on (looks p1 as) fun ts=>match p1[i]? with
   | some (.o t)=>on (iq m t ts) fun r=>Q (.f r.2) (p1.set i (.o r.1))
   | _=>False
  else False
 | .comp tg it c el fr _,p,Q=>wE it p fun r p1=>Bn r fun t=>on (Mq t) fun xs=>Vs (fun x s K=>on (asg tg x s) fun s1=>if isNil c=true then wE el s1 fun r s2=>Bn r fun y=>K (some y) s2
   else wE c s1 fun r s2=>S6 r fun b=>if b=true then wE el s2 fun r s3=>Bn r fun y=>K (some y) s3 else K none s2) xs [] (qr fr p1) fun ys s=>Q (.o (.lst ys)) (back fr s p1)
 | .itr k es,p,Q=>wR false es p fun as p1=>on (looks p1 as) fun ts=>on (itT k ts) fun xs=>Q (.f (.lst xs)) p1
 | .tmp a,p,Q=>wE a (frz p) fun r _=>on (wb r) fun r=>Q r p
 | _,_,_=>False
noncomputable def wR:Bool->E->P->(List A->P->Prop)->Prop
 | _,.nil,p,Q=>Q [] p
 | m,.cons a r,p,Q=>match a with
  | .io i=>if done p i=true then wR m r p fun as p1=>Q (.s i::as) p1 else False
  | .v i=>if m=true then (if done p i=true then wR m r p fun as p1=>Q (.s i::as) p1 else False) else on (read p i) fun q=>wR m r q.2 fun as p1=>Q (.t q.1::as) p1
  | _=>wE a p fun s p1=>Bn s fun t=>wR m r p1 fun as p2=>Q (.t t::as) p2
 | _,_,_,_=>False
end
theorem wE_mvQ{w:W}{p:P}{Q:Sl->P->Prop}:∀i,wE w (.mv i) p Q=(match p[i]? with
  | some (.o t)=>Q (.o t) (p.set i .no)
  | some (.f t)=>Q (.f t) p
  | _=>False):=fun _=>rfl
theorem ni{w:W}{p:P}{Q:Sl->P->Prop}:∀i es,wE w (.cal i es) p Q=(match p[i]? with
  | some (.f (.fn f))=>wR w false es p fun as p1=>on (args p1 as) fun sl=>on (w.C f sl) fun r=>on (outs p1 as r.2) fun p2=>Q r.1 p2
  | _=>False):=fun _ _=>rfl
theorem wE_mtQ{w:W}{p:P}{Q:Sl->P->Prop}:∀m i es,wE w (.mt m i es) p Q=(if zb p i=true then wR w false es p fun as p1=>on (looks p1 as) fun ts=>match p1[i]? with
   | some (.o t)=>on (iq m t ts) fun r=>Q (.f r.2) (p1.set i (.o r.1))
   | _=>False
  else False):=fun _ _ _=>rfl
theorem jc{w:W}{p:P}{Q:Sl->P->Prop}:∀tg it c el fr zz,wE w (.comp tg it c el fr zz) p Q=(wE w it p fun r p1=>Bn r fun t=>on (Mq t) fun xs=>Vs (fun x s K=>on (asg tg x s) fun s1=>if isNil c=true then wE w el s1 fun r s2=>Bn r fun y=>K (some y) s2
   else wE w c s1 fun r s2=>S6 r fun b=>if b=true then wE w el s2 fun r s3=>Bn r fun y=>K (some y) s3 else K none s2) xs [] (qr fr p1) fun ys s=>Q (.o (.lst ys)) (back fr s p1)):=fun _ _ _ _ _ _=>rfl
theorem jm{w:W}{p:P}{Q:List A->P->Prop}:∀m a r,wR w m (.cons a r) p Q=(match a with
  | .io i=>if done p i=true then wR w m r p fun as p1=>Q (.s i::as) p1 else False
  | .v i=>if m=true then (if done p i=true then wR w m r p fun as p1=>Q (.s i::as) p1 else False) else on (read p i) fun q=>wR w m r q.2 fun as p1=>Q (.t q.1::as) p1
  | _=>wE w a p fun s p1=>Bn s fun t=>wR w m r p1 fun as p2=>Q (.t t::as) p2):=fun _ _ _=>rfl
structure En where
 nx:P->Prop
 rt:Sl->P->Prop
 bk:P->Prop:=fun _=>False
 ct:P->Prop:=fun _=>False
def Xy(body:T->P->En->Prop):ZZ->P->En->Prop
 | [],p,D=>D.nx p
 | x::r,p,D=>body x p ⟨fun q=>Xy body r q D,D.rt,D.nx,fun q=>Xy body r q D⟩
def wWh(test:P->(Bool->P->Prop)->Prop)(body:P->En->Prop):Nat->P->En->Prop
 | 0,_,_=>False
 | n+1,p,D=>test p fun b p1=>if b=true then body p1 ⟨fun q=>wWh test body n q D,D.rt,D.nx,fun q=>wWh test body n q D⟩ else D.nx p1
variable(pt:Nat->Bool)
def wS:S->P->En->Prop
 | .nil,p,D=>D.nx p
 | .seq a r,p,D=>wS a p ⟨fun q=>wS r q D,D.rt,D.bk,D.ct⟩
 | .ret a,p,D=>wE w a p D.rt
 | .ex a,p,D=>wE w a p fun _ q=>D.nx q
 | .set i a,p,D=>if pt i=true then False else wE w a p fun r q=>D.nx (q.set i r)
 | .unp tg a,p,D=>if V3 pt tg=true then wE w a p fun r q=>Bn r fun t=>on (asg tg t q) D.nx else False
 | .put i k a,p,D=>wE w a p fun r p1=>Bn r fun t=>if done p1 i=true then wE w k p1 fun r p2=>Bn r fun k=>match p2[i]? with
   | some (.o x)=>on (putAt x k t) fun x'=>D.nx (p2.set i (.o x'))
   | _=>False
  else False
 | .ite c a b,p,D=>wE w c p fun r q=>S6 r fun b'=>if b'=true then wS a q D else wS b q D
 | .loop tg it b,p,D=>if V3 pt tg=true then wE w it p fun r q=>Bn r fun t=>on (Mq t) fun xs=>Xy (fun x s D=>on (asg tg x s) fun s1=>wS b s1 D) xs q D else False
 | .wh c b,p,D=>wWh (fun s K=>wE w c s fun r q=>S6 r fun b=>K b q) (fun s D=>wS b s D) 1000000 p D
 | .pass,p,D=>D.nx p
 | .brk,p,D=>D.bk p
 | .cont,p,D=>D.ct p
end
theorem Ti{body:T->P->(Option T->P->Prop)->Prop}{b':T->P->Option (Option T×P)}(hb:∀x p K,body x p K->∃o p',b' x p=some (o,p')/\K o p'):∀(xs acc:ZZ) (p:P) (Q:ZZ->P->Prop),Vs body xs acc p Q->∃ys p',Dr b' xs acc p=some (ys,p')/\Q ys p'
 | [],acc,p,Q,h=>⟨acc,p,rfl,h⟩
 | x::r,acc,p,Q,h=>by
  obtain⟨o,p',e,h'⟩:=hb x p _ h;unfold Dr;rw[e];cases o with
  | some y=>exact Ti hb r _ p' Q h'
  | none=>exact Ti hb r _ p' Q h'
section
variable(w:W)
theorem wER_ev(e:E):(∀(p:P) (Q:Sl->P->Prop),wE w e p Q->∃r p',ev w e p=some (r,p')/\Q r p')/\∀(m:Bool) (p:P) (Q:List A->P->Prop),wR w m e p Q->∃as p',Jn w m e p=some (as,p')/\Q as p':=by
 induction e with
 | v i  =>
  refine⟨fun p Q h=>?_,fun _ _ _ h=>False.elim h⟩;obtain⟨q,e,h⟩:=Z9 h;exact⟨_,_,by show (read p i).map _=_;rw[e];rfl,h⟩
 | mv i  =>
  refine⟨fun p Q h=>?_,fun _ _ _ h=>False.elim h⟩
  replace h:=Eq.mp (wE_mvQ _) h
  split at h
  .rename_i t e
   exact⟨_,_,by show (match p[i]? with | some (.o t)=>some (Sl.o t,p.set i .no) | some (.f t)=>some (Sl.f t,p) | _=>none)=_;rw[e],h⟩
  .rename_i t e
   exact⟨_,_,by show (match p[i]? with | some (.o t)=>some (Sl.o t,p.set i .no) | some (.f t)=>some (Sl.f t,p) | _=>none)=_;rw[e],h⟩
  .exact h.elim
 | io i  =>
  refine⟨fun _ _ h=>False.elim h,fun _ _ _ h=>False.elim h⟩
 | k t  =>
  refine⟨fun p Q h=>⟨_,_,rfl,h⟩,fun _ _ _ h=>False.elim h⟩
 | g x  =>
  refine⟨fun p Q h=>?_,fun _ _ _ h=>False.elim h⟩;obtain⟨q,e,h⟩:=Z9 h;exact⟨_,_,by show (w.gl x).map _=_;rw[e];rfl,h⟩
 | tup es xj =>
  refine⟨fun p Q h=>?_,fun _ _ _ h=>False.elim h⟩;obtain⟨as,p1,e1,h⟩:=xj.2 false p _ h;obtain⟨ts,e2,h⟩:=Z9 h
  split at h
  .rename_i hl
   exact⟨_,_,by show (Jn w false es p).bind _=_;rw[e1];show (looks p1 as).bind _=_;rw[e2];exact if_pos hl,h⟩
  .exact h.elim
 | lst es xj =>
  refine⟨fun p Q h=>?_,fun _ _ _ h=>False.elim h⟩;obtain⟨as,p1,e1,h⟩:=xj.2 false p _ h;obtain⟨ts,e2,h⟩:=Z9 h
  split at h
  .rename_i hl
   exact⟨_,_,by show (Jn w false es p).bind _=_;rw[e1];show (looks p1 as).bind _=_;rw[e2];exact if_pos hl,h⟩
  .exact h.elim
 | pr r es xj =>
  refine⟨fun p Q h=>?_,fun _ _ _ h=>False.elim h⟩;obtain⟨as,p1,e1,h⟩:=xj.2 true p _ h;obtain⟨ts,e2,h⟩:=Z9 h;obtain⟨s,e3,h⟩:=Z9 h;exact⟨_,_,by show (Jn w true es p).bind _=_;rw[e1];show (looks p1 as).bind _=_;rw[e2];show (As r ts).map _=_;rw[e3];rfl,h⟩
 | and a b ha hb =>
  refine⟨fun p Q h=>?_,fun _ _ _ h=>False.elim h⟩;obtain⟨r,p1,e1,h⟩:=ha.1 p _ h;obtain⟨c,e2,h⟩:=D0 e1 h;cases c with
  | true =>
   obtain⟨r,p2,e3,h⟩:=hb.1 p1 Q h;exact⟨_,_,by show (Gj (ev w a p)).bind _=_;rw[e2];exact e3,h⟩
  | false=>exact⟨_,_,by show (Gj (ev w a p)).bind _=_;rw[e2];rfl,h⟩
 | or a b ha hb =>
  refine⟨fun p Q h=>?_,fun _ _ _ h=>False.elim h⟩;obtain⟨r,p1,e1,h⟩:=ha.1 p _ h;obtain⟨c,e2,h⟩:=D0 e1 h;cases c with
  | false =>
   obtain⟨r,p2,e3,h⟩:=hb.1 p1 Q h;exact⟨_,_,by show (Gj (ev w a p)).bind _=_;rw[e2];exact e3,h⟩
  | true=>exact⟨_,_,by show (Gj (ev w a p)).bind _=_;rw[e2];rfl,h⟩
 | not a ha =>
  refine⟨fun p Q h=>?_,fun _ _ _ h=>False.elim h⟩;obtain⟨r,p1,e1,h⟩:=ha.1 p _ h;obtain⟨c,e2,h⟩:=D0 e1 h;exact⟨_,_,by show (Gj (ev w a p)).map _=_;rw[e2];rfl,h⟩
 | ite c a b hc ha hb =>
  refine⟨fun p Q h=>?_,fun _ _ _ h=>False.elim h⟩;obtain⟨r,p1,e1,h⟩:=hc.1 p _ h;obtain⟨c',e2,h⟩:=D0 e1 h;cases c' with
  | true =>
   obtain⟨r,p2,e3,h⟩:=ha.1 p1 Q h;exact⟨_,_,by show (Gj (ev w c p)).bind _=_;rw[e2];exact e3,h⟩
  | false =>
   obtain⟨r,p2,e3,h⟩:=hb.1 p1 Q h;exact⟨_,_,by show (Gj (ev w c p)).bind _=_;rw[e2];exact e3,h⟩
 | call f es xj =>
  refine⟨fun p Q h=>?_,fun _ _ _ h=>False.elim h⟩;obtain⟨as,p1,e1,h⟩:=xj.2 false p _ h;obtain⟨sl,e2,h⟩:=Z9 h;obtain⟨r,e3,h⟩:=Z9 h;obtain⟨p2,e4,h⟩:=Z9 h;exact⟨_,_,by show (Jn w false es p).bind _=_;rw[e1];show (args p1 as).bind _=_;rw[e2];show (w.C f sl).bind _=_;rw[e3];show (outs p1 as r.2).map _=_;rw[e4];rfl,h⟩
 | cal i es xj =>
  refine⟨fun p Q h=>?_,fun _ _ _ h=>False.elim h⟩
  replace h:=Eq.mp (ni _ _) h
  split at h
  .rename_i f ef
   obtain⟨as,p1,e1,h⟩:=xj.2 false p _ h;obtain⟨sl,e2,h⟩:=Z9 h;obtain⟨r,e3,h⟩:=Z9 h;obtain⟨p2,e4,h⟩:=Z9 h;exact⟨_,_,by show (match p[i]? with | some (.f (.fn f))=>(Jn w false es p).bind fun q=>(args q.2 q.1).bind fun as=>(w.C f as).bind fun r=>(outs q.2 q.1 r.2).map fun p'=>(r.1,p') | _=>none)=_;rw[ef];show (Jn w false es p).bind _=_;rw[e1];show (args p1 as).bind _=_;rw[e2];show (w.C f sl).bind _=_;rw[e3];show (outs p1 as r.2).map _=_;rw[e4];rfl,h⟩
  .exact h.elim
 | mt m i es xj =>
  refine⟨fun p Q h=>?_,fun _ _ _ h=>False.elim h⟩
  replace h:=Eq.mp (wE_mtQ _ _ _) h
  split at h
  .rename_i hd
   obtain⟨as,p1,e1,h⟩:=xj.2 false p _ h;obtain⟨ts,e2,h⟩:=Z9 h
   split at h
   .rename_i t et
    obtain⟨r,e3,h⟩:=Z9 h;exact⟨_,_,by show (if zb p i=true then _ else _)=_;rw[if_pos hd,e1];show (looks p1 as).bind _=_;rw[e2];show (match p1[i]? with | some (.o t)=>_ | _=>_)=_;rw[et];show (iq m t ts).map _=_;rw[e3];rfl,h⟩
   .exact h.elim
  .exact h.elim
 | comp tg it c el fr z5 htg hit hc b8 =>
  refine⟨fun p Q h=>?_,fun _ _ _ h=>False.elim h⟩
  replace h:=Eq.mp (jc _ _ _ _ _ _) h
  obtain⟨r,p1,e1,h⟩:=hit.1 p _ h;obtain⟨xs,e2,h⟩:=gq e1 h
  obtain⟨ys,s,e3,h⟩:=Ti (b':=fun x s=>(asg tg x s).bind fun s1=>(if isNil c=true then some (true,s1) else Gj (ev w c s1)).bind fun b=>if b.1=true then (toT (ev w el b.2)).map fun r=>(some r.1,r.2) else some (none,b.2)) (fun x s K hk=>by
    obtain⟨s1,e3,hk⟩:=Z9 hk;rw[e3];show ∃o p',(if isNil c=true then some (true,s1) else Gj (ev w c s1)).bind _=_/\_;cases hz:isNil c with
    | true =>
     rw[hz]at hk;obtain⟨r,s2,e4,hk⟩:=b8.1 s1 _ hk;obtain⟨t,e5,hk⟩:=De e4 hk;exact⟨_,_,by show (toT (ev w el s1)).map _=_;rw[e5];rfl,hk⟩
    | false =>
     rw[hz]at hk;obtain⟨r,s2,e4,hk⟩:=hc.1 s1 _ hk;obtain⟨b,e5,hk⟩:=D0 e4 hk;show ∃o p',(Gj (ev w c s1)).bind _=_/\_;rw[e5];cases b with
     | true =>
      obtain⟨r,s3,e7,hk⟩:=b8.1 s2 _ hk;obtain⟨t,e8,hk⟩:=De e7 hk;exact⟨_,_,by show (toT (ev w el s2)).map _=_;rw[e8];rfl,hk⟩
     | false=>exact⟨_,_,rfl,hk⟩) xs [] _ _ h
  exact⟨_,_,by show (cg (ev w it p)).bind _=_;rw[e2];show Option.map _ (Dr _ xs [] (qr fr p1))=_;rw[e3];rfl,h⟩
 | itr k es xj =>
  refine⟨fun p Q h=>?_,fun _ _ _ h=>False.elim h⟩;obtain⟨as,p1,e1,h⟩:=xj.2 false p _ h;obtain⟨ts,e2,h⟩:=Z9 h;obtain⟨s,e3,h⟩:=Z9 h;exact⟨_,_,by show (Jn w false es p).bind _=_;rw[e1];show (looks p1 as).bind _=_;rw[e2];show (itT k ts).map _=_;rw[e3];rfl,h⟩
 | tmp a ha =>
  refine⟨fun p Q h=>?_,fun _ _ _ h=>False.elim h⟩;obtain⟨r,p1,e1,h⟩:=ha.1 (frz p) _ h;obtain⟨r',e2,h⟩:=Z9 h;exact⟨_,_,by show (ev w a (frz p)).bind _=_;rw[e1];show (wb r).map _=_;rw[e2];rfl,h⟩
 | nil   =>
  refine⟨fun _ _ h=>False.elim h,fun m p Q h=>⟨[],p,by cases m<;>rfl,by cases m<;>exact h⟩⟩
 | cons a r ha hr =>
  refine⟨fun _ _ h=>False.elim h,fun m p Q h=>?_⟩
  have fin:∀(q:A×P) {p1:P} {as:List A},P7 m a p (toT (ev w a p))=some q->Jn w m r q.2=some (as,p1)->Jn w m (.cons a r) p=some (q.1::as,p1):=fun q p1 as e1 e2=>by
   show (P7 m a p (toT (ev w a p))).bind _=_;rw[e1];show (Jn w m r q.2).map _=_;rw[e2]
   rfl
  replace h:=Eq.mp (jm _ _ _) h
  split at h
  .rename_i i
   split at h
   .rename_i hd
    obtain⟨as,p1,e,h⟩:=hr.2 m p _ h;exact⟨_,_,fin (.s i,p) (by simp[P7,hd]) e,h⟩
   .exact h.elim
  .rename_i i
   split at h
   .rename_i hm
    split at h
    .rename_i hd
     obtain⟨as,p1,e,h⟩:=hr.2 m p _ h;exact⟨_,_,fin (.s i,p) (by simp[P7,hm,hd]) e,h⟩
    .exact h.elim
   .rename_i hm
    obtain⟨q,e1,h⟩:=Z9 h;obtain⟨as,p1,e,h⟩:=hr.2 m q.2 _ h;exact⟨_,_,fin (.t q.1,q.2) (by simp[P7,hm,e1]) e,h⟩
  .rename_i n1 n2
   obtain⟨s,p1,e1,h⟩:=ha.1 p _ h;obtain⟨t,e2,h⟩:=De e1 h;obtain⟨as,p2,e,h⟩:=hr.2 m p1 _ h;refine⟨_,_,fin (.t t,p1) ?_ e,h⟩;unfold P7
   split
   .exact absurd rfl (n1 _)
   .exact absurd rfl (n2 _)
   .rw[e2];rfl
theorem Mj(e:E)(p:P)(Q:Sl->P->Prop):wE w e p Q->∃r p',ev w e p=some (r,p')/\Q r p':=(wER_ev w e).1 p Q
end
def En.fl(D:En)(f:Fl)(p:P):Prop:=match f with
 | .nx=>D.nx p
 | .rt r=>D.rt r p
 | .bk=>D.bk p
 | .ct=>D.ct p
theorem Lc{body:T->P->En->Prop}{b':T->P->Option (Fl×P)}(hb:∀x p D,body x p D->∃f p',b' x p=some (f,p')/\D.fl f p'):∀(xs:ZZ) (p:P) (D:En),Xy body xs p D->∃f p',Bs b' xs p=some (f,p')/\D.fl f p'
 | [],p,D,h=>⟨.nx,p,rfl,h⟩
 | x::r,p,D,h=>by
  obtain⟨f,p',e,h'⟩:=hb x p _ h;unfold Bs;rw[e];cases f with
  | nx=>exact Lc hb r p' D h'
  | ct=>exact Lc hb r p' D h'
  | bk=>exact⟨.nx,p',rfl,h'⟩
  | rt t=>exact⟨.rt t,p',rfl,h'⟩
theorem Ek{test:P->(Bool->P->Prop)->Prop}{t':P->Option (Bool×P)}{body:P->En->Prop}{b':P->Option (Fl×P)}(ht:∀p K,test p K->∃b p',t' p=some (b,p')/\K b p')(hb:∀p D,body p D->∃f p',b' p=some (f,p')/\D.fl f p') :
  ∀(n:Nat) (p:P) (D:En),wWh test body n p D->∃f p',Br t' b' n p=some (f,p')/\D.fl f p'
 | 0,p,D,h=>h.elim
 | n+1,p,D,h=>by
  obtain⟨b,p1,e,h⟩:=ht p _ h;unfold Br;rw[e];cases b with
  | false=>exact⟨.nx,p1,rfl,h⟩
  | true =>
   obtain⟨f,p2,e2,h⟩:=hb p1 _ h;show ∃f p',(b' p1).bind _=_/\_;rw[e2];cases f with
   | nx=>exact Ek ht hb n p2 D h
   | ct=>exact Ek ht hb n p2 D h
   | bk=>exact⟨.nx,p2,rfl,h⟩
   | rt t=>exact⟨.rt t,p2,rfl,h⟩
theorem wS_ex(w:W)(pt:Nat->Bool)(s:S):∀(p:P) (D:En),wS w pt s p D->∃f p',ex w pt s p=some (f,p')/\D.fl f p':=by
 induction s with
 | nil=>exact fun p D h=>⟨.nx,p,rfl,h⟩
 | seq a r ha hr =>
  intro p D h;obtain⟨f,p1,e,h⟩:=ha p _ h;show ∃f p',(ex w pt a p).bind _=_/\_;rw[e];cases f with
  | nx=>exact hr p1 D h
  | rt t=>exact⟨_,_,rfl,h⟩
  | bk=>exact⟨_,_,rfl,h⟩
  | ct=>exact⟨_,_,rfl,h⟩
 | ret a =>
  intro p D h;obtain⟨r,p1,e,h⟩:=Mj w a p _ h;exact⟨.rt r,p1,by show (ev w a p).map _=_;rw[e];rfl,h⟩
 | ex a =>
  intro p D h;obtain⟨r,p1,e,h⟩:=Mj w a p _ h;exact⟨.nx,p1,by show (ev w a p).map _=_;rw[e];rfl,h⟩
 | set i a =>
  intro p D h;by_cases hp:pt i=true
  .have h:(if pt i=true then False else _):=h;rw[if_pos hp]at h;exact h.elim
  .obtain⟨r,p1,e,h⟩:=Mj w a p _ (if_neg hp ▸ (show (if pt i=true then False else _) from h));exact⟨.nx,_,by show (if pt i=true then none else _)=_;rw[if_neg hp,e];rfl,h⟩
 | unp tg a =>
  intro p D h;by_cases hp:V3 pt tg=true
  .obtain⟨r,p1,e,h⟩:=Mj w a p _ (if_pos hp ▸ (show (if V3 pt tg=true then _ else False) from h));obtain⟨t,e2,h⟩:=De e h;obtain⟨p2,e3,h⟩:=Z9 h;exact⟨.nx,_,by show (if V3 pt tg=true then _ else none)=_;rw[if_pos hp,e2];show (asg tg t p1).map _=_;rw[e3];rfl,h⟩
  .have h:(if V3 pt tg=true then _ else False):=h;rw[if_neg hp]at h;exact h.elim
 | put i k a =>
  intro p D h;obtain⟨r,p1,e,h⟩:=Mj w a p _ h;obtain⟨t,e2,h⟩:=De e h
  split at h
  .rename_i hd
   obtain⟨r,p2,e3,h⟩:=Mj w k p1 _ h;obtain⟨kt,e4,h⟩:=De e3 h
   split at h
   .rename_i x exq
    obtain⟨x',e5,h⟩:=Z9 h;exact⟨.nx,_,by show (toT (ev w a p)).bind _=_;rw[e2];show (if done p1 i=true then (toT (ev w k p1)).bind _ else _)=_;rw[if_pos hd,e4];show (match p2[i]? with | some (.o t)=>_ | _=>_)=_;rw[exq];show (putAt x kt t).map _=_;rw[e5];rfl,h⟩
   .exact h.elim
  .exact h.elim
 | ite c a b ha hb =>
  intro p D h;obtain⟨r,p1,e,h⟩:=Mj w c p _ h;obtain⟨b',e2,h⟩:=D0 e h;show ∃f p',(Gj (ev w c p)).bind _=_/\_;rw[e2];cases b' with
  | true=>exact ha p1 D h
  | false=>exact hb p1 D h
 | loop tg it b hb =>
  intro p D h;by_cases hp:V3 pt tg=true
  .obtain⟨r,p1,e,h⟩:=Mj w it p _ (if_pos hp ▸ (show (if V3 pt tg=true then _ else False) from h));obtain⟨xs,e2,h⟩:=gq e h;show ∃f p',(if V3 pt tg=true then _ else none)=_/\_;rw[if_pos hp,e2]
   exact Lc (fun x p D h=>by
    obtain⟨s1,e3,h⟩:=Z9 h;rw[e3];exact hb s1 D h) xs p1 D h
  .have h:(if V3 pt tg=true then _ else False):=h;rw[if_neg hp]at h;exact h.elim
 | wh c b hb =>
  intro p D h
  exact Ek (fun p K h=>by
   obtain⟨r,p1,e,h⟩:=Mj w c p _ h;obtain⟨b',e2,h⟩:=D0 e h;exact⟨b',p1,e2,h⟩) (fun p D h=>hb p D h) _ p D h
 | pass=>exact fun p D h=>⟨.nx,p,rfl,h⟩
 | brk=>exact fun p D h=>⟨.bk,p,rfl,h⟩
 | cont=>exact fun p D h=>⟨.ct,p,rfl,h⟩
mutual
def IsT(K:W.Frag)(mg:ZV)(H F:Hp):T->V->Prop
 | .non,v=>v=.non
 | .bl b,v=>v=.bl b
 | .int i,v=>v=.int i
 | .str x,v=>v=.str x
 | .tup ts,v=>∃a vs,v=.ref a/\Vy K H a vs/\vs.length<=sizeLine/\Zq K mg H F ts vs
 | .lst ts,v=>∃a vs,v=.ref a/\Rd F a (.lst vs)/\vs.length<=sizeLine/\Zq K mg H F ts vs
 | .dct XB,v=>∃a ks,v=.ref a/\Rd F a (.dK ks)/\ks.length<=sizeLine/\Zn K mg H F XB ks
 | .fn x,v=>∃a,v=.ref a/\mg x=some (.ref a)
def Zq(K:W.Frag)(mg:ZV)(H F:Hp):ZZ->ZQ->Prop
 | [],vs=>vs=[]
 | t::ts,vs=>∃v r,vs=v::r/\IsT K mg H F t v/\Zq K mg H F ts r
def IsK(K:W.Frag)(mg:ZV)(H F:Hp):Key×T->Key×V->Prop
 | (k,t),q=>q.1=k/\IsT K mg H F t q.2
def Zn(K:W.Frag)(mg:ZV)(H F:Hp):ZX->List (Key×V)->Prop
 | [],ks=>ks=[]
 | p::ps,ks=>∃q r,ks=q::r/\IsK K mg H F p q/\Zn K mg H F ps r
end
def Le(F F':Hp):Prop:=∀a o,F a=some o->F' a=some o
theorem Le.refl(F:Hp):Le F F:=fun _ _ h=>h
theorem Le.trans{F F1 F2:Hp}(a:Le F F1)(b:Le F1 F2):Le F F2:=fun c u h=>b c u (a c u h)
structure nr(F F':Hp):Prop where
 l:∀a vs,Rd F a (.lst vs)->Rd F' a (.lst vs)
 d:∀a ks,Rd F a (.dK ks)->Rd F' a (.dK ks)
theorem Le.r{F F':Hp}(l:Le F F'):nr F F':=⟨fun a u h=>h.elim (fun h=>.inl (l a _ h)) fun⟨o,h⟩=>.inr ⟨o,l a _ h⟩,fun a u h=>h.elim (fun h=>.inl (l a _ h)) fun⟨o,h⟩=>.inr ⟨o,l a _ h⟩⟩
section
variable{K:W.Frag}{mg:ZV}{H H' F F':Hp}
mutual
theorem IsT.upR(u:Up K H H')(l:nr F F'):∀(t:T) (v:V),IsT K mg H F t v->IsT K mg H' F' t v
 | .non,_,h=>h
 | .bl _,_,h=>h
 | .int _,_,h=>h
 | .str _,_,h=>h
 | .tup ts,v,h=>by
  obtain⟨a,vs,e,q,z,r⟩:=h;exact⟨a,vs,e,u a vs q,z,Zq.upR u l ts vs r⟩
 | .lst ts,v,h=>by
  obtain⟨a,vs,e,q,z,r⟩:=h;exact⟨a,vs,e,l.l a _ q,z,Zq.upR u l ts vs r⟩
 | .dct XB,v,h=>by
  obtain⟨a,ks,e,q,z,r⟩:=h;exact⟨a,ks,e,l.d a _ q,z,Zn.upR u l XB ks r⟩
 | .fn x,_,h=>h
theorem Zq.upR(u:Up K H H')(l:nr F F'):∀(ts:ZZ) (vs:ZQ),Zq K mg H F ts vs->Zq K mg H' F' ts vs
 | [],_,h=>h
 | t::ts,vs,h=>by
  obtain⟨v,r,e,q,w⟩:=h;exact⟨v,r,e,IsT.upR u l t v q,Zq.upR u l ts r w⟩
theorem IsK.upR(u:Up K H H')(l:nr F F'):∀(p:Key×T) (q:Key×V),IsK K mg H F p q->IsK K mg H' F' p q
 | (k,t),q,h=>⟨h.1,IsT.upR u l t q.2 h.2⟩
theorem Zn.upR(u:Up K H H')(l:nr F F'):∀(ps:ZX) (ks:List (Key×V)),Zn K mg H F ps ks->Zn K mg H' F' ps ks
 | [],_,h=>h
 | p::ps,ks,h=>by
  obtain⟨q,r,e,i,w⟩:=h;exact⟨q,r,e,IsK.upR u l p q i,Zn.upR u l ps r w⟩
end
theorem IsT.up(u:Up K H H')(l:Le F F')(t:T)(v:V)(h:IsT K mg H F t v):IsT K mg H' F' t v:=IsT.upR u l.r t v h
theorem Zq.up(u:Up K H H')(l:Le F F')(t:ZZ)(v:ZQ)(h:Zq K mg H F t v):Zq K mg H' F' t v:=Zq.upR u l.r t v h
theorem Zn.up(u:Up K H H')(l:Le F F')(t:ZX)(v:List (Key×V))(h:Zn K mg H F t v):Zn K mg H' F' t v:=Zn.upR u l.r t v h
theorem Zq.length:∀{ts:ZZ} {vs:ZQ},Zq K mg H F ts vs->ts.length=vs.length
 | [],vs,h=>by
  cases(show vs=[] from h);rfl
 | t::ts,vs,h=>by
  obtain⟨v,r,rfl,_,w⟩:=h;simp only[D9,Zq.length w]
theorem Zn.length:∀{ts:ZX} {vs:List (Key×V)},Zn K mg H F ts vs->ts.length=vs.length
 | [],vs,h=>by
  cases(show vs=[] from h);rfl
 | t::ts,vs,h=>by
  obtain⟨v,r,rfl,_,w⟩:=h;simp only[D9,Zn.length w]
theorem Zq.get:∀{ts:ZZ} {vs:ZQ} {i:Nat} {t:T},Zq K mg H F ts vs->ts[i]?=some t->∃v,vs[i]?=some v/\IsT K mg H F t v
 | [],vs,i,t,_,e=>by simp at e
 | t::ts,vs,0,t',h,e=>by
  obtain⟨v,r,rfl,q,_⟩:=h;simp at e;subst e;exact⟨v,rfl,q⟩
 | t::ts,vs,i+1,t',h,e=>by
  obtain⟨v,r,rfl,_,w⟩:=h;obtain⟨v',e1,q⟩:=Zq.get (i:=i) w (by simpa using e);exact⟨v',by simpa using e1,q⟩
theorem Zq.append:∀{ts us:ZZ} {vs ws:ZQ},Zq K mg H F ts vs->Zq K mg H F us ws->Zq K mg H F (ts++us) (vs++ws)
 | [],us,vs,ws,h,h'=>by
  cases(show vs=[] from h);exact h'
 | t::ts,us,vs,ws,h,h'=>by
  obtain⟨v,r,rfl,q,w⟩:=h;exact⟨v,r++ws,rfl,q,Zq.append w h'⟩
theorem Zq.one{t:T}{v:V}(h:IsT K mg H F t v):Zq K mg H F [t] [v]:=⟨v,[],rfl,h,rfl⟩
theorem Zq.drop:∀{ts:ZZ} {vs:ZQ} (n:Nat),Zq K mg H F ts vs->Zq K mg H F (ts.drop n) (vs.drop n)
 | ts,vs,0,h=>h
 | [],vs,n+1,h=>by
  cases(show vs=[] from h);rfl
 | t::ts,vs,n+1,h=>by
  obtain⟨v,r,rfl,_,w⟩:=h;exact Zq.drop n w
theorem Zq.take:∀{ts:ZZ} {vs:ZQ} (n:Nat),Zq K mg H F ts vs->Zq K mg H F (ts.take n) (vs.take n)
 | ts,vs,0,_=>rfl
 | [],vs,n+1,h=>by
  cases(show vs=[] from h);rfl
 | t::ts,vs,n+1,h=>by
  obtain⟨v,r,rfl,q,w⟩:=h;exact⟨v,r.take n,rfl,q,Zq.take n w⟩
theorem Zq.set:∀{ts:ZZ} {vs:ZQ} (n:Nat) {t:T} {v:V},Zq K mg H F ts vs->IsT K mg H F t v->Zq K mg H F (ts.set n t) (vs.set n v)
 | [],vs,n,t,v,h,_=>by
  cases(show vs=[] from h);rfl
 | t::ts,vs,0,t',v',h,i=>by
  obtain⟨v,r,rfl,q,w⟩:=h;exact⟨v',r,rfl,i,w⟩
 | t::ts,vs,n+1,t',v',h,i=>by
  obtain⟨v,r,rfl,q,w⟩:=h;exact⟨v,r.set n v',rfl,q,Zq.set n w i⟩
end
def Rb(K:W.Frag)(mg:ZV)(H F:Hp)(a:Addr):T->Prop
 | .lst ts=>∃vs,H a=some (.lst vs)/\vs.length<=sizeLine/\Zq K mg H F ts vs
 | .dct XB=>∃ks,H a=some (.dK ks)/\ks.length<=sizeLine/\Zn K mg H F XB ks
 | _=>False
theorem Rb.up{K:W.Frag}{mg:ZV}{H H' F F':Hp}{a:Addr}{t:T}(u:Up K H H')(l:Le F F')(e:H' a=H a)(h:Rb K mg H F a t):Rb K mg H' F' a t:=by
 cases t with
 | lst ts =>
  obtain⟨vs,q,z,r⟩:=h;exact⟨vs,e.trans q,z,Zq.up u l ts vs r⟩
 | dct ts =>
  obtain⟨vs,q,z,r⟩:=h;exact⟨vs,e.trans q,z,Zn.up u l ts vs r⟩
 | _=>exact h.elim
structure Base(F G H:Hp):Prop where
 f:∀a o,F a=some o->H a=some o
 g:∀a o,G a=some o->H a=some o
 d:∀a,F a≠none->G a=none
 t:TB F G H
structure Rel(K:W.Frag)(mg:ZV)(F G:Hp)(p:P)(Z:L2.St)(H:Hp):Prop where
 b:Base F G H
 fz:∀(i:Nat) (t:T),p[i]?=some (Sl.f t)->∃v,Z[i]?=some (some v)/\IsT K mg H F t v
 ow:∀(i:Nat) (t:T),p[i]?=some (Sl.o t)->∃a,Z[i]?=some (some (V.ref a))/\F a=none/\G a=none/\Rb K mg H F a t
 ap:∀(i j:Nat) (t u:T) (a:Addr),p[i]?=some (Sl.o t)->p[j]?=some (Sl.o u)->Z[i]?=some (some (V.ref a))->Z[j]?=some (some (V.ref a))->i=j
 ln:p.length=Z.length
def Res(K:W.Frag)(mg:ZV)(F G:Hp)(p:P)(j:L2.St)(H:Hp)(r:Sl)(v:V):Prop:=match r with
 | .f t=>IsT K mg H F t v
 | .o t=>∃a,v=.ref a/\F a=none/\G a=none/\Rb K mg H F a t/\∀(i:Nat) (u:T),p[i]?=some (Sl.o u)->j[i]?≠some (some (V.ref a))
 | .no=>False
section
variable{K:W.Frag}{mg:ZV}{H H' F F' G:Hp}{p:P}{Z:L2.St}
theorem Le.lay{a:Addr}{o:HO}(h:F a=none):Le F (upd F a o):=Zl.lay h
theorem Base.rd(b:Base F G H){a:Addr}{u:HO}(r:Rd F a u):Rd H a u:=by
 rcases r with r | ⟨o,r⟩
 .exact .inl (b.f a _ r)
 .exact .inr ⟨o,b.f a _ r⟩
theorem Base.same(b:Base F G H)(s:Zl H H'):Base F G H':=⟨fun a o e=>s a o (b.f a o e),fun a o e=>s a o (b.g a o e),b.d,b.t.same s⟩
theorem Rb.some{a:Addr}{t:T}(h:Rb K mg H F a t):∃o,H a=some o:=by
 cases t with
 | lst ts=>obtain⟨vs,q,_⟩:=h;exact⟨_,q⟩
 | dct ts=>obtain⟨vs,q,_⟩:=h;exact⟨_,q⟩
 | _=>exact h.elim
theorem Rb.pln{a:Addr}{t:T}{o:HO}(h:Rb K mg H F a t)(e:H a=Option.some o):Pln o:=by
 cases t with
 | lst ts=>obtain⟨vs,q,_⟩:=h;rw[q]at e;cases e;exact y8
 | dct ts=>obtain⟨vs,q,_⟩:=h;rw[q]at e;cases e;exact Ap
 | _=>exact h.elim
theorem Rb.ne{a:Addr}{t:T}{T:TP}(h:Rb K mg H F a t)(tb:Tb T H):a≠T.P:=let ⟨_,e⟩:=h.some;tb.ne e (h.pln e)
theorem Rb.same{a:Addr}{t:T}(h:Rb K mg H F a t)(s:Zl H H')(l:Le F F'):Rb K mg H' F' a t:=by
 obtain⟨o,e⟩:=h.some;exact h.up s.up l ((s a o e).trans e.symm)
theorem Rel.same(r:Rel K mg F G p Z H)(s:Zl H H'):Rel K mg F G p Z H' :=
 ⟨r.b.same s,fun i t e=>let ⟨v,h1,h2⟩:=r.fz i t e;⟨v,h1,IsT.up s.up (Le.refl F) t v h2⟩,fun i t e=>let ⟨a,h1,h2,h3,h4⟩:=r.ow i t e;⟨a,h1,h2,h3,h4.same s (Le.refl F)⟩,r.ap,r.ln⟩
theorem Cg{a:Addr}{t:T}{o:HO}(h:Rb K mg H F a t)(e:H a=some o)(l:Le F F')(q:F' a=some o):IsT K mg H F' t (.ref a):=by
 cases t with
 | lst ts =>
  obtain⟨vs,q1,z,r⟩:=h;rw[q1]at e;cases e;exact⟨a,vs,rfl,.inl q,z,Zq.up (Up.refl H) l ts vs r⟩
 | dct ts =>
  obtain⟨vs,q1,z,r⟩:=h;rw[q1]at e;cases e;exact⟨a,vs,rfl,.inl q,z,Zn.up (Up.refl H) l ts vs r⟩
 | _=>exact h.elim
theorem Rel.freeze(r:Rel K mg F G p Z H){a:Addr}{t:T}(fa:F a=none)(ga:G a=none)(h:Rb K mg H F a t)(ha:∀(i:Nat) (u:T),p[i]?=some (Sl.o u)->Z[i]?≠some (some (V.ref a))):∃F',Le F F'/\Rel K mg F' G p Z H/\IsT K mg H F' t (.ref a):=by
 obtain⟨o,e⟩:=h.some;have l:Le F (upd F a o):=Le.lay fa;refine⟨upd F a o,l,⟨⟨fun b u q=>?_,r.b.g,fun b q=>?_,fun T e=>let ⟨f1,g1,t1⟩:=r.b.t T e;⟨by rw[Zz (h.ne t1).symm];exact f1,g1,t1⟩⟩,fun i t e=>let ⟨v,h1,h2⟩:=r.fz i t e;⟨v,h1,IsT.up (Up.refl H) l t v h2⟩,fun i u q=>?_,r.ap,r.ln⟩,Cg h e l Zx⟩
 .by_cases z:b=a
  .subst z;rw[Zx]at q;cases q;exact e
  .rw[Zz z]at q;exact r.b.f b u q
 .by_cases z:b=a
  .subst z;exact ga
  .rw[Zz z]at q;exact r.b.d b q
 .obtain⟨b,h1,h2,h3,h4⟩:=r.ow i u q;have n:b≠a:=fun z=>by subst z;exact ha i u q h1
  exact⟨b,h1,by rw[Zz n];exact h2,h3,h4.same (Zl.refl H) l⟩
theorem Za{p:P}{i j:Nat}{s u:Sl}(h:(p.set i s)[j]?=some u):(j=i/\u=s)\/(j≠i/\p[j]?=some u):=by
 by_cases e:i=j
 .subst e;rw[List.getElem?_set_self']at h;cases q:p[i]? with
  | none=>rw[q]at h;cases h
  | some x=>rw[q]at h;exact .inl ⟨rfl,(Dp h).symm⟩
 .rw[List.getElem?_set_ne e]at h;exact .inr ⟨fun z=>e z.symm,h⟩
theorem Rel.drop(r:Rel K mg F G p Z H)(i:Nat):Rel K mg F G (p.set i .no) Z H :=
 ⟨r.b,fun j t e=>by
  rcases Za e with ⟨_,z⟩ | ⟨_,e⟩
  .cases z
  .exact r.fz j t e,fun j t e=>by
  rcases Za e with ⟨_,z⟩ | ⟨_,e⟩
  .cases z
  .exact r.ow j t e,fun j k t u a e1 e2=>by
  rcases Za e1 with ⟨_,z⟩ | ⟨_,e1⟩
  .cases z
  rcases Za e2 with ⟨_,z⟩ | ⟨_,e2⟩
  .cases z
  exact r.ap j k t u a e1 e2,by rw[XY];exact r.ln⟩
theorem Rel.know(r:Rel K mg F G p Z H){i:Nat}{t:T}{v:V}(hv:Z[i]?=some (some v))(h:IsT K mg H F t v):Rel K mg F G (p.set i (.f t)) Z H :=
 ⟨r.b,fun j u e=>by
  rcases Za e with ⟨z,y⟩ | ⟨_,e⟩
  .cases y;subst z;exact⟨v,hv,h⟩
  .exact r.fz j u e,fun j t e=>by
  rcases Za e with ⟨_,z⟩ | ⟨_,e⟩
  .cases z
  .exact r.ow j t e,fun j k t u a e1 e2=>by
  rcases Za e1 with ⟨_,z⟩ | ⟨_,e1⟩
  .cases z
  rcases Za e2 with ⟨_,z⟩ | ⟨_,e2⟩
  .cases z
  exact r.ap j k t u a e1 e2,by rw[XY];exact r.ln⟩
theorem Rel.freezeAt(r:Rel K mg F G p Z H){i:Nat}{t:T}(e:p[i]?=some (Sl.o t)):∃F' v,Le F F'/\Rel K mg F' G (p.set i (.f t)) Z H/\Z[i]?=some (some v)/\IsT K mg H F' t v:=by
 obtain⟨a,h1,h2,h3,h4⟩:=r.ow i t e
 obtain⟨F',l,r',h⟩:=(r.drop i).freeze h2 h3 h4 fun j u q z=>by
  rcases Za q with ⟨_,y⟩ | ⟨n,q⟩
  .cases y
  .exact n (r.ap j i u t a q e z h1)
 have r2:=r'.know (i:=i) h1 h;rw[List.set_set]at r2;exact⟨F',_,l,r2,h1,h⟩
theorem Rel.thaw(r:Rel K mg F G p Z H){s:Sl}{t:T}{v:V}(e:PV.thaw s=some t)(h:Res K mg F G p Z H s v):∃F',Le F F'/\Rel K mg F' G p Z H/\IsT K mg H F' t v:=by
 cases s with
 | no=>cases e
 | f u=>cases e;exact⟨F,Le.refl F,r,h⟩
 | o u =>
  cases e;obtain⟨a,rfl,h1,h2,h3,h4⟩:=h;exact r.freeze h1 h2 h3 h4
theorem Rel.newL(r:Rel K mg F G p Z H){l:Addr}{ts:ZZ}{vs:ZQ}(hl:H l=none)(z:vs.length<=sizeLine)(h:Zq K mg H F ts vs):Rel K mg F G p Z (upd H l (.lst vs))/\Res K mg F G p Z (upd H l (.lst vs)) (.o (.lst ts)) (.ref l):=by
 have s:Zl H (upd H l (.lst vs)):=Zl.lay hl;refine⟨r.same s,l,rfl, ?_, ?_,⟨vs,Zx,z,Zq.up s.up (Le.refl F) ts vs h⟩,fun i u e q=>?_⟩
 .cases q:F l with
  | none=>rfl
  | some o=>rw[r.b.f l o q]at hl;cases hl
 .cases q:G l with
  | none=>rfl
  | some o=>rw[r.b.g l o q]at hl;cases hl
 .obtain⟨b,h1,_,_,h4⟩:=r.ow i u e;rw[h1]at q;cases q;obtain⟨o,h5⟩:=h4.some;rw[h5]at hl;cases hl
theorem Rel.newD(r:Rel K mg F G p Z H){l:Addr}{ts:ZX}{vs:List (Key×V)}(hl:H l=none)(z:vs.length<=sizeLine)(h:Zn K mg H F ts vs):Rel K mg F G p Z (upd H l (.dK vs))/\Res K mg F G p Z (upd H l (.dK vs)) (.o (.dct ts)) (.ref l):=by
 have s:Zl H (upd H l (.dK vs)):=Zl.lay hl;refine⟨r.same s,l,rfl, ?_, ?_,⟨vs,Zx,z,Zn.up s.up (Le.refl F) ts vs h⟩,fun i u e q=>?_⟩
 .cases q:F l with
  | none=>rfl
  | some o=>rw[r.b.f l o q]at hl;cases hl
 .cases q:G l with
  | none=>rfl
  | some o=>rw[r.b.g l o q]at hl;cases hl
 .obtain⟨b,h1,_,_,h4⟩:=r.ow i u e;rw[h1]at q;cases q;obtain⟨o,h5⟩:=h4.some;rw[h5]at hl;cases hl
end
def Ar(K:W.Frag)(mg:ZV)(F:Hp)(j:L2.St)(H:Hp):A->V->Prop
 | .t t,v=>IsT K mg H F t v
 | .s i,v=>j[i]?=some (some v)
abbrev Ars(K:W.Frag)(mg:ZV)(F:Hp)(j:L2.St)(H:Hp):List A->ZQ->Prop:=Paired (Ar K mg F j H)
def Nw(K:W.Frag)(mg:ZV)(H F:Hp):T->V->Prop
 | .lst ts,v=>∃a vs,v=.ref a/\Rd H a (.lst vs)/\vs.length<=sizeLine/\Zq K mg H F ts vs
 | .dct XB,v=>∃a ks,v=.ref a/\Rd H a (.dK ks)/\ks.length<=sizeLine/\Zn K mg H F XB ks
 | t,v=>IsT K mg H F t v
section
variable{K:W.Frag}{mg:ZV}{H H' F F' G:Hp}{p:P}{j:L2.St}
theorem Ar.up(u:Up K H H')(l:Le F F'){a:A}{v:V}(h:Ar K mg F j H a v):Ar K mg F' j H' a v:=by
 cases a with
 | t t=>exact IsT.up u l t v h
 | s i=>exact h
theorem Ars.up(u:Up K H H')(l:Le F F'):∀{as:List A} {vs:ZQ},Ars K mg F j H as vs->Ars K mg F' j H' as vs
 | _,_,.nil=>.nil
 | _,_,.cons r t=>.cons (Ar.up u l r) (Ars.up u l t)
theorem Ei(b:Base F G H){t:T}{v:V}(h:IsT K mg H F t v):Nw K mg H F t v:=by
 cases t with
 | lst ts=>obtain⟨a,vs,e,q,z,r⟩:=h;exact⟨a,vs,e,b.rd q,z,r⟩
 | dct ts=>obtain⟨a,vs,e,q,z,r⟩:=h;exact⟨a,vs,e,b.rd q,z,r⟩
 | _=>exact h
theorem uw{a:Addr}{t:T}(h:Rb K mg H F a t):Nw K mg H F t (.ref a):=by
 cases t with
 | lst ts=>obtain⟨vs,q,z,r⟩:=h;exact⟨a,vs,rfl,.inl q,z,r⟩
 | dct ts=>obtain⟨vs,q,z,r⟩:=h;exact⟨a,vs,rfl,.inl q,z,r⟩
 | _=>exact h.elim
theorem Rel.look(r:Rel K mg F G p j H){a:A}{v:V}{t:T}(e:PV.look p a=some t)(h:Ar K mg F j H a v):Nw K mg H F t v:=by
 cases a with
 | t u=>cases e;exact Ei r.b h
 | s i =>
  unfold PV.look at e;dsimp only at e
  split at e
  .rename_i u q
   cases e;obtain⟨v',h1,h2⟩:=r.fz i _ q;have:v'=v:=Dp (Dp (h1.symm.trans h));subst this;exact Ei r.b h2
  .rename_i u q
   cases e;obtain⟨a,h1,_,_,h2⟩:=r.ow i _ q;have:V.ref a=v:=Dp (Dp (h1.symm.trans h));subst this;exact uw h2
  .cases e
theorem Rel.looks(r:Rel K mg F G p j H):∀{as:List A} {vs:ZQ} {ts:ZZ},PV.looks p as=some ts->Ars K mg F j H as vs->Paired (Nw K mg H F) ts vs
 | [],_,ts,e,.nil=>by cases e;exact .nil
 | a::as,_,ts,e,.cons h t=>by
  unfold PV.looks at e;cases e1:PV.look p a with
  | none=>rw[e1]at e;cases e
  | some u =>
   rw[e1]at e;have e:(PV.looks p as).map (u::·)=some ts:=e;cases e2:PV.looks p as with
   | none=>rw[e2]at e;cases e
   | some us =>
    rw[e2]at e;cases e;exact .cons (r.look e1 h) (r.looks e2 t)
end
section
theorem Gs:∀{as:List A} {p:P} {sl:List Sl},args p as=some sl->sl.length=as.length
 | [],p,sl,e=>by cases e;rfl
 | .t t::r,p,sl,e=>by
  unfold args at e;cases q:args p r with
  | none=>rw[q]at e;cases e
  | some x=>rw[q]at e;cases e;simp[Gs q]
 | .s i::r,p,sl,e=>by
  unfold args at e
  split at e
  .cases q:args (p.set i .no) r with
   | none=>rw[q]at e;cases e
   | some x=>rw[q]at e;cases e;simp[Gs q]
  .cases e
theorem K9:∀{as:List A} {p:P} {sl:List Sl} {j:Nat} {t:T},args p as=some sl->as[j]?=some (.t t)->sl[j]?=some (.f t)
 | [],p,sl,j,t,e,h=>by simp at h
 | .t u::r,p,sl,j,t,e,h=>by
  unfold args at e;cases q:args p r with
  | none=>rw[q]at e;cases e
  | some x =>
   rw[q]at e;cases e;cases j with
   | zero=>simp at h;subst h;rfl
   | succ j=>simpa using K9 (j:=j) q (by simpa using h)
 | .s i::r,p,sl,j,t,e,h=>by
  unfold args at e
  split at e
  .cases q:args (p.set i .no) r with
   | none=>rw[q]at e;cases e
   | some x =>
    rw[q]at e;cases e;cases j with
    | zero=>simp at h
    | succ j=>simpa using K9 (j:=j) q (by simpa using h)
  .cases e
theorem Gr:∀{as:List A} {p:P} {sl:List Sl} {j i:Nat},args p as=some sl->as[j]?=some (.s i)->∃t,p[i]?=some (Sl.o t)/\sl[j]?=some (.o t)
 | [],p,sl,j,t,e,h=>by simp at h
 | .t u::r,p,sl,j,i,e,h=>by
  unfold args at e;cases q:args p r with
  | none=>rw[q]at e;cases e
  | some x =>
   rw[q]at e;cases e;cases j with
   | zero=>simp at h
   | succ j=>simpa using Gr (j:=j) q (by simpa using h)
 | .s k::r,p,sl,j,i,e,h=>by
  unfold args at e
  split at e
  .rename_i u hu
   cases q:args (p.set k .no) r with
   | none=>rw[q]at e;cases e
   | some x =>
    rw[q]at e;cases e;cases j with
    | zero=>simp at h;subst h;exact⟨u,hu,rfl⟩
    | succ j =>
     obtain⟨t,h1,h2⟩:=Gr (j:=j) q (by simpa using h);rcases Za h1 with ⟨_,z⟩ | ⟨_,h1⟩
     .cases z
     .exact⟨t,h1,by simpa using h2⟩
  .cases e
theorem Jq:∀{as:List A} {p:P} {sl:List Sl} {j k i:Nat},args p as=some sl->as[j]?=some (.s i)->as[k]?=some (.s i)->j=k
 | [],p,sl,j,k,i,e,h,_=>by simp at h
 | .t u::r,p,sl,j,k,i,e,h,h'=>by
  unfold args at e;cases q:args p r with
  | none=>rw[q]at e;cases e
  | some x =>
   cases j with
   | zero=>simp at h
   | succ j =>
    cases k with
    | zero=>simp at h'
    | succ k=>rw[Jq (j:=j) (k:=k) q (by simpa using h) (by simpa using h')]
 | .s l::r,p,sl,j,k,i,e,h,h'=>by
  unfold args at e
  split at e
  .cases q:args (p.set l .no) r with
   | none=>rw[q]at e;cases e
   | some x =>
    have no:∀{m:Nat},r[m]?=some (A.s i)->l≠i:=fun {m} hm z=>by
     subst z;obtain⟨t,h1,_⟩:=Gr (j:=m) q hm;rcases Za h1 with ⟨_,z⟩ | ⟨z,_⟩
     .cases z
     .exact z rfl
    cases j with
    | zero =>
     cases k with
     | zero=>rfl
     | succ k =>
      simp at h;exact absurd h (no (m:=k) (by simpa using h'))
    | succ j =>
     cases k with
     | zero =>
      simp at h';exact absurd h' (no (m:=j) (by simpa using h))
     | succ k=>rw[Jq (j:=j) (k:=k) q (by simpa using h) (by simpa using h')]
  .cases e
theorem Tr:∀{as:List A} {p p0 p2:P} {sl:List Sl} {ts:ZZ},args p0 as=some sl->outs p as ts=some p2 ->
  p2.length=p.length/\(∀i:Nat,A.s i ∉ as->p2[i]?=p[i]?)/\(∀j i:Nat,as[j]?=some (A.s i)->i<p.length->(∀k:Nat,as[k]?=some (A.s i)->k=j)->∃t,p2[i]?=some (mkO t)/\(Rt sl ts)[j]?=some (mkO t))/\∀(j:Nat) (t:T),as[j]?=some (A.t t)->(Rt sl ts)[j]?=some (Sl.f t)
 | [],p,p0,p2,sl,ts,e,h=>by
  cases e;cases ts with
  | nil=>cases h;exact⟨rfl,fun _ _=>rfl,fun j i h=>by simp at h,fun j t h=>by simp at h⟩
  | cons t ts=>cases h
 | .t u::r,p,p0,p2,sl,ts,e,h=>by
  unfold args at e;cases q:args p0 r with
  | none=>rw[q]at e;cases e
  | some x =>
   rw[q]at e;cases e;have h:outs p r ts=some p2:=by cases ts<;>exact h
   obtain⟨h1,h2,h3,h4⟩:=Tr q h;have eu:Rt (.f u::x) ts=.f u::Rt x ts:=by cases ts<;>rfl
   refine⟨h1,fun i m=>h2 i fun z=>m (Vb _ z),fun j i hj hi hu=>?_,fun j t hj=>?_⟩
   .cases j with
    | zero=>simp at hj
    | succ j =>
     obtain⟨t,a1,a2⟩:=h3 j i (by simpa using hj) hi fun k hk=>by have:=hu (k+1) (by simpa using hk);omega
     exact⟨t,a1,by rw[eu];simpa using a2⟩
   .rw[eu];cases j with
    | zero=>simp at hj;subst hj;rfl
    | succ j=>simpa using h4 j t (by simpa using hj)
 | .s l::r,p,p0,p2,sl,ts,e,h=>by
  unfold args at e
  split at e
  .rename_i u hu0
   cases q:args (p0.set l .no) r with
   | none=>rw[q]at e;cases e
   | some x =>
    rw[q]at e;cases e;cases ts with
    | nil=>cases h
    | cons t ts =>
     have h:outs (p.set l (mkO t)) r ts=some p2:=h;obtain⟨h1,h2,h3,h4⟩:=Tr q h;rw[XY]at h1;refine⟨h1,fun i m=>?_,fun j i hj hi hu=>?_,fun j v hj=>?_⟩
     .rw[h2 i fun z=>m (Vb _ z),List.getElem?_set_ne fun z=>m (by rw[z];exact Vk)]
     .cases j with
      | zero =>
       simp at hj;subst hj
       have no:A.s l ∉ r:=fun z=>by
        obtain⟨k,hk⟩:=List.getElem?_of_mem z;have:=hu (k+1) (by simpa using hk);omega
       exact⟨t,by rw[h2 l no,List.getElem?_set_self hi],rfl⟩
      | succ j =>
       obtain⟨v,a1,a2⟩:=h3 j i (by simpa using hj) (by rw[XY];exact hi) fun k hk=>by have:=hu (k+1) (by simpa using hk);omega
       exact⟨v,a1,a2⟩
     .cases j with
      | zero=>simp at hj
      | succ j=>exact h4 j v (by simpa using hj)
  .cases e
end
def spC(K:W.Frag)(mg:ZV)(n:Nat)(c:List Sl->Option (Sl×ZZ)):Sp:=fun vs H Q _=>vs.length=n/\∃F G as r,c as=some r/\Rel K mg F G as (vs.map some) H /\
 ∀F' H' v,Le F F'->Up K H H'->Rel K mg F' G (Rt as r.2) (vs.map some) H'->Res K mg F' G (Rt as r.2) (vs.map some) H' r.1 v->Q v H'
section
variable{K:W.Frag}{mg:ZV}{H F G:Hp}{p:P}{Z:L2.St}
theorem Jf{j Z:Type}{R:j->Z->Prop}:∀{xs:List j} {ys:List Z} {i:Nat} {x:j},Paired R xs ys->xs[i]?=some x->∃y,ys[i]?=some y/\R x y
 | _,_,_,_,.nil,e=>by simp at e
 | _,_,0,_,.cons r _,e=>by simp at e;subst e;exact⟨_,rfl,r⟩
 | _,_,i+1,x,.cons _ t,e=>by
  obtain⟨u,h1,h2⟩:=Jf (i:=i) (x:=x) t (by simpa using e);exact⟨u,by simpa using h1,h2⟩
open Classical in
theorem Rel.call(r:Rel K mg F G p Z H){as:List A}{vs:ZQ}{sl:List Sl}(ha:Ars K mg F Z H as vs)(es:args p as=some sl){c:List Sl->Option (Sl×ZZ)}{rr:Sl×ZZ}(ec:c sl=some rr){p2:P}(eo:outs p as rr.2=some p2){n:Nat}(hn:vs.length=n){Q:VK}{E:XK}
  (q:∀F' H' v,Le F F'->Up K H H'->Rel K mg F' G p2 Z H'->Res K mg F' G p2 Z H' rr.1 v->Q v H'):spC K mg n c vs H Q E:=by
 have al:=Gs es;have vl:as.length=vs.length:=Paired.length ha
 let G':Hp:=fun a=>if ∃(i:Nat) (t:T),p[i]?=some (Sl.o t)/\Z[i]?=some (some (V.ref a))/\A.s i ∉ as then H a else G a
 have gIn:∀{a:Addr} {i:Nat} {t:T},p[i]?=some (Sl.o t)->Z[i]?=some (some (V.ref a))->A.s i ∉ as->G' a=H a:=fun {a i t} h1 h2 h3=>if_pos ⟨i,t,h1,h2,h3⟩;have Mu:∀{a:Addr},(¬ ∃(i:Nat) (t:T),p[i]?=some (Sl.o t)/\Z[i]?=some (some (V.ref a))/\A.s i ∉ as)->G' a=G a:=fun {a} h=>if_neg h
 have gOf:∀{a:Addr} {o:HO},G a=some o->G' a=some o:=fun {a o} h=>by
  refine(Mu fun⟨i,t,h1,h2,_⟩=>?_).trans h;obtain⟨b,h3,_,h4,_⟩:=r.ow i t h1;rw[h2]at h3;cases h3;rw[h]at h4;cases h4
 have gNo:∀{a:Addr},G' a=none->G a=none:=fun {a} h=>by
  cases e:G a with
  | none=>rfl
  | some o=>rw[gOf e]at h;cases h
 have arg:∀{j:Nat} {s:Sl},sl[j]?=some s->∃v,vs[j]?=some v/\((∃t,s=.f t/\as[j]?=some (.t t)/\IsT K mg H F t v)\/∃(i:Nat) (t:T),s=.o t/\as[j]?=some (.s i)/\p[i]?=some (Sl.o t)/\Z[i]?=some (some v)):=fun {j s} hs=>by
  have hj:j<as.length:=by rw[<-al];exact(B3.mp hs).1
  obtain⟨a,hae⟩:∃a,as[j]?=some a:=⟨_,Mz hj⟩;obtain⟨v,hv,hr⟩:=Jf ha hae;refine⟨v,hv, ?_⟩;cases a with
  | t t =>
   have:=K9 es hae;rw[hs]at this;cases this;exact .inl ⟨t,rfl,hae,hr⟩
  | s i =>
   obtain⟨t,h1,h2⟩:=Gr es hae;rw[hs]at h2;cases h2;exact .inr ⟨i,t,rfl,hae,h1,hr⟩
 have vsome:∀{j:Nat} {v:V},vs[j]?=some v->(vs.map some)[j]?=some (some v):=fun {j v} h=>by rw[B4,h];rfl
 have r0:Rel K mg F G' sl (vs.map some) H:=by
  refine⟨⟨r.b.f,fun a o e=>?_,fun a e=>?_,fun T e=>let ⟨f1,g1,t1⟩:=r.b.t T e;⟨f1,(Mu fun⟨i,t,h1,h2,_⟩=>by
   obtain⟨b,h3,_,_,h4⟩:=r.ow i t h1;rw[h2]at h3;cases h3;exact h4.ne t1 rfl).trans g1,t1⟩⟩,fun j t e=>?_,fun j t e=>?_,fun j k t u a e1 e2 h1 h2=>?_,by rw[Z0,al,vl]⟩
  .by_cases h:∃(i:Nat) (t:T),p[i]?=some (Sl.o t)/\Z[i]?=some (some (V.ref a))/\A.s i ∉ as
   .obtain⟨i,t,h1,h2,h3⟩:=h;rw[gIn h1 h2 h3]at e;exact e
   .rw[Mu h]at e;exact r.b.g a o e
  .refine(Mu fun⟨i,t,h1,h2,_⟩=>?_).trans (r.b.d a e);obtain⟨b,h3,h4,_⟩:=r.ow i t h1;rw[h2]at h3;cases h3;exact e h4
  .obtain⟨v,hv,⟨t',et,_,it⟩ | ⟨i,t',et,_⟩⟩:=arg e
   .cases et;exact⟨v,vsome hv,it⟩
   .cases et
  .obtain⟨v,hv,⟨t',et,_,it⟩ | ⟨i,t',et,hj,hp,hσ⟩⟩:=arg e
   .cases et
   .cases et;obtain⟨a,h1,h2,h3,h4⟩:=r.ow i t hp;rw[hσ]at h1;cases h1;refine⟨a,vsome hv,h2, ?_,h4⟩;refine(Mu fun⟨k,u,q1,q2,q3⟩=>?_).trans h3;have:=r.ap k i u t a q1 hp q2 hσ;subst this;exact q3 (List.mem_of_getElem? hj)
  .obtain⟨v,hv,⟨t',et,_,it⟩ | ⟨i,t',et,hj,hp,hσ⟩⟩:=arg e1
   .cases et
   obtain⟨v',bp,⟨t',et',_,it⟩ | ⟨i',t'',et',hj',hp',hσ'⟩⟩:=arg e2
   .cases et'
   rw[vsome hv]at h1;cases h1;rw[vsome bp]at h2;cases h2;have:=r.ap i i' t' t'' a hp hp' hσ hσ';subst this;exact Jq es hj hj'
 refine⟨hn,F,G',sl,rr,ec,r0,fun F' H' v l u r' rs=>q F' H' v l u ?_ ?_⟩
 .obtain⟨o1,o2,o3,o4⟩:=Tr es eo
  have kept:∀{i:Nat} {t:T} {a:Addr},p[i]?=some (Sl.o t)->Z[i]?=some (some (V.ref a))->A.s i ∉ as->F' a=none/\Rb K mg H' F' a t:=fun {i t a} h1 h2 h3=>by
   obtain⟨b,h4,h5,h6,h7⟩:=r.ow i t h1;rw[h2]at h4;cases h4;obtain⟨o,ho⟩:=h7.some;have g1:G' a=some o:=(gIn h1 h2 h3).trans ho;refine⟨?_,h7.up u l ((r'.b.g a o g1).trans ho.symm)⟩;cases e:F' a with
   | none=>rfl
   | some x =>
    have:=r'.b.d a (by rw[e];exact fun z=>nomatch z);rw[g1]at this;cases this
  have lent:∀{i:Nat} {t:T},p2[i]?=some (Sl.o t)->A.s i∈as->∃(a:Addr) (j:Nat),Z[i]?=some (some (V.ref a))/\as[j]?=some (A.s i)/\(Rt sl rr.2)[j]?=some (Sl.o t)/\(vs.map some)[j]?=some (some (V.ref a))/\G a=none:=fun {i t} h1 h2=>by
   obtain⟨j,hj⟩:=List.getElem?_of_mem h2;obtain⟨x,hx,_⟩:=Gr es hj;obtain⟨y,hy1,hy2⟩:=o3 j i hj (B3.mp hx).1 fun k hk=>Jq es hk hj;rw[h1]at hy1;rw[<-Dp hy1]at hy2;obtain⟨v,hv,hσ⟩:=Jf ha hj;obtain⟨a,q1,q2,q3,q4⟩:=r.ow i x hx;rw[show Z[i]?=some (some v) from hσ]at q1;cases q1;exact⟨a,j,hσ,hj,hy2,vsome hv,q3⟩
  refine⟨⟨r'.b.f,fun a o e=>r'.b.g a o (gOf e),fun a e=>gNo (r'.b.d a e),fun T e=>⟨(r'.b.t T e).f,(r.b.t T e).g,(r'.b.t T e).h⟩⟩,fun i t e=>?_,fun i t e=>?_,fun i j t t' a e1 e2 h1 h2=>?_,by rw[o1];exact r.ln⟩
  .by_cases m:A.s i∈as
   .obtain⟨j,hj⟩:=List.getElem?_of_mem m;obtain⟨x,hx,_⟩:=Gr es hj;obtain⟨y,hy1,hy2⟩:=o3 j i hj (B3.mp hx).1 fun k hk=>Jq es hk hj;rw[e]at hy1;exact absurd (Dp hy1).symm mkO_f
   .rw[o2 i m]at e;obtain⟨v,h1,h2⟩:=r.fz i t e;exact⟨v,h1,IsT.up u l t v h2⟩
  .by_cases m:A.s i∈as
   .obtain⟨a,j,h1,h2,h3,h4,h5⟩:=lent e m;obtain⟨b,q1,q2,q3,q4⟩:=r'.ow j t h3;rw[h4]at q1;cases q1;exact⟨a,h1,q2,h5,q4⟩
   .rw[o2 i m]at e;obtain⟨a,h1,h2,h3,h4⟩:=r.ow i t e;obtain⟨k1,k2⟩:=kept e h1 m;exact⟨a,h1,k1,h3,k2⟩
  .have own:∀{i:Nat} {t:T},p2[i]?=some (Sl.o t)->∃t',p[i]?=some (Sl.o t'):=fun {i t} h=>by
    by_cases m:A.s i∈as
    .obtain⟨j,hj⟩:=List.getElem?_of_mem m;obtain⟨x,hx,_⟩:=Gr es hj;exact⟨x,hx⟩
    .rw[o2 i m]at h;exact⟨t,h⟩
   obtain⟨x,hx⟩:=own e1;obtain⟨y,hy⟩:=own e2;exact r.ap i j x y a hx hy h1 h2
 .cases hr:rr.1 with
  | no=>rw[hr]at rs;exact rs
  | f t=>rw[hr]at rs;exact rs
  | o t =>
   rw[hr]at rs;obtain⟨a,rfl,h1,h2,h3,h4⟩:=rs;obtain⟨o1,o2,o3,o4⟩:=Tr es eo;refine⟨a,rfl,h1,gNo h2,h3,fun i t e hσ=>?_⟩;by_cases m:A.s i∈as
   .obtain⟨j,hj⟩:=List.getElem?_of_mem m;obtain⟨x,hx,_⟩:=Gr es hj;obtain⟨y,hy1,hy2⟩:=o3 j i hj (B3.mp hx).1 fun k hk=>Jq es hk hj;obtain⟨v,hv,hs⟩:=Jf ha hj;rw[show Z[i]?=some (some v) from hs]at hσ;cases hσ;rw[e]at hy1;rw[<-Dp hy1]at hy2;exact h4 j t hy2 (vsome hv)
   .rw[o2 i m]at e;obtain⟨b,q1,q2,q3,q4⟩:=r.ow i t e;rw[hσ]at q1;cases q1;obtain⟨o,ho⟩:=q4.some;rw[gIn e hσ m,ho]at h2;cases h2
end
theorem PE.imp{X:Cx}{e:Expr}{t t':TE}(h:PE X e t)(f:∀j H Q,t' j H Q->t j H Q):PE X e t':=fun XF s j H Q I q=>h XF s j H Q I (f j H Q q)
inductive LE_I(K:PySem.W.Frag)(mg:ZV)(w:W)(e:E)(j:L2.St)(H:Hp)(Q:VK):Prop
 | mk(F G p r p')(Vj:Rel K mg F G p j H)(Vq:ev w e p=some (r,p'))(Jd:∀F' H' v,Le F F'->Up K H H'->Rel K mg F' G p' j H'->Res K mg F' G p' j H' r v->Q v H'):LE_I K mg w e j H Q
def LE(K:PySem.W.Frag)(mg:ZV)(w:W)(e:E):TE:=fun j H Q=>LE_I K mg w e j H Q
inductive LA_I(K:PySem.W.Frag)(mg:ZV)(w:W)(m:Bool)(e:E)(j:L2.St)(H:Hp)(Q:(ZQ->Hp->Prop)):Prop
 | mk(F G p as p')(Vj:Rel K mg F G p j H)(Vq:Jn w m e p=some (as,p'))(Jd:∀F' H' vs,Le F F'->Up K H H'->Rel K mg F' G p' j H'->Ars K mg F' j H' as vs->Q vs H'):LA_I K mg w m e j H Q
def LA(K:PySem.W.Frag)(mg:ZV)(w:W)(m:Bool)(e:E):TA:=fun j H Q=>LA_I K mg w m e j H Q
inductive LH_I(K:PySem.W.Frag)(mg:ZV)(w:W)(m:Bool)(e:E)(j:L2.St)(H:Hp)(Q:VK):Prop
 | mk(F G p a p')(Vj:Rel K mg F G p j H)(Vq:P7 m e p (toT (ev w e p))=some (a,p'))(Jd:∀F' H' v,Le F F'->Up K H H'->Rel K mg F' G p' j H'->Ar K mg F' j H' a v->Q v H'):LH_I K mg w m e j H Q
def LH(K:PySem.W.Frag)(mg:ZV)(w:W)(m:Bool)(e:E):TE:=fun j H Q=>LH_I K mg w m e j H Q
inductive LB_I(K:PySem.W.Frag)(mg:ZV)(w:W)(e:E)(j:L2.St)(H:Hp)(Q:(Bool->Hp->Prop)):Prop
 | mk(F G p b p')(Vj:Rel K mg F G p j H)(Vq:Gj (ev w e p)=some (b,p'))(Jd:∀F' H',Le F F'->Up K H H'->Rel K mg F' G p' j H'->Q b H'):LB_I K mg w e j H Q
def LB(K:PySem.W.Frag)(mg:ZV)(w:W)(e:E):TT:=fun j H Q=>LB_I K mg w e j H Q
def noStar:Expr->Bool
 | .Starred _ _=>false
 | _=>true
theorem Z7{e:Expr}{es:ZC}{env:Env}(h:noStar e=true):starEach (e::es) env=(false,eval e env)::starEach es env:=by
 cases e<;>first | rfl | cases h
theorem Yo:∀(es:ZC) (env:Env) (pos:Pos),(∀e∈es,noStar e=true)->(backTo pos (starEach es env)).any (·.1)=false
 | [],env,pos,h=>rfl
 | e::es,env,pos,h=>by
  rw[Z7 (h e Vk)];have:=Yo es env pos fun e m=>h e (Vb _ m);show (false || (backTo pos (starEach es env)).any (·.1))=false;rw[this];rfl
inductive Hs(X:Cx)(w:W)(m:Bool):E->ZC->Prop
 | nil:Hs X w m .nil []
 | cons {a r:E} {x:Expr} {xs:ZC} (h:PE X x (LH X.K X.mg w m a)) (s:noStar x=true) (t:Hs X w m r xs):Hs X w m (.cons a r) (x::xs)
section
variable{X:Cx}{w:W}{m:Bool}
theorem Hs.star:∀{es:E} {xs:ZC},Hs X w m es xs->∀x∈xs,noStar x=true
 | _,_,.nil,x,h=>absurd h Tj
 | _,_,.cons h s t,x,hx=>by
  rcases Y6.mp hx with rfl | hx
  .exact s
  .exact t.star x hx
theorem Zd{a r:E}{p:P}{as:List A}{p':P}(e:Jn w m (.cons a r) p=some (as,p')):∃a' p1 as',P7 m a p (toT (ev w a p))=some (a',p1)/\Jn w m r p1=some (as',p')/\as=a'::as':=by
 unfold Jn at e;cases e1:P7 m a p (toT (ev w a p)) with
 | none=>rw[e1]at e;cases e
 | some q =>
  rw[e1]at e;have e:(Jn w m r q.2).map (fun s=>(q.1::s.1,s.2))=some (as,p'):=e;cases e2:Jn w m r q.2 with
  | none=>rw[e2]at e;cases e
  | some s=>rw[e2]at e;cases e;exact⟨q.1,q.2,s.1,rfl,e2,rfl⟩
theorem Hs.pa:∀{es:E} {xs:ZC},Hs X w m es xs->PA X xs (LA X.K X.mg w m es)
 | _,_,.nil=>fun pos XF s j H Q I h=>by
  obtain⟨F,G,p,as,p',rel,e,k⟩:=h;have e:some (([]:List A),p)=some (as,p'):=by cases m<;>exact e
  cases e;exact Ck pos XF s j H Q I (k F H [] (Le.refl F) (Up.refl H) rel .nil)
 | .cons a r,_,.cons h s t=>fun pos XF s' j H Q I hq=>by
  obtain⟨F,G,p,as,p',rel,e,k⟩:=hq;obtain⟨a',p1,as',e1,e2,rfl⟩:=Zd e;refine Ga h t.pa (Z7 s) pos XF s' j H Q I ⟨F,G,p,a',p1,rel,e1,fun F1 H1 v l1 u1 r1 Vc=>⟨F1,G,p1,as',p',r1,e2,fun F2 H2 vs l2 u2 r2 Bj=>?_⟩⟩;exact k F2 H2 _ (l1.trans l2) (u1.trans u2) r2 (.cons (Ar.up u2 l2 Vc) Bj)
theorem Yd{p:P}{as:List A}{p':P}(e:Jn w m .nil p=some (as,p')):as=[]/\p'=p:=by
 have e:some (([]:List A),p)=some (as,p'):=by cases m<;>exact e
 cases e;exact⟨rfl,rfl⟩
theorem Zk{p:P}{a:A}{as:List A}{ts:ZZ}(e:looks p (a::as)=some ts):∃t r,look p a=some t/\looks p as=some r/\ts=t::r:=by
 unfold looks at e;cases e1:look p a with
 | none=>rw[e1]at e;cases e
 | some t =>
  rw[e1]at e;have e:(looks p as).map (t::·)=some ts:=e;cases e2:looks p as with
  | none=>rw[e2]at e;cases e
  | some r=>rw[e2]at e;cases e;exact⟨t,r,rfl,rfl,rfl⟩
variable{F G:Hp}{p:P}{j:L2.St}{H:Hp}
theorem yc{a:E}{as:List A}{ts:ZZ}{p':P}(e:Jn w m (.cons a .nil) p=some (as,p'))(el:looks p' as=some ts)(rel:Rel X.K X.mg F G p j H){R:V->Hp->Prop}
  (k:∀F' H' x t,ts=[t]->Le F F'->Up X.K H H'->Rel X.K X.mg F' G p' j H'->Nw X.K X.mg H' F' t x->R x H'):LH X.K X.mg w m a j H R:=by
 obtain⟨a',p1,as',e1,e2,rfl⟩:=Zd e;obtain⟨rfl,rfl⟩:=Yd e2;obtain⟨t,r,l1,l2,rfl⟩:=Zk el;cases l2;exact⟨F,G,p,a',_,rel,e1,fun F1 H1 x P2 u1 r1 Vc=>k F1 H1 x t rfl P2 u1 r1 (r1.look l1 Vc)⟩
theorem Ws{a b:E}{as:List A}{ts:ZZ}{p':P}(e:Jn w m (.cons a (.cons b .nil)) p=some (as,p'))(el:looks p' as=some ts)(rel:Rel X.K X.mg F G p j H){R:V->V->Hp->Prop}
  (k:∀F' H' x y t u,ts=[t,u]->Le F F'->Up X.K H H'->Rel X.K X.mg F' G p' j H'->Nw X.K X.mg H' F' t x->Nw X.K X.mg H' F' u y->R x y H'):LH X.K X.mg w m a j H fun x H1=>LH X.K X.mg w m b j H1 fun y H2=>R x y H2:=by
 obtain⟨a',p1,as',e1,e2,rfl⟩:=Zd e;obtain⟨b',p2,as'',e3,e4,rfl⟩:=Zd e2;obtain⟨rfl,rfl⟩:=Yd e4;obtain⟨t,r,l1,l2,rfl⟩:=Zk el;obtain⟨u,r,l3,l4,rfl⟩:=Zk l2;cases l4;exact⟨F,G,p,a',p1,rel,e1,fun F1 H1 x P2 u1 r1 Vc=>⟨F1,G,p1,b',_,r1,e3,fun F2 H2 y Rn u2 r2 Bj=>k F2 H2 x y t u rfl (P2.trans Rn) (u1.trans u2) r2 (r2.look l1 (Ar.up u2 Rn Vc)) (r2.look l3 Bj)⟩⟩
theorem readN{es:E}{as:List A}{ts:ZZ}{p':P}(e:Jn w m es p=some (as,p'))(el:looks p' as=some ts)(rel:Rel X.K X.mg F G p j H){R:ZQ->Hp->Prop}
  (k:∀F' H' vs,Le F F'->Up X.K H H'->Rel X.K X.mg F' G p' j H'->Paired (Nw X.K X.mg H' F') ts vs->R vs H'):LA X.K X.mg w m es j H R :=
 ⟨F,G,p,as,p',rel,e,fun F' H' vs l u r ar=>k F' H' vs l u r (r.looks el ar)⟩
end
theorem G8{K:W.Frag}{mg:ZV}{F H:Hp}{j:L2.St}{p:P}:∀{as:List A} {vs:ZQ} {ts:ZZ},(∀a∈as,∃t,a=.t t)->looks p as=some ts->Ars K mg F j H as vs->Zq K mg H F ts vs
 | [],_,ts,_,e,.nil=>by cases e;rfl
 | a::as,_,ts,ha,e,.cons h t=>by
  obtain⟨u,r,l1,l2,rfl⟩:=Zk e;obtain⟨u',rfl⟩:=ha a Vk;cases l1;exact⟨_,_,rfl,h,G8 (fun a m=>ha a (Vb _ m)) l2 t⟩
def opOf:Op->Operator
 | .add=>.Add
 | .sub=>.Sub
 | .mul=>.Mult
 | .fdiv=>.FloorDiv
 | .mod=>.Mod
 | .pow=>.Pow
noncomputable def Dj:Cm->CmpOp
 | .eq=>.Eq
 | .ne=>.NotEq
 | .lt=>.Lt
 | .le=>.LtE
 | .gt=>.Gt
 | .ge=>.GtE
 | .isin=>.In
 | .notin=>.NotIn
 | .is=>.Is
 | .isnt=>.IsNot
section
variable{K:W.Frag}{mg:ZV}{H F G:Hp}
theorem Ow{t:T}{v:V}(h:Nw K mg H F t v)(e:Bh t=true):U8 v=true/\shV t=some v:=by
 cases t<;>first
  | (cases(show v=_ from h);exact⟨rfl,rfl⟩)
  | cases e
theorem see_is{t:T}{v:V}(h:Nw K mg H F t v)(e:shV t≠none):IsT K mg H F t v:=by
 cases t<;>first | exact h | exact absurd rfl e
theorem Ky{t:T}{v:V}(h:IsT K mg H F t v)(e:Bh t=true):Nw K mg H F t v:=by
 cases t<;>first | exact h | cases e
theorem Ir{a b:T}{x y:V}{r:Bool}(s1:IsT K mg H F a x)(s2:Nw K mg H F b y)(h:eqT a b=some r):U8 y=true/\((U8 x=true/\r=ny x y)\/(r=false/\∃ts,a=.tup ts)):=by
 unfold eqT at h
 split at h
 .cases(show x=_ from s1);cases(show y=_ from s2);cases h;exact⟨rfl,.inl ⟨rfl,(Bool.beq_eq_decide_eq _ _).symm⟩⟩
 .cases(show x=_ from s1);cases(show y=_ from s2);cases h;exact⟨rfl,.inl ⟨rfl,(Bool.beq_eq_decide_eq _ _).symm⟩⟩
 .split at h
  .rename_i fb
   obtain⟨fy,ey⟩:=Ow s2 fb;rw[ey]at h;refine⟨fy, ?_⟩
   cases a<;>first
    | (cases(show x=_ from s1);cases h;exact .inl ⟨rfl,rfl⟩)
    | (cases h;exact .inr ⟨by cases y<;>rfl,_,rfl⟩)
    | cases h
  .cases h
theorem Zx9{a b:T}{r:Bool}(h:eqT a b=some r):shV a≠none/\Bh b=true:=by
 unfold eqT at h
 split at h
 .exact⟨(fun z=>nomatch z),rfl⟩
 .exact⟨(fun z=>nomatch z),rfl⟩
 .split at h
  .rename_i fb
   exact⟨(fun z=>by rw[z]at h;cases h),fb⟩
  .cases h
theorem F7{j Z:Type}{a:List j}{b:List Z}(h:a.length=b.length):a.isEmpty=b.isEmpty:=by
 cases a<;>cases b<;>first | rfl | cases h
theorem Zn.val(k:Key):∀{XB:ZX} {ks:List (Key×V)},Zn K mg H F XB ks->(∀t,Zr XB k=some t->∃v,G9 ks k=some v/\IsT K mg H F t v)/\(Zr XB k=none->G9 ks k=none)
 | [],ks,h=>by cases(show ks=[] from h);exact⟨(fun t e=>by cases e),fun _=>rfl⟩
 | (k',t)::XB,ks,h=>by
  obtain⟨⟨k2,v⟩,r,rfl,⟨e,h1⟩,h2⟩:=h;obtain rfl:k2=k':=e;obtain⟨i1,i2⟩:=Zn.val k h2;unfold Zr;rw[List.find?_cons];by_cases q:k2=k
  .rw[Bk q,Mw (show (k2,v).1=k from q)];exact⟨fun t' e=>by cases e;exact⟨v,rfl,h1⟩,fun e=>nomatch e⟩
  .rw[Nf q,Mv (show ¬ (k2,v).1=k from q)];exact⟨i1,i2⟩
theorem Mc{t:T}{k:Key}{v:V}(e:keyT t=some k)(h:Nw K mg H F t v):v=kV k:=by
 cases t with
 | int i=>cases e;exact h
 | str i=>cases e;exact h
 | _=>cases e
theorem Zq.ints:∀{ts:ZZ} {vs:ZQ} {zs:ZL},Zq K mg H F ts vs->Dn ts=some zs->vs=zs.map V.int
 | [],vs,zs,h,e=>by cases e;exact h
 | t::ts,vs,zs,h,e=>by
  obtain⟨v,r,rfl,q,w⟩:=h;cases t with
  | int i =>
   obtain⟨cv,e1,rfl⟩:=Z4.mp (show (Dn ts).map (i::·)=some zs from e);rw[Zq.ints w e1];cases(show v=.int i from q)
   rfl
  | _=>cases e
theorem Zq.strs:∀{ts:ZZ} {vs:ZQ} {zs:ZD},Zq K mg H F ts vs->Bb ts=some zs->vs=zs.map V.str
 | [],vs,zs,h,e=>by cases e;exact h
 | t::ts,vs,zs,h,e=>by
  obtain⟨v,r,rfl,q,w⟩:=h;cases t with
  | str i =>
   obtain⟨cv,e1,rfl⟩:=Z4.mp (show (Bb ts).map (i::·)=some zs from e);rw[Zq.strs w e1];cases(show v=.str i from q)
   rfl
  | _=>cases e
end
theorem le_not(i j:Int):decide (i<=j)=!decide (j<i):=by rw[<-decide_not];exact decide_eq_decide.mpr Int.not_lt.symm
section
variable{X:Cx}{XF:ZY}{Z:L2.St}{H F G:Hp}{s:Shared}{Q:VK}{x y:V}{v u:Value}{t t':T}
def TF(K:W.Frag)(H:Hp)(s:Shared):Prop:=∀p vs,Vy K H p vs->∃its,Zw vs its/\IsTup s.heap p its.toArray
theorem tf_of(I:Inv X XF Z H s):TF X.K H s:=fun _ _ q=>let ⟨its,r,p,_⟩:=I.tuple q;⟨its,r,p⟩
theorem Q0{h:Heap}{p:Addr}{a b:ZM}(x:IsTup h p a.toArray)(y:IsTup h p b.toArray):a=b:=by
 obtain⟨o,e,_,n,d⟩:=x;obtain⟨o',e',_,n',d'⟩:=y;rw[e]at e';cases e';rw[d]at d';cases d';rfl
theorem Cz{A:Around}{p:Addr}{its:ZN}(ht:IsTup s.heap p its)(hu:A.units<cLine)(fy:U8 y=true)(ry:RelV y u):SeqAt.RcAt A s (.ref p) u false/\SeqAt.RcNeAt A s (.ref p) u true/\SeqAt.EqAt A s (.ref p) u false/\SeqAt.EqAt A s u (.ref p) false:=by
 cases y with
 | non=>cases ry;exact⟨.tuple_none ht hu,.tuple_none ht hu,.tuple_none ht hu,.none_tuple ht hu⟩
 | bl b=>cases ry;exact⟨.tuple_bool b ht hu,.tuple_bool b ht hu,.tuple_bool b ht hu,.bool_tuple b ht hu⟩
 | int b=>obtain⟨t,rfl⟩:=ry;exact⟨.tuple_int b t ht hu,.tuple_int b t ht hu,.tuple_int b t ht hu,.int_tuple b t ht hu⟩
 | str b=>obtain⟨t,rfl⟩:=ry;exact⟨.tuple_str b t ht hu,.tuple_str b t ht hu,.tuple_str b t ht hu,.str_tuple b t ht hu⟩
 | _=>cases fy
theorem Zxm{r:Bool}(I:Inv X XF Z H s)(hu:X.A.units<cLine)(rx:RelV x v)(ry:RelV y u)(s1:Nw X.K X.mg H F t x)(s2:Nw X.K X.mg H F t' y)(h:eqT t t'=some r):SeqAt.RcAt X.A s v u r/\SeqAt.RcNeAt X.A s v u (!r):=by
 have s1:=see_is s1 (Zx9 h).1;obtain⟨fy,⟨fx,rfl⟩ | ⟨rfl,ts,rfl⟩⟩:=Ir s1 s2 h
 .exact⟨rcEq_V rx ry fx fy,rcNe_V rx ry fx fy⟩
 .obtain⟨p,vs,rfl,sq,_⟩:=s1;cases rx;obtain⟨its,_,tp,_⟩:=I.tuple sq;exact⟨(Cz tp hu fy ry).1,(Cz tp hu fy ry).2.1⟩
theorem bw{A:Around}(I:Inv X XF Z H s)(hu:A.units<cLine)(rx:RelV x v)(s1:Nw X.K X.mg H F t x):∀{ts:ZZ} {vs:ZQ} {us:ZM} {r:Bool},Zq X.K X.mg H F ts vs->Zw vs us->B0 t ts=some r->(∀u∈us,SeqAt.EqAt A s u v (nk x u))/\us.any (nk x)=r
 | [],vs,us,r,h,q,e=>by cases(show vs=[] from h);cases q;cases e;exact⟨fun u m=>absurd m Tj,rfl⟩
 | t1::ts,vs,us,r,h,q,e=>by
  obtain⟨y,w,rfl,h1,h2⟩:=h;cases q with | @cons _ u1 _ _ q1 q2 =>
  obtain⟨b,e1,e⟩:=ZO.mp (show (eqT t1 t).bind _=some r from e);obtain⟨r',e2,rfl⟩:=Z4.mp e;obtain⟨g1,g2⟩:=bw I hu rx s1 h2 q2 e2
  have key:SeqAt.EqAt A s u1 v (nk x u1)/\nk x u1=b:=by
   obtain⟨fx,⟨f1,rfl⟩ | ⟨rfl,ts',rfl⟩⟩:=Ir h1 s1 e1
   .rw[dz q1 f1];exact⟨Fe q1 rx f1 fx,rfl⟩
   .obtain⟨p,vs',rfl,sq,_⟩:=h1;cases q1;obtain⟨its,_,tp,_⟩:=I.tuple sq;exact⟨(Cz tp hu fx rx).2.2.1,rfl⟩
  refine⟨fun u m=>?_,by rw[List.any_cons,key.2,g2]⟩;rcases Y6.mp m with rfl | m
  .exact key.1
  .exact g1 u m
theorem bg{ts:ZZ}{vs:ZQ}{p:Addr}{b:Bool}(I:Inv X XF Z H s)(un:X.A.units+150<cLine)(rx:RelV x v)(s1:Nw X.K X.mg H F t x)(ar:Zq X.K X.mg H F ts vs)(hq:Jj X.K H p vs\/Vy X.K H p vs)(e:inF t ts=some b) :
  (Q (.bl b) H->wpAny (model X.prog X.w) X.A (compareOp .In v (.ref p)) (EP X XF Z Q) X.xe s)/\(Q (.bl (!b)) H->wpAny (model X.prog X.w) X.A (compareOp .NotIn v (.ref p)) (EP X XF Z Q) X.xe s):=by
 have h1:X.A.in1.units<cLine:=by show X.A.units+1<cLine;omega
 have go:∀{us:ZM},Zw vs us->(∀u∈us,SeqAt.EqAt X.A.in1 s u v (nk x u))/\us.any (nk x)=b:=fun {us} r=>by
  unfold inF at e
  split at e
  .exact bw I h1 rx s1 ar r e
  .cases e
 rcases hq with hq | hq
 .obtain⟨its,r,pl,_⟩:=I.list hq;obtain⟨g1,rfl⟩:=go r;exact⟨fun q=>SeqAt.in_listAt _ pl.isList (fun y m=>g1 y (by simpa using m)) ⟨.bl _,H,I,rfl,by rw[List.any_toArray];exact q⟩,fun q=>SeqAt.notIn_listAt _ pl.isList (fun y m=>g1 y (by simpa using m)) ⟨.bl _,H,I,rfl,by rw[List.any_toArray];exact q⟩⟩
 .obtain⟨its,r,pl,_⟩:=I.tuple hq;obtain⟨g1,rfl⟩:=go r;exact⟨fun q=>SeqAt.in_tupleAt _ pl (fun y m=>g1 y (by simpa using m)) ⟨.bl _,H,I,rfl,by rw[List.any_toArray];exact q⟩,fun q=>SeqAt.notIn_tupleAt _ pl (fun y m=>g1 y (by simpa using m)) ⟨.bl _,H,I,rfl,by rw[List.any_toArray];exact q⟩⟩
section
variable{K:W.Frag}{mg:ZV}{A:Around}{a b:T}{r:Bool}
theorem Gu{a:T}{as:ZZ}(h:Q2 a=some as):a=.tup as:=by
 cases a<;>cases h;rfl
theorem dw(tf:TF K H s)(hu:A.units<cLine)(i1:IsT K mg H F a x)(i2:IsT K mg H F b y)(rx:RelV x v)(ry:RelV y u)(h:eq1 a b=some r):SeqAt.EqAt A s v u r/\(x=y->r=true):=by
 unfold eq1 at h
 split at h
 .have s2:=Ky i2 (Zx9 h).2;obtain⟨fy,⟨fx,rfl⟩ | ⟨rfl,ts,rfl⟩⟩:=Ir i1 s2 h
  .refine⟨Fe rx ry fx fy,fun e=>?_⟩;subst e;cases x<;>first | rfl | exact B0s _ | cases fx
  .obtain⟨p,vs,rfl,sq,_⟩:=i1;cases rx;obtain⟨its,_,tp⟩:=tf _ _ sq;exact⟨(Cz tp hu fy ry).2.2.1,fun e=>by subst e;cases fy⟩
 .rename_i bs hb
  cases Gu hb
  split at h
  .rename_i he
   obtain rfl:bs=[]:=List.isEmpty_iff.mp he;obtain⟨q,ws,rfl,sq2,_,aw⟩:=i2;cases(show ws=[] from aw);cases ry;obtain⟨zs,rz,tq⟩:=tf _ _ sq2;obtain rfl:zs=[]:=by cases rz;rfl
   split at h
   .rename_i as ha
    cases Gu ha;cases h;obtain⟨p,vs,rfl,Z8,_,av⟩:=i1;cases rx;obtain⟨its,rv,tp⟩:=tf _ _ Z8;have l:as.isEmpty=its.isEmpty:=F7 (av.length.trans rv.length);by_cases z:p=q
    .subst z;rw[l,Q0 tp tq];exact⟨SeqAt.EqAt.same _,fun _=>rfl⟩
    .have:=SeqAt.RcAt.tuples (A:=A) (e:=fun _=>true) (show s.heap.IsTuple p its.toArray from tp) (show s.heap.IsTuple q ([]:ZM).toArray from tq) hu (fun j h1 h2=>absurd h2 (by simp));refine⟨SeqAt.EqAt.of_refs z ?_,fun e=>by cases e;exact absurd rfl z⟩;rw[l]
     have ev:((List.range (min its.toArray.size ([]:ZM).toArray.size)).all (fun _=>true) && its.toArray.size == ([]:ZM).toArray.size)=its.isEmpty:=by
      cases its<;>simp
     rw[<-ev];exact this
   .split at h
    .rename_i hf
     cases h;obtain⟨fx,_⟩:=Ow (Ky i1 hf) hf;exact⟨(Cz tq hu fx rx).2.2.2,fun e=>by subst e;cases fx⟩
    .cases h
  .cases h
theorem ub(e:Nat->Bool)(n m:Nat):((List.range (min (n+1) (m+1))).all e && n+1 == m+1)=(e 0 && ((List.range (min n m)).all (fun j=>e (j+1)) && n == m)):=by
 rw[show min (n+1) (m+1)=min n m+1 by omega,List.range_succ_eq_map,List.all_cons,List.all_map,Bool.and_assoc,show (n+1 == m+1)=(n == m) by rw[Bool.eq_iff_iff];simp]
 rfl
theorem Ip(tf:TF K H s)(hu:A.units<cLine):∀{as bs:ZZ} {vs ws:ZQ} {us zs:ZM} {r:Bool},dj as bs=some r->Zq K mg H F as vs->Zq K mg H F bs ws->Zw vs us->Zw ws zs ->
  ∃e:Nat->Bool,(∀(j:Nat) (h1:j<us.length) (h2:j<zs.length),SeqAt.EqAt A s us[j] zs[j] (e j))/\((List.range (min us.length zs.length)).all e && us.length == zs.length)=r/\(vs=ws->r=true)
 | [],[],vs,ws,us,zs,r,h,a1,a2,r1,r2=>by
  cases(show vs=[] from a1);cases(show ws=[] from a2);cases r1;cases r2;cases h;exact⟨fun _=>true,fun j h1=>absurd h1 (Nat.not_lt_zero j),rfl,fun _=>rfl⟩
 | [],c::cs,vs,ws,us,zs,r,h,a1,a2,r1,r2=>by
  cases(show vs=[] from a1);obtain⟨y,w,rfl,_⟩:=a2;cases r1;cases r2;cases h;exact⟨fun _=>true,fun j h1=>absurd h1 (Nat.not_lt_zero j),rfl,fun z=>nomatch z⟩
 | c::cs,[],vs,ws,us,zs,r,h,a1,a2,r1,r2=>by
  cases(show ws=[] from a2);obtain⟨y,w,rfl,_⟩:=a1;cases r1;cases r2;cases h;exact⟨fun _=>true,fun j _ h2=>absurd h2 (Nat.not_lt_zero j),rfl,fun z=>nomatch z⟩
 | c::cs,d::ds,vs,ws,us,zs,r,h,a1,a2,r1,r2=>by
  obtain⟨x1,vr,rfl,i1,a1⟩:=a1;obtain⟨y1,wr,rfl,i2,a2⟩:=a2;cases r1 with | @cons _ u _ us q1 r1 =>
  cases r2 with | @cons _ z _ zs q2 r2 =>
  obtain⟨x,e1,h⟩:=ZO.mp (show (eq1 c d).bind _=some r from h);obtain⟨b',e2,rfl⟩:=Z4.mp h;obtain⟨e,g1,g2,g3⟩:=Ip tf hu e2 a1 a2 r1 r2;obtain⟨k1,k2⟩:=dw tf hu i1 i2 q1 q2 e1;refine⟨fun j=>match j with | 0=>x | j+1=>e j,fun j h1 h2=>?_, ?_,fun ev=>?_⟩
  .cases j with
   | zero=>exact k1
   | succ j=>exact g1 j (Nat.lt_of_succ_lt_succ h1) (Nat.lt_of_succ_lt_succ h2)
  .show ((List.range (min (us.length+1) (zs.length+1))).all _ && us.length+1 == zs.length+1)=_;rw[ub, <-g2]
  .cases ev;rw[k2 rfl,g3 rfl];rfl
theorem rcTs(tf:TF K H s)(hu:A.in1.units<cLine){as bs:ZZ}(i1:IsT K mg H F (.tup as) x)(i2:IsT K mg H F (.tup bs) y)(rx:RelV x v)(ry:RelV y u)(h:dj as bs=some r):SeqAt.RcAt A s v u r/\(x=y->r=true):=by
 obtain⟨p,vs,rfl,Z8,_,av⟩:=i1;obtain⟨q,ws,rfl,sq2,_,aw⟩:=i2;cases rx;cases ry;obtain⟨its,rv,tp⟩:=tf _ _ Z8;obtain⟨zs,rz,tq⟩:=tf _ _ sq2;obtain⟨e,g1,g2,g3⟩:=Ip (A:=A.in1) tf hu h av aw rv rz;have:=SeqAt.RcAt.tuples (A:=A) (e:=e) (show s.heap.IsTuple p its.toArray from tp) (show s.heap.IsTuple q zs.toArray from tq) (Nat.lt_of_succ_lt hu) (fun j h1 h2=>g1 j (by simpa using h1) (by simpa using h2));rw[V7,V7,g2]at this;refine⟨this,fun e=>g3 ?_⟩;cases e;have:=Q0 tp tq;subst this;exact rv.inj rz
theorem eqE_at(tf:TF K H s)(hu:A.in1.units<cLine)(i1:IsT K mg H F a x)(i2:IsT K mg H F b y)(rx:RelV x v)(ry:RelV y u)(h:eqE a b=some r):SeqAt.EqAt A s v u r:=by
 unfold eqE at h
 split at h
 .rename_i hb
  exact(dw (a:=a) (b:=b) tf (Nat.lt_of_succ_lt hu) i1 i2 rx ry (by unfold eq1;rw[hb];exact h)).1
 .rename_i bs hb
  cases Gu hb;obtain⟨as,ha,h⟩:=ZO.mp h;cases Gu ha;obtain⟨k1,k2⟩:=rcTs tf hu i1 i2 rx ry h;obtain⟨p,vs,rfl,_⟩:=i1;obtain⟨q,ws,rfl,_⟩:=i2;cases rx;cases ry;by_cases z:p=q
  .subst z;rw[k2 rfl];exact SeqAt.EqAt.same _
  .exact SeqAt.EqAt.of_refs z k1
end
theorem eq_nil{ts:ZZ}(I:Inv X XF Z H s)(un:X.A.units+150<cLine)(rx:RelV x v)(ry:RelV y u)(s1:Nw X.K X.mg H F (.tup ts) x)(s2:Nw X.K X.mg H F (.tup []) y) :
  (Q (.bl ts.isEmpty) H->wpAny (model X.prog X.w) X.A (compareOp .Eq v u) (EP X XF Z Q) X.xe s)/\(Q (.bl (!ts.isEmpty)) H->wpAny (model X.prog X.w) X.A (compareOp .NotEq v u) (EP X XF Z Q) X.xe s):=by
 obtain⟨a,vs,rfl,q1,_,a1⟩:=s1;obtain⟨b,ws,rfl,q2,_,a2⟩:=s2;cases(show ws=[] from a2);cases rx;cases ry;obtain⟨i1,r1,p1,_⟩:=I.tuple q1;obtain⟨i2,r2,p2,_⟩:=I.tuple q2;have e2:i2=[]:=by cases r2;rfl
 subst e2
 have ev:((List.range (min i1.toArray.size ([]:ZM).toArray.size)).all (fun _=>true) && i1.toArray.size == ([]:ZM).toArray.size)=ts.isEmpty:=by
  have l1:=a1.length;have l2:=r1.length;have l3:ts.length=i1.length:=l1.trans l2;cases ts with
  | nil=>cases i1 with
   | nil=>rfl
   | cons _ _=>simp at l3
  | cons _ _=>cases i1 with
   | nil=>simp at l3
   | cons _ _=>simp
 have hu:X.A.units<cLine:=by omega
 exact⟨fun q=>SeqAt.eq_tupleAt (e:=fun _=>true) p1 p2 hu (fun j h1 h2=>absurd h2 (by simp)) ⟨.bl _,H,I,rfl,by rw[ev];exact q⟩,
  fun q=>SeqAt.RcNeAt.tuples (e:=fun _=>true) p1 p2 hu (fun j h1 h2=>absurd h2 (by simp)) X.prog X.w X.xe _ ⟨.bl _,H,I,rfl,by rw[ev];exact q⟩⟩
theorem Bz{b:Bool}(c:Cm)(I:Inv X XF Z H s)(fh:∀a o,F a=some o->H a=some o)(un:X.A.units+150<cLine)(rx:RelV x v)(ry:RelV y u)(s1:Nw X.K X.mg H F t x)(s2:Nw X.K X.mg H F t' y)(e:Wz c t t'=some b)(q:Q (.bl b) H) :
  wpAny (model X.prog X.w) X.A (compareOp (Dj c) v u) (EP X XF Z Q) X.xe s:=by
 have pIn:∀{b:Bool},bf t t'=some b->(Q (.bl b) H->wpAny (model X.prog X.w) X.A (compareOp .In v u) (EP X XF Z Q) X.xe s)/\(Q (.bl (!b)) H->wpAny (model X.prog X.w) X.A (compareOp .NotIn v u) (EP X XF Z Q) X.xe s):=fun {b} e=>by
  unfold bf at e
  split at e
  .obtain⟨a,vs,rfl,q1,z,ar⟩:=s2;cases ry;exact bg I un rx s1 ar (.inl (.inl q1)) e
  .obtain⟨a,vs,rfl,q1,z,ar⟩:=s2;cases ry;exact bg I un rx s1 ar (.inr q1) e
  .rename_i XB _
   obtain⟨a,ks,rfl,q1,z,ar⟩:=s2;obtain⟨k,e1,rfl⟩:=Z4.mp e;cases Mc e1 s1;cases ry;have hu:X.A.units+1<cLine:=by omega
   have g:Tv H a (kV k) (G9 ks k):=.inl ⟨ks,k,q1,rfl,rfl⟩;obtain⟨i1,i2⟩:=Zn.val k ar
   have es:(G9 ks k).isSome=(Zr XB k).isSome:=by
    cases e2:Zr XB k with
    | none=>rw[i2 e2];rfl
    | some t=>obtain⟨v,h1,_⟩:=i1 t e2;rw[h1];rfl
   exact⟨fun q=>d_in hu I g rx fun s' I'=>⟨.bl _,H,I',rfl,by rw[es];exact q⟩,fun q=>Zzc hu I g rx fun s' I'=>⟨.bl _,H,I',rfl,by rw[es];exact q⟩⟩
  .unfold Zx0 at e
   split at e
   .cases e;cases(show x=_ from s1);cases(show y=_ from s2);exact⟨fun q=>zm XF s Z H _ _ v u Q I rx ry ⟨_,_,rfl,rfl,q⟩,fun q=>L6 XF s Z H _ _ v u Q I rx ry ⟨_,_,rfl,rfl,q⟩⟩
   .cases e
  .cases e
 have pIs:∀{b:Bool},isT t t'=some b->(Q (.bl b) H->wpAny (model X.prog X.w) X.A (compareOp .Is v u) (EP X XF Z Q) X.xe s)/\(Q (.bl (!b)) H->wpAny (model X.prog X.w) X.A (compareOp .IsNot v u) (EP X XF Z Q) X.xe s):=fun {b} e=>by
  unfold isT at e
  split at e
  .cases e;cases(show x=_ from s1);cases(show y=_ from s2);exact⟨fun q=>gz XF s Z H _ _ v u Q I rx ry ⟨rfl,q⟩,fun q=>Ai XF s Z H _ _ v u Q I rx ry ⟨rfl,q⟩⟩
  .rename_i n1 n2
   cases e;cases(show y=_ from s2)
   have ne:x≠.non:=fun z=>by
    subst z;cases t with
    | non=>first | exact n1 rfl | exact n2 rfl
    | tup _=>obtain⟨_,_,z,_⟩:=s1;cases z
    | lst _=>obtain⟨_,_,z,_⟩:=s1;cases z
    | dct _=>obtain⟨_,_,z,_⟩:=s1;cases z
    | fn _=>obtain⟨_,z,_⟩:=s1;cases z
    | _=>cases(show V.non=_ from s1)
   exact⟨fun q=>gz XF s Z H _ _ v u Q I rx ry ⟨rfl,by rw[Nf ne];exact q⟩,fun q=>Ai XF s Z H _ _ v u Q I rx ry ⟨rfl,by rw[Nf ne];exact q⟩⟩
  .cases e
 cases c with
 | eq =>
  have e:eqG t t'=some b:=e;unfold eqG at e
  split at e
  .exact(rcTs (tf_of I) (by show X.A.units+1<cLine;omega) s1 s2 rx ry e).1 X.prog X.w X.xe _ ⟨.bl _,H,I,rfl,q⟩
  .unfold eqC at e
   split at e
   .cases e;exact(eq_nil I un rx ry s1 s2).1 q
   .exact(Zxm I (by omega) rx ry s1 s2 e).1 X.prog X.w X.xe _ ⟨.bl _,H,I,rfl,q⟩
 | ne =>
  have e:(eqC t t').map not=some b:=e;obtain⟨r,e1,rfl⟩:=Z4.mp e
  clear e
  unfold eqC at e1
  split at e1
  .cases e1;exact(eq_nil I un rx ry s1 s2).2 q
  .exact(Zxm I (by omega) rx ry s1 s2 e1).2 X.prog X.w X.xe _ ⟨.bl _,H,I,rfl,q⟩
 | lt =>
  have e:iw t t'=some b:=e;unfold iw at e
  split at e
  .cases e;cases(show x=_ from s1);cases(show y=_ from s2);exact op_lt XF s Z H _ _ v u Q I rx ry ⟨_,_,rfl,rfl,q⟩
  .cases e
 | gt =>
  have e:iw t' t=some b:=e;unfold iw at e
  split at e
  .cases e;cases(show x=_ from s1);cases(show y=_ from s2);exact op_gt XF s Z H _ _ v u Q I rx ry ⟨_,_,rfl,rfl,q⟩
  .cases e
 | le =>
  have e:(iw t' t).map not=some b:=e;obtain⟨b',e2,rfl⟩:=Z4.mp e
  clear e
  unfold iw at e2
  split at e2
  .cases e2;cases(show x=_ from s1);cases(show y=_ from s2);refine op_le XF s Z H _ _ v u Q I rx ry ⟨_,_,rfl,rfl, ?_⟩;exact(le_not _ _).symm ▸ q
  .cases e2
 | ge =>
  have e:geT t t'=some b:=e;unfold geT at e
  split at e
  .cases e;cases(show x=_ from s1);cases(show y=_ from s2);exact op_ge XF s Z H _ _ v u Q I rx ry ⟨_,_,rfl,rfl,q⟩
  .cases e
 | isin=>exact(pIn e).1 q
 | notin =>
  have e:(bf t t').map not=some b:=e;obtain⟨b',e2,rfl⟩:=Z4.mp e;exact(pIn e2).2 q
 | is=>exact(pIs e).1 q
 | isnt =>
  have e:(isT t t').map not=some b:=e;obtain⟨b',e2,rfl⟩:=Z4.mp e;exact(pIs e2).2 q
end
section
variable{X:Cx}{XF:ZY}{j:L2.St}{H F₀ G:Hp}{s:Shared}{Q:VK}{x y:V}{v u:Value}{t t':T}{p:P}
theorem lstR{l:Addr}{xs:ZQ}(I:Inv X XF j H s)(r:Rd H l (.lst xs)):xs.length<=sizeLine/\∃(its:ZM) (n:Nat),Zw xs its/\xs.length=its.length/\s.heap.get? l=some { cls:=.type "list",data:=.seq its.toArray n }:=by
 obtain⟨z,its,n,r,e⟩:=r.ok I.hok;exact⟨z,its,n,r,r.length,e⟩
theorem og{l b:Addr}{xs zs:ZQ}(I:Inv X XF j H s)(hH:Rd H l (.lst xs))(hB:Rd H b (.lst zs))(hz:xs.length+zs.length<=sizeLine)(q:∀p,H p=none->Q (.ref p) (upd H p (.lst (xs++zs)))) :
  wpAny (model X.prog X.w) X.A (binaryOp .Add (.ref l) (.ref b)) (EP X XF j Q) X.xe s:=by
 obtain⟨z,its,n,r,hl,e⟩:=lstR I hH;obtain⟨z2,its2,n2,r2,ed,e2⟩:=lstR I hB;refine PySem.P.add_list e e2 ?_ (by rw[V7,V7];omega);have ea:its.toArray++its2.toArray=(its++its2).toArray:=by simp
 rw[ea];exact⟨.ref _,_,I.lnew (t':=s.toks) (r.append r2) (by rw[D7];omega),rfl,q _ I.fresh⟩
theorem oq{l:Addr}{xs:ZQ}{k:Int}{w:Tok}(I:Inv X XF j H s)(hH:Rd H l (.lst xs))(h1:-(2 ^ 63)<=k)(h2:k<2 ^ 63)(hz:xs.length * k.toNat<=sizeLine)(q:∀p,H p=none->Q (.ref p) (upd H p (.lst (List.replicate k.toNat xs).flatten))) :
  wpAny (model X.prog X.w) X.A (binaryOp .Mult (.ref l) (.int k w)) (EP X XF j Q) X.xe s:=by
 obtain⟨z,its,n,r,hl,e⟩:=lstR I hH;have hlen:its.toArray.size * k.toNat<=sizeLine:=by rw[V7, <-hl];exact hz
 have hcap:¬ its.toArray.size * k.toNat>(2 ^ 63 - 1) / 8:=by
  have:(sizeLine:Nat)<=(2 ^ 63 - 1) / 8:=by decide
  omega
 have R3:¬ (!Builtin.List.listFitsIndex k)=true:=by
  rw[fitsIndex_both h1 h2];exact B5
 have hlong:¬ Builtin.List.listTooLong (its.toArray.size * k.toNat)=true:=by
  rw[gm hlen];exact B5
 have hnew:List.foldl (fun x1 x2=>x1++x2) #[] (List.replicate (if its.toArray.isEmpty=true then 0 else k.toNat) its.toArray)=(List.replicate k.toNat its).flatten.toArray:=by
  have f0:∀m:Nat,List.foldl (fun x1 x2=>x1++x2) #[] (List.replicate m its.toArray)=(List.replicate m its).flatten.toArray:=fun m=>by
   have:=foldl_rep its m [];rw[List.nil_append]at this;exact this
  rw[f0];cases its with
  | nil=>simp
  | cons a r'=>rw[if_neg (by simp)]
 refine wpAny_binaryOp_repeat_ref (T:="list") (U:="int") (by decide) ⟨_,e,rfl⟩ (fun s'=>typeIs_int s' k w) noFill_list_mul F.fills_int_mul F.slot_int_rmul repeat_list F.slot_int_index.lookup
  (call_meets F.slot_int_rmul (typeIs_int s k w) F.entry_int_rmul (F.args_int_rmul_2 _ _) (int___rmul___int_list k w l its.toArray n)
   ⟨e,rfl,⟨_,e,rfl⟩,call_meets F.slot_list_mul ⟨_,e,rfl⟩ F.entry_list_mul (F.args_list_mul_2 _ _) (AutoListH.list___mul___list_int_3 l its.toArray n k w R3 hcap hlong) ⟨e, ?_⟩⟩)
 rw[hnew];exact⟨.ref _,_,I.lnew (t':=s.toks) (r.rep k.toNat) (by rw[len_rep,Nat.mul_comm];exact hz),rfl,q _ I.fresh⟩
theorem k9{i:Str}{n:Int}{w w':Tok}(I:Inv X XF j H s)(n0:0<=n)(n1:n<=1000)(i1:i.length<=1000)(q:Q (.str (repS i n.toNat)) H):wpAny (model X.prog X.w) X.A (binaryOp .Mult (.str i w) (.int n w')) (EP X XF j Q) X.xe s:=by
 by_cases c1:n<1
 .have:n=0:=by omega
  subst this;refine PySem.P.mul_str_none (by decide) (by decide) ⟨.str Str.empty,H,I.tok _,⟨_,rfl⟩, ?_⟩;exact q
 by_cases c2:(n == 1 || i.length == 0)=true
 .have e:repS i n.toNat=i:=by
   rw[Bool.or_eq_true,beq_iff_eq,beq_iff_eq]at c2
   have:(repS i n.toNat).cps.toList=i.cps.toList:=by
    rw[T9];rcases c2 with rfl | c2
    .simp
    .have:i.cps.toList=[]:=by
      have:i.cps.size=0:=c2;exact List.eq_nil_of_length_eq_zero (by simpa using this)
     rw[this];simp
   cases i;cases hr:repS _ n.toNat;rw[hr]at this;simp at this;simp[this]
  rw[e]at q;refine PySem.P.mul_str ?_ (fun _ z=>?_) (fun _ z=>?_) ?_
  .rw[Bool.or_eq_false_iff];exact⟨Nf (by omega),Nf (by omega)⟩
  .rw[c2]at z;cases z
  .rw[c2]at z;cases z
  .rw[if_neg c1,if_pos c2];exact⟨.str i,H,I,⟨_,rfl⟩,q⟩
 .rw[Bool.or_eq_true,beq_iff_eq,beq_iff_eq]at c2;exact oz XF s j H (.str i) (.int n) _ _ Q I ⟨w,rfl⟩ ⟨w',rfl⟩ ⟨i,n,rfl,rfl,by omega,n1,fun z=>c2 (.inr z),i1,q⟩
theorem Zq.flat{K:W.Frag}{mg:ZV}{ts:ZZ}{vs:ZQ}(h:Zq K mg H F ts vs):∀n:Nat,Zq K mg H F (List.replicate n ts).flatten (List.replicate n vs).flatten
 | 0=>rfl
 | n+1=>by
  rw[List.replicate_succ,List.replicate_succ,List.flatten_cons,List.flatten_cons];exact h.append (Zq.flat h n)
def Fin(X:Cx)(F G:Hp)(p:P)(j:L2.St)(H:Hp)(r:Sl)(Q:VK):Prop:=∀F' H' v,Le F F'->Up X.K H H'->Rel X.K X.mg F' G p j H'->Res X.K X.mg F' G p j H' r v->Q v H'
theorem Fin.f{r:T}(k:Fin X F G p j H (.f r) Q)(rel:Rel X.K X.mg F G p j H){H':Hp}{v:V}(s:Zl H H')(h:IsT X.K X.mg H' F r v):Q v H':=k F H' v (Le.refl F) s.up (rel.same s) h
theorem Fin.h{r:T}(k:Fin X F G p j H (.f r) Q)(rel:Rel X.K X.mg F G p j H){v:V}(h:IsT X.K X.mg H F r v):Q v H:=k.f rel (Zl.refl H) h
theorem Fin.l{ts:ZZ}(k:Fin X F G p j H (.o (.lst ts)) Q)(rel:Rel X.K X.mg F G p j H){l:Addr}{vs:ZQ}(hl:H l=none)(z:vs.length<=sizeLine)(h:Zq X.K X.mg H F ts vs):Q (.ref l) (upd H l (.lst vs)) :=
 let ⟨a,b⟩:=rel.newL hl z h
 k F _ _ (Le.refl F) (Zl.lay hl).up a b
theorem Mr{f:Int->Int->Option Sl}{t t':T}{r:Sl}(e:bj f t t'=some r):∃a b,t=.int a/\t'=.int b/\f a b=some r:=by
 cases t with
 | int a=>cases t' with
  | int b=>exact⟨a,b,rfl,rfl,e⟩
  | _=>cases e
 | _=>cases e
theorem Jm{c:Prop}[Decidable c]{x r:Sl}(e:(if c then some x else none)=some r):c/\x=r:=by
 by_cases h:c
 .rw[if_pos h]at e;exact⟨h,Dp e⟩
 .rw[if_neg h]at e;cases e
theorem op_run{r:Sl}{σ':L2.St}(o:Op)(I:Inv X XF σ' H s)(rel:Rel X.K X.mg F G p j H)(rx:RelV x v)(ry:RelV y u)(s1:Nw X.K X.mg H F t x)(s2:Nw X.K X.mg H F t' y)(e:cf o t t'=some r)(q:Fin X F G p j H r Q) :
  wpAny (model X.prog X.w) X.A (binaryOp (opOf o) v u) (EP X XF σ' Q) X.xe s:=by
 cases o with
 | add=>cases t with
  | int a=>cases t' with
   | int b =>
    cases e;cases(show x=_ from s1);cases(show y=_ from s2);exact op_add XF s σ' H _ _ v u Q I rx ry ⟨_,_,rfl,rfl,q.h rel rfl⟩
   | _=>cases e
  | str a=>cases t' with
   | str b =>
    obtain⟨hz,rfl⟩:=Jm e;cases(show x=_ from s1);cases(show y=_ from s2);exact Kz XF s σ' H _ _ v u Q I rx ry ⟨_,_,rfl,rfl,hz,q.h rel rfl⟩
   | _=>cases e
  | lst a=>cases t' with
   | lst b =>
    obtain⟨hz,rfl⟩:=Jm e;obtain⟨a,vs,rfl,h1,z1,Vc⟩:=s1;obtain⟨b,us,rfl,h2,z2,Bj⟩:=s2;cases rx;cases ry;have l1:=Vc.length;have l2:=Bj.length;exact og I h1 h2 (by omega) fun l hl=>q.l rel hl (by rw[D7];omega) (Vc.append Bj)
   | _=>cases e
  | tup a=>cases t' with
   | tup b =>
    obtain⟨hz,rfl⟩:=Jm e;obtain⟨a,vs,rfl,h1,z1,Vc⟩:=s1;obtain⟨b,us,rfl,h2,z2,Bj⟩:=s2;have l1:=Vc.length;have l2:=Bj.length;exact om XF s σ' H _ _ v u Q I rx ry ⟨a,b,vs,us,rfl,rfl,h1,h2,by omega,fun l H' sm hq=>q.f rel sm ⟨l,_,rfl,hq,by rw[D7];omega,(Zq.up sm.up (Le.refl F) _ _ Vc).append (Zq.up sm.up (Le.refl F) _ _ Bj)⟩⟩
   | _=>cases e
  | bl a=>cases t' with
   | int b =>
    cases e;cases(show x=_ from s1);cases(show y=_ from s2);exact TNM.zd XF s σ' H _ _ v u Q I rx ry ⟨_,_,rfl,rfl,q.h rel rfl⟩
   | _=>cases e
  | _=>cases e
 | sub =>
  obtain⟨a,b,rfl,rfl,e⟩:=Mr e;cases e;cases(show x=_ from s1);cases(show y=_ from s2);exact op_sub XF s σ' H _ _ v u Q I rx ry ⟨_,_,rfl,rfl,q.h rel rfl⟩
 | mul=>cases t with
  | int a=>cases t' with
   | int b =>
    obtain⟨hz,rfl⟩:=Jm e;cases(show x=_ from s1);cases(show y=_ from s2);exact op_mul XF s σ' H _ _ v u Q I rx ry ⟨_,_,rfl,rfl,hz,q.h rel rfl⟩
   | _=>cases e
  | str a=>cases t' with
   | int b =>
    obtain⟨hz,rfl⟩:=Jm e;cases(show x=_ from s1);cases(show y=_ from s2);obtain⟨_,rfl⟩:=rx;obtain⟨_,rfl⟩:=ry;exact k9 I hz.1 hz.2.1 hz.2.2 (q.h rel rfl)
   | _=>cases e
  | lst a=>cases t' with
   | int b =>
    obtain⟨hz,rfl⟩:=Jm e;cases(show y=_ from s2);obtain⟨a,vs,rfl,h1,z1,Vc⟩:=s1;cases rx;obtain⟨_,rfl⟩:=ry;have l1:=Vc.length;exact oq I h1 hz.1 hz.2.1 (by rw[<-l1];exact hz.2.2) fun l hl=>q.l rel hl (by rw[len_rep, <-l1,Nat.mul_comm];exact hz.2.2) (Vc.flat _)
   | _=>cases e
  | _=>cases e
 | fdiv =>
  obtain⟨a,b,rfl,rfl,e⟩:=Mr e;obtain⟨hz,rfl⟩:=Jm e;cases(show x=_ from s1);cases(show y=_ from s2);exact oj XF s σ' H _ _ v u Q I rx ry ⟨_,_,rfl,rfl,hz,q.h rel rfl⟩
 | mod =>
  obtain⟨a,b,rfl,rfl,e⟩:=Mr e;obtain⟨hz,rfl⟩:=Jm e;cases(show x=_ from s1);cases(show y=_ from s2);exact op_mod XF s σ' H _ _ v u Q I rx ry ⟨_,_,rfl,rfl,hz,q.h rel rfl⟩
 | pow =>
  obtain⟨a,b,rfl,rfl,e⟩:=Mr e;obtain⟨hz,rfl⟩:=Jm e;cases(show x=_ from s1);cases(show y=_ from s2);exact op_pow XF s σ' H _ _ v u Q I rx ry ⟨_,_,rfl,rfl,hz,q.h rel rfl⟩
end
section
variable{K:W.Frag}{mg:ZV}{H F G:Hp}
theorem Zn.map{k:Key}{t:T}{v:V}(h:IsT K mg H F t v):∀{XB:ZX} {ks:List (Key×V)},Zn K mg H F XB ks->Zn K mg H F (XB.map fun p=>if p.1=k then (p.1,t) else p) (ks.map fun p=>if p.1=k then (p.1,v) else p)
 | [],ks,a=>by cases(show ks=[] from a);rfl
 | (k',t')::XB,ks,a=>by
  obtain⟨⟨k2,v'⟩,r,rfl,⟨e,h1⟩,h2⟩:=a;obtain rfl:k2=k':=e;rw[Qn,Qn];refine⟨_,_,rfl, ?_,Zn.map h h2⟩;by_cases q:k2=k
  .rw[if_pos (show (k2,t').1=k from q),if_pos (show (k2,v').1=k from q)];exact⟨rfl,h⟩
  .rw[if_neg (show ¬ (k2,t').1=k from q),if_neg (show ¬ (k2,v').1=k from q)];exact⟨rfl,h1⟩
theorem Zn.any{k:Key}:∀{XB:ZX} {ks:List (Key×V)},Zn K mg H F XB ks->(XB.any fun p=>decide (p.1=k))=ks.any fun p=>decide (p.1=k)
 | [],ks,a=>by cases(show ks=[] from a);rfl
 | (k',t')::XB,ks,a=>by
  obtain⟨⟨k2,v'⟩,r,rfl,⟨e,h1⟩,h2⟩:=a;obtain rfl:k2=k':=e;rw[List.any_cons,List.any_cons,Zn.any h2]
theorem Zn.snoc{k:Key}{t:T}{v:V}(h:IsT K mg H F t v):∀{XB:ZX} {ks:List (Key×V)},Zn K mg H F XB ks->Zn K mg H F (XB++[(k,t)]) (ks++[(k,v)])
 | [],ks,a=>by cases(show ks=[] from a);exact⟨_,_,rfl,⟨rfl,h⟩,rfl⟩
 | p::XB,ks,a=>by
  obtain⟨q,r,rfl,h1,h2⟩:=a;exact⟨q,_,rfl,h1,Zn.snoc h h2⟩
theorem Zn.put{k:Key}{t:T}{v:V}(h:IsT K mg H F t v){XB:ZX}{ks:List (Key×V)}(a:Zn K mg H F XB ks):Zn K mg H F (Yp XB k t) (putK ks k v):=by
 unfold Yp putK;rw[<-Zn.any a]
 split
 .exact Zn.map h a
 .exact Zn.snoc h a
theorem Zn.keys:∀{XB:ZX} {ks:List (Key×V)},Zn K mg H F XB ks->XB.map (·.1)=ks.map (·.1)
 | [],ks,h=>by cases(show ks=[] from h);rfl
 | (k,t)::XB,ks,h=>by
  obtain⟨q,r,rfl,⟨e,_⟩,h2⟩:=h;rw[Qn,Qn,Zn.keys h2,e]
theorem Fq(k:Key):IsT K mg H F (T2 k) (kV k):=by cases k<;>rfl
theorem Zn.keyT{XB:ZX}{ks:List (Key×V)}(h:Zn K mg H F XB ks):Zq K mg H F (XB.map fun p=>T2 p.1) (ks.map fun p=>kV p.1):=by
 have go:∀l:List Key,Zq K mg H F (l.map T2) (l.map kV):=fun l=>by
  induction l with
  | nil=>rfl
  | cons k r ih=>exact⟨_,_,rfl,Fq k,ih⟩
 have e:=h.keys;have:=go (XB.map (·.1));rw[List.map_map,List.map_map]at this
 have e2:(ks.map fun p=>kV p.1)=(XB.map fun p=>kV p.1):=by
  have:=congrArg (List.map kV) e;rw[List.map_map,List.map_map]at this;exact this.symm
 rw[e2];exact this
theorem So:∀(zs:ZL),Zq K mg H F (zs.map T.int) (zs.map V.int)
 | []=>rfl
 | _::zs=>⟨_,_,rfl,rfl,So zs⟩
theorem Sa:∀(zs:ZD),Zq K mg H F (zs.map T.str) (zs.map V.str)
 | []=>rfl
 | _::zs=>⟨_,_,rfl,rfl,Sa zs⟩
theorem we{X:Cx}{F₁ H₁:Hp}{ts us:ZZ}{vs:ZQ}(h:Zq X.K X.mg H₁ F₁ ts vs)(e:T4 ts=some us):∃ws,SRT.qv X H₁ vs ws/\Zq X.K X.mg H₁ F₁ us ws/\ws.length<64:=by
 unfold T4 at e
 split at e
 .rename_i hz
  split at e
  .rename_i zs e1
   cases e;have e2:=h.ints e1;have hl:zs.length<64:=by rw[h.length,e2,Z0]at hz;exact hz
   subst e2;exact⟨_,SRT.Xs hl,So _,by rw[Z0,(SRT.Yb zs).length_eq];exact hl⟩
  .obtain⟨zs,e1,rfl⟩:=Z4.mp e;have e2:=h.strs e1;have hl:zs.length<64:=by rw[h.length,e2,Z0]at hz;exact hz
   subst e2;exact⟨_,SRT.Xr hl,Sa _,by rw[Z0,(SRT.Yf zs).length_eq];exact hl⟩
 .cases e
theorem Zq.pick{ts:ZZ}{vs:ZQ}(h:Zq K mg H F ts vs):∀(p:List Nat),(∀i∈p,i<ts.length)->Zq K mg H F (p.map fun i=>ts.getD i .non) (p.map fun i=>vs.getD i .non)
 | [],_=>rfl
 | i::p,g=>by
  have hi:=g i Vk;obtain⟨v,e1,h2⟩:=h.get (Mz hi);refine⟨_,_,rfl, ?_,Zq.pick h p fun j m=>g j (Vb _ m)⟩;show IsT K mg H F (ts.getD i .non) (vs.getD i .non);rw[List.getD_eq_getElem?_getD,List.getD_eq_getElem?_getD,e1,Mz hi];exact h2
end
section
variable{X:Cx}{XF:ZY}{Z:L2.St}{H F:Hp}{s:Shared}
def Shw(X:Cx)(s:Shared)(u:Value)(d:PyData):Prop:=∃as bs,Reads s.heap u d as/\ReadAtMost s.heap d.depth bs/\ReprK X.prog X.w bs s.heap d.depth u d.shown
def Dw(X:Cx)(s:Shared)(us:ZM)(ds:List PyData):Prop:=∃as bs,ReadsAll s.heap us ds as/\ReadAtMost s.heap (PyData.depthAll ds) bs/\ReprAllK X.prog X.w bs s.heap (PyData.depthAll ds) us (PyData.shownAll ds)
theorem Dw.cons{u:Value}{d:PyData}{us:ZM}{ds:List PyData}(h:Shw X s u d)(h':Dw X s us ds):Dw X s (u::us) (d::ds):=by
 obtain⟨a1,b1,r1,m1,k1⟩:=h;obtain⟨a2,b2,r2,m2,k2⟩:=h';refine⟨_,b1++b2,.cons r1 r2, ?_, ?_⟩
 .simp only[PyData.depthAll];exact(m1.mono (Nat.le_max_left _ _)).append (m2.mono (Nat.le_max_right _ _))
 .simp only[PyData.depthAll,PyData.shownAll];exact .cons ((k1.more fun b hb=>List.mem_append_left _ hb).level_le (Nat.le_max_left _ _)) (k2.more_le (fun b hb=>S4 _ hb) (Nat.le_max_right _ _))
theorem Dw.nil:Dw X s [] []:=⟨_,[],.nil,(fun _ h=>nomatch h),by simp only[PyData.shownAll];exact .nil⟩
theorem U4{u:Value}{d:PyData}(r:Reads s.heap u d [])(hs:d.showable=true)(hz:d.shown.length<=sizeLine):Shw X s u d:=by
 obtain⟨bs,m,k⟩:=ReprK.of_reads (prog:=X.prog) (w:=X.w) r hs (fun _ h=>nomatch h) hz;exact⟨[],bs,r,m,k⟩
theorem p6{a:Addr}{its:ZM}{ds:List PyData}(h:IsTup s.heap a its.toArray)(c:Dw X s its ds):Shw X s (.ref a) (.tuple ds):=by
 obtain⟨as,bs,r1,m1,k1⟩:=c;obtain⟨o,h1,h2,n,h3⟩:=h;have r:Reads s.heap (.ref a) (.tuple ds) _:=.tuple h1 h2 h3 (by simpa using r1);have bu:a ∉ bs:=not_mem_of_deeper r (by simp only[PyData.depth];omega) m1;refine⟨_,a::bs,r,ReadAtMost.cons r (by simp only[PyData.depth];omega) m1, ?_⟩;simp only[PyData.depth,PyData.shown];exact ReprK.tuple h1 h2 h3 bu (by simpa using k1)
theorem p7{a:Addr}{its:ZM}{ds:List PyData}(h:s.heap.IsList a its.toArray)(c:Dw X s its ds):Shw X s (.ref a) (.list ds):=by
 obtain⟨as,bs,r1,m1,k1⟩:=c;obtain⟨o,h1,h2,n,h3⟩:=h;have r:Reads s.heap (.ref a) (.list ds) _:=.list h1 h2 h3 (by simpa using r1);have bu:a ∉ bs:=not_mem_of_deeper r (by simp only[PyData.depth];omega) m1;refine⟨_,a::bs,r,ReadAtMost.cons r (by simp only[PyData.depth];omega) m1, ?_⟩;simp only[PyData.depth,PyData.shown];cases its with
 | nil =>
  cases r1;simp only[PyData.shownAll,listText_nil];exact ReprK.listEmpty h1 h2 h3
 | cons x l=>exact ReprK.list h1 h2 h3 bu (by simpa using k1.length_eq) (fun i y e=>k1.item i y (by simpa using e))
def ShwE(X:Cx)(s:Shared)(es:List DictEntry)(dk:List (PyData×PyData)):Prop:=Dw X s (es.map (·.key)) (dk.map (·.1))/\Dw X s (es.map (·.val)) (dk.map (·.2))
theorem p9{a:Addr}{o:Obj}{es:Array DictEntry}{n:Nat}{dk:List (PyData×PyData)}(h1:s.heap.get? a=some o)(h2:o.cls=.type "dict")(h3:o.data=.dict es n)(hy:(a == sysModules)=false)(c:ShwE X s es.toList dk):Shw X s (.ref a) (.dict dk):=by
 obtain⟨⟨a1,b1,r1,m1,k1⟩,a2,b2,r2,m2,k2⟩:=c;have r:Reads s.heap (.ref a) (.dict dk) _:=.dict h1 h2 h3 r1 r2;have hb:ReadAtMost s.heap (PyData.depthKv dk) (b1++b2):=(m1.mono (PyData.depthAll_keys_le dk)).append (m2.mono (PyData.depthAll_vals_le dk));have bu:a ∉ b1++b2:=not_mem_of_deeper r (by simp only[PyData.depth];omega) hb;refine⟨_,a::(b1++b2),r,ReadAtMost.cons r (by simp only[PyData.depth];omega) hb, ?_⟩;simp only[PyData.depth,PyData.shown,PyData.shownKv_eq]
 exact ReprK.dict h1 h2 h3 hy bu (ReprEntriesK.of_two es.toList _ _
  (k1.more_le (fun b hb=>List.mem_append_left _ hb) (PyData.depthAll_keys_le dk)) (k2.more_le (fun b hb=>S4 _ hb) (PyData.depthAll_vals_le dk)))
theorem p8{k:Key}{u:Value}(h:(Zg X.prog X.w).is k u=true)(hs:(Ac k).showable=true)(hz:(Ac k).shown.length<=sizeLine):Shw X s u (Ac k):=by
 rcases Zs (show Mn k u=true from h) with ⟨j,t,rfl,rfl⟩ | ⟨y,t,rfl,rfl⟩
 .exact U4 (.int _ _) hs hz
 .exact U4 (.str _ _) hs hz
end
section
variable{X:Cx}{XF:ZY}{j:L2.St}{H F:Hp}{s:Shared}
mutual
theorem Zxy(I:Inv X XF j H s)(fh:∀a o,F a=some o->H a=some o):∀(t:T) (v:V) (u:Value) (d:PyData),IsT X.K X.mg H F t v->RelV v u->toPy t=some d->d.showable=true->d.shown.length<=sizeLine->Shw X s u d
 | .non,v,u,d,h,r,e,hs,hz=>by cases e;cases(show v=_ from h);cases r;exact U4 .none hs hz
 | .bl b,v,u,d,h,r,e,hs,hz=>by cases e;cases(show v=_ from h);cases r;exact U4 (.bool b) hs hz
 | .int b,v,u,d,h,r,e,hs,hz=>by cases e;cases(show v=_ from h);obtain⟨t,rfl⟩:=r;exact U4 (.int b t) hs hz
 | .str b,v,u,d,h,r,e,hs,hz=>by cases e;cases(show v=_ from h);obtain⟨t,rfl⟩:=r;exact U4 (.str b t) hs hz
 | .tup ts,v,u,d,h,r,e,hs,hz=>by
  obtain⟨ds,e1,rfl⟩:=Z4.mp (show (V9 ts).map .tuple=some d by unfold toPy at e;exact e);obtain⟨a,vs,rfl,q,_,ar⟩:=h;cases r;obtain⟨its,rv,tp,_⟩:=I.tuple q;have W6:(tupleText (PyData.shownAll ds)).length<=sizeLine:=by simpa only [PyData.shown] using hz
  exact p6 tp (T7 I fh ts vs its ds ar rv e1 (by simpa [PyData.showable] using hs) fun t m=>Uu (tupleText_mem_le m) W6)
 | .lst ts,v,u,d,h,r,e,hs,hz=>by
  obtain⟨ds,e1,rfl⟩:=Z4.mp (show (V9 ts).map .list=some d by unfold toPy at e;exact e);obtain⟨a,vs,rfl,q,_,ar⟩:=h;cases r;have q':Rd H a (.lst vs):=q.elim (fun q=>.inl (fh _ _ q)) fun⟨o,q⟩=>.inr ⟨o,fh _ _ q⟩;obtain⟨its,rv,pl,_⟩:=I.list (.inl q');have W6:(listText (PyData.shownAll ds)).length<=sizeLine:=by simpa only [PyData.shown] using hz
  exact p7 pl.isList (T7 I fh ts vs its ds ar rv e1 (by simpa [PyData.showable] using hs) fun t m=>Uu (listText_mem_le m) W6)
 | .dct XB,v,u,d,h,r,e,hs,hz=>by
  obtain⟨dk,e1,rfl⟩:=Z4.mp (show (Dy XB).map .dict=some d by unfold toPy at e;exact e);obtain⟨a,ks,rfl,q,_,ar⟩:=h;cases r;have q':Rd H a (.dK ks):=q.elim (fun q=>.inl (fh _ _ q)) fun⟨o,q⟩=>.inr ⟨o,fh _ _ q⟩;obtain⟨_,hy,ws,kv,o,es,ep,h1,h2,h3,_,pr,_⟩:=q'.ok I.hok;have W6:(dictText (PyData.shownKv dk)).length<=sizeLine:=by simpa only [PyData.shown] using hz
  obtain⟨c7,hs2⟩:=PyData.showableKv_split dk (by simpa [PyData.showable] using hs);exact p9 h1 h2.1 h3 hy (vb I fh XB ks ws es.toList dk ar kv pr e1 c7 hs2 (fun t ht=>let ⟨p,hp,hl⟩:=PyData.shownKv_key_le dk t ht;Uu hl (Uu (dictText_mem_le hp) W6)) (fun t ht=>let ⟨p,hp,hl⟩:=PyData.shownKv_val_le dk t ht;Uu hl (Uu (dictText_mem_le hp) W6)))
 | .fn _,v,u,d,h,r,e,hs,hz=>by unfold toPy at e;cases e
theorem T7(I:Inv X XF j H s)(fh:∀a o,F a=some o->H a=some o):∀(ts:ZZ) (vs:ZQ) (us:ZM) (ds:List PyData),Zq X.K X.mg H F ts vs->Zw vs us->V9 ts=some ds->PyData.showableAll ds=true->(∀t∈PyData.shownAll ds,t.length<=sizeLine)->Dw X s us ds
 | [],vs,us,ds,h,r,e,hs,hz=>by
  unfold V9 at e;cases e;cases(show vs=[] from h);cases r;exact Dw.nil
 | t::ts,vs,us,ds,h,r,e,hs,hz=>by
  unfold V9 at e;obtain⟨d,e1,e⟩:=ZO.mp e;obtain⟨ds',e2,rfl⟩:=Z4.mp e;obtain⟨v,vr,rfl,i1,i2⟩:=h;cases r with | cons r1 r2 =>
  have Ng:d.showable=true/\PyData.showableAll ds'=true:=by simpa [PyData.showableAll] using hs
  exact Dw.cons (Zxy I fh t v _ d i1 r1 e1 Ng.1 (hz _ (by simp only[PyData.shownAll];exact Vk ..))) (T7 I fh ts vr _ ds' i2 r2 e2 Ng.2 fun t m=>hz t (by simp only[PyData.shownAll];exact Vb _ m))
theorem vb(I:Inv X XF j H s)(fh:∀a o,F a=some o->H a=some o):∀(XB:ZX) (ks:List (Key×V)) (ws:List (Key×Value)) (es:List DictEntry) (dk:List (PyData×PyData)),Zn X.K X.mg H F XB ks->KV ks ws->Pairs (Zg X.prog X.w) es ws->Dy XB=some dk ->
  PyData.showableAll (dk.map (·.1))=true->PyData.showableAll (dk.map (·.2))=true->(∀t∈PyData.shownAll (dk.map (·.1)),t.length<=sizeLine)->(∀t∈PyData.shownAll (dk.map (·.2)),t.length<=sizeLine)->ShwE X s es dk
 | [],ks,ws,es,dk,h,r,p,e,_,_,_,_=>by
  unfold Dy at e;cases e;cases(show ks=[] from h);cases r;cases p;exact⟨Dw.nil,Dw.nil⟩
 | (k,t)::XB,ks,ws,es,dk,h,r,p,e,c7,hs2,qd,hz2=>by
  unfold Dy at e;obtain⟨d,e1,e⟩:=ZO.mp e;obtain⟨dk',e2,rfl⟩:=Z4.mp e;obtain⟨⟨k2,v⟩,kr,rfl,⟨ek,i1⟩,i2⟩:=h;obtain rfl:k2=k:=ek;cases r with | cons r1 r2 =>
  obtain⟨ek,r1⟩:=r1;cases p with | cons p1 p2 p3 =>
  have ek:k2=_:=ek;rw[<-ek]at p1;rw[Qn]at c7 hs2 qd hz2;have hs1':(Ac k2).showable=true/\PyData.showableAll (dk'.map (·.1))=true:=by simpa [PyData.showableAll] using c7
  have hs2':d.showable=true/\PyData.showableAll (dk'.map (·.2))=true:=by simpa [PyData.showableAll] using hs2
  obtain⟨c1,c2⟩:=vb I fh XB kr _ _ dk' i2 r2 p3 e2 hs1'.2 hs2'.2 (fun t m=>qd t (by simp only[PyData.shownAll];exact Vb _ m)) (fun t m=>hz2 t (by simp only[PyData.shownAll];exact Vb _ m));refine⟨Dw.cons (p8 p1 hs1'.1 (qd _ (by simp only[PyData.shownAll];exact Vk ..))) c1,Dw.cons ?_ c2⟩;show Shw X s _ d;simp only[p2];exact Zxy I fh t v _ d i1 r1 e1 hs2'.1 (hz2 _ (by simp only[PyData.shownAll];exact Vk ..))
end
end
section
variable{X:Cx}{XF:ZY}{j:L2.St}{H F:Hp}{s:Shared}{Q:VK}{x:V}{u:Value}{t:T}
theorem v9{z:Str}(I:Inv X XF j H s)(fh:∀a o,F a=some o->H a=some o)(un:X.A.units+150<cLine)(gd:X.A.guards=some [])(rx:RelV x u)(s1:Nw X.K X.mg H F t x)(e:rpT t=some z)(q:Q (.str z) H) :
  wpAny (model X.prog X.w) X.A (call (.builtin "repr") [u]) (EP X XF j Q) X.xe s:=by
 unfold rpT at e;obtain⟨d,e1,e⟩:=ZO.mp e
 split at e
 .rename_i hh
  cases e;obtain⟨hs,hz,hd⟩:=hh;have fin:∀tk:Nat,EP X XF j Q (.str d.shown s.toks) { s with toks:=tk }:=fun tk=>⟨.str _,H,I.tok _,⟨_,rfl⟩,q⟩;have Of:∀h' u tk,(∀b o,s.heap.get? b=some o->h'.get? b=some o)->∃x t,Value.str d.shown u=.str x t/\EP X XF j Q (.str d.shown u) { s with heap:=h',toks:=tk }:=fun h' u tk k=>⟨_,u,rfl,.str _,H,I.kept k,⟨u,rfl⟩,q⟩;cases t with
  | non=>cases e1;cases(show x=_ from s1);cases rx;exact P.repr_of_none (fin _)
  | bl b=>cases e1;cases(show x=_ from s1);cases rx;simp only[PyData.shown]at fin;exact P.repr_of_bool (fin _)
  | int i =>
   cases e1;cases(show x=_ from s1);obtain⟨w,rfl⟩:=rx;simp only[PyData.shown]at fin;exact P.repr_of_int (by simpa [PyData.showable] using hs) (fin _)
  | str i =>
   cases e1;cases(show x=_ from s1);obtain⟨w,rfl⟩:=rx;simp only[PyData.shown]at fin hz;exact P.repr_of_str (fin _) hz
  | tup ts =>
   obtain⟨ds,e2,rfl⟩:=Z4.mp (show (V9 ts).map .tuple=some d by unfold toPy at e1;exact e1);obtain⟨a,vs,rfl,q1,_,ar⟩:=s1;cases rx;obtain⟨its,rv,tp,_⟩:=I.tuple q1;have W6:(tupleText (PyData.shownAll ds)).length<=sizeLine:=by simpa only [PyData.shown] using hz
   have c:=T7 I fh ts vs its ds ar rv e2 (by simpa [PyData.showable] using hs) fun t m=>Uu (tupleText_mem_le m) W6;obtain⟨as,bs,r1,m1,k1⟩:=c;obtain⟨o,h1,h2,n,h3⟩:=tp;have r:Reads s.heap (.ref a) (.tuple ds) _:=.tuple h1 h2 h3 (by simpa using r1);have bu:a ∉ bs:=not_mem_of_deeper r (by simp only[PyData.depth];omega) m1;simp only[PyData.depth]at hd;simp only[PyData.shown]at Of;exact call_repr_slot (by omega) ⟨o,h1,h2⟩ PySem.F.slot_tuple_repr (call_tuple_reprK h1 h2 h3 bu (by simpa using k1) (g:=[]) gd (fun b _=>Clear.nil b) (by show X.A.units+1+_<_;omega) (fun _ _ e=>e) (fun h' u tk k=>Of h' u tk k) W6)
  | lst ts =>
   obtain⟨ds,e2,rfl⟩:=Z4.mp (show (V9 ts).map .list=some d by unfold toPy at e1;exact e1);obtain⟨a,vs,rfl,q1,_,ar⟩:=s1;cases rx;obtain⟨its,rv,pl,_⟩:=I.list (.inl q1);have W6:(listText (PyData.shownAll ds)).length<=sizeLine:=by simpa only [PyData.shown] using hz
   have c:=T7 I fh ts vs its ds ar rv e2 (by simpa [PyData.showable] using hs) fun t m=>Uu (listText_mem_le m) W6;obtain⟨as,bs,r1,m1,k1⟩:=c;obtain⟨o,h1,h2,n,h3⟩:=pl.isList;have r:Reads s.heap (.ref a) (.list ds) _:=.list h1 h2 h3 (by simpa using r1);have bu:a ∉ bs:=not_mem_of_deeper r (by simp only[PyData.depth];omega) m1;simp only[PyData.depth]at hd;simp only[PyData.shown]at Of;refine call_repr_slot (by omega) ⟨o,h1,h2⟩ PySem.F.slot_list_repr.toG ?_;cases its with
   | nil =>
    cases r1;simp only[PyData.shownAll,listText_nil]at Of;exact call_list_repr_empty ⟨o,h1,h2⟩ h1 h3 (Of s.heap _ _ fun _ _ e=>e)
   | cons y l=>exact call_list_reprK h1 h2 h3 bu (by simpa using k1.length_eq) (fun i y e=>k1.item i y (by simpa using e)) (g:=[]) gd (fun b _=>Clear.nil b) (by show X.A.units+1+_<_;omega) (fun _ _ e=>e) (fun h' u tk k=>Of h' u tk k) W6
  | dct XB =>
   obtain⟨dk,e2,rfl⟩:=Z4.mp (show (Dy XB).map .dict=some d by unfold toPy at e1;exact e1);obtain⟨a,ks,rfl,q1,_,ar⟩:=s1;cases rx;obtain⟨_,hy,ws,kv,o,es,ep,h1,h2,h3,_,pr,_⟩:=q1.ok I.hok;have W6:(dictText (PyData.shownKv dk)).length<=sizeLine:=by simpa only [PyData.shown] using hz
   obtain⟨c7,hs2⟩:=PyData.showableKv_split dk (by simpa [PyData.showable] using hs);have c:=vb I fh XB ks ws es.toList dk ar kv pr e2 c7 hs2 (fun t ht=>let ⟨p,hp,hl⟩:=PyData.shownKv_key_le dk t ht;Uu hl (Uu (dictText_mem_le hp) W6)) (fun t ht=>let ⟨p,hp,hl⟩:=PyData.shownKv_val_le dk t ht;Uu hl (Uu (dictText_mem_le hp) W6));obtain⟨⟨a1,b1,r1,m1,k1⟩,a2,b2,r2,m2,k2⟩:=c;have r:Reads s.heap (.ref a) (.dict dk) _:=.dict h1 h2.1 h3 r1 r2;have hb:ReadAtMost s.heap (PyData.depthKv dk) (b1++b2):=(m1.mono (PyData.depthAll_keys_le dk)).append (m2.mono (PyData.depthAll_vals_le dk));have bu:a ∉ b1++b2:=not_mem_of_deeper r (by simp only[PyData.depth];omega) hb;simp only[PyData.depth]at hd;simp only[PyData.shown,PyData.shownKv_eq]at Of
   exact call_repr_slot (by omega) ⟨o,h1,h2.1⟩ PySem.F.slot_dict_repr (call_dict_reprK h1 h2.1 h3 hy bu (ReprEntriesK.of_two es.toList _ _
    (k1.more_le (fun b hb=>List.mem_append_left _ hb) (PyData.depthAll_keys_le dk)) (k2.more_le (fun b hb=>S4 _ hb) (PyData.depthAll_vals_le dk))) (g:=[]) gd (fun b _=>Clear.nil b) (by show X.A.units+1+_<_;omega) (fun _ _ e=>e) (fun h' u tk k=>Of h' u tk k) (by rw[<-PyData.shownKv_eq];exact W6))
  | fn _=>unfold toPy at e1;cases e1
 .cases e
end
section
variable{X:Cx}
end
end PV
namespace TLT
open PySem PySem.Calls PyProof.Rows SeqAt
def Lt1(s:Shared)(c e:Bool)(l:List (Value×Value)):Prop:=(l=[]/\c=e)\/∃x y,l=[(x,y)]/\(∀A,EqAt A s x y false)/\∀(prog:Program) (w:World) (A:Around) (Q E:ZW),Q (.bool c) s->wpAny (model prog w) A (richCompare .Lt x y) Q E s
theorem wk(l b:Addr)(items items2:ZN)(n n2:Nat)(dd dd2:ZP)(sl sl2:ZF)(c:Bool) :
  Meets (Builtin.«tuple.__lt__» ⟨[.ref l,.ref b],[]⟩)
   (fun A R s=>s.heap.get? l=some { cls:=.type "tuple",dict:=dd,data:=.seq items n,slots:=sl }/\s.heap.get? b=some { cls:=.type "tuple",dict:=dd2,data:=.seq items2 n2,slots:=sl2 } /\
    Lt1 s c (decide (items.size<items2.size)) (items.toList.zip items2.toList)/\R (.ok (.ret (.bool c))) s) :=
 .of_wp fun prog w A R s h=>by
  obtain⟨hp,g,d,tk,os⟩:=s;obtain⟨hl,hb,lx,h⟩:=h;have f2:=AutoSeq1.sub_tuple_tuple
  wp_walk using wpAny_loadPart' hl,wpAny_loadPart' hb,wpAny_forIn_list _ (fun rest b s'=>b.1=none/\s'=⟨hp,g,d,tk,os⟩/\Lt1 ⟨hp,g,d,tk,os⟩ c (decide (items.size<items2.size)) rest) _
  case turn =>
   rintro⟨y,x⟩ rest b s' ⟨nj,rfl,lx⟩;rcases lx with ⟨z,_⟩ | ⟨y',x',e,q1,q2⟩
   .cases z
   .cases e;refine Zb (q1 _ prog w _ _ ?_)
    wp_walk using q2
    exact⟨_,rfl,h⟩
  case fin =>
   rintro⟨b1,b2⟩ s' ⟨z,rfl,lx⟩;rcases lx with ⟨_,e⟩ | ⟨y',x',e,_⟩
   .cases z;subst e
    wp_walk
    exact⟨_,rfl,h⟩
   .cases e
  case h=>exact⟨rfl,rfl,lx⟩
theorem zu{prog:Program}{w:World}{A:Around}{E:ZW}{s:Shared}{l b:Addr}{items items2:ZN}{c:Bool}{Q:ZW}(hl:s.heap.IsTuple l items)(hb:s.heap.IsTuple b items2)(hu:A.units<cLine)(lx:Lt1 s c (decide (items.size<items2.size)) (items.toList.zip items2.toList))(h:Q (.bool c) s):wpAny (model prog w) A (richCompare .Lt (.ref l) (.ref b)) Q E s:=by
 obtain⟨o,ho,hc,n,hd⟩:=hl;obtain⟨o2,ho2,hc2,n2,hd2⟩:=hb;cases o with | mk cls dd data sl =>
 cases o2 with | mk cls2 dd2 data2 sl2 =>
 cases hc;cases hd;cases hc2;cases hd2;have fin:Value.bool c≠Value.notImplemented/\Q (.bool c) s:=⟨fun z=>(nomatch z),h⟩;exact richCompare_meets_room (op:=.Lt) ⟨_,ho,rfl⟩ ⟨_,ho2,rfl⟩ F.slot_tuple_lt F.entry_tuple_lt (F.args_tuple_lt_2 _ _) (wk l b items items2 n n2 dd dd2 sl sl2 c) ⟨ho,ho2,lx,fin⟩ hu
end TLT
namespace PV
open PySem PySem.Spec PyProof.Rows L2 PySem.W
section
variable{K:W.Frag}{mg:ZV}{H F:Hp}{s:Shared}{a b:T}{x y:V}{v u:Value}{r:Bool}{A:Around}
theorem g9(i1:IsT K mg H F a x)(i2:IsT K mg H F b y)(rx:RelV x v)(ry:RelV y u)(h:lt1 a b=some r)(prog:Program)(w:World)(A:Around)(Q E:ZW)(q:Q (.bool r) s):wpAny (model prog w) A (richCompare .Lt v u) Q E s:=by
 unfold lt1 at h
 split at h
 .cases(show x=_ from i1);cases(show y=_ from i2);cases h;obtain⟨t,rfl⟩:=rx;obtain⟨t',rfl⟩:=ry;exact lt_int q
 .cases(show x=_ from i1);cases(show y=_ from i2);cases h;obtain⟨t,rfl⟩:=rx;obtain⟨t',rfl⟩:=ry;exact lt_str q
 .rename_i c d
  cases(show x=_ from i1);cases(show y=_ from i2);cases h;cases rx;cases ry;refine lt_bool ?_;have e:decide (b2i c<b2i d)=(!c && d):=by cases c<;>cases d<;>decide
  rw[e];exact q
 .cases h
theorem gi(h:lt1 a b=some r):Bh a=true/\Bh b=true/\Q2 b=none:=by
 unfold lt1 at h
 split at h<;>first | exact⟨rfl,rfl,rfl⟩ | cases h
theorem ltE_at{prog:Program}{w:World}{Q E:ZW}(tf:TF K H s)(hu:A.units<cLine)(i1:IsT K mg H F a x)(i2:IsT K mg H F b y)(rx:RelV x v)(ry:RelV y u)(ne:eqE a b=some false)(h:ltE a b=some r)(q:Q (.bool r) s):wpAny (model prog w) A (richCompare .Lt v u) Q E s:=by
 unfold ltE at h
 split at h
 .exact g9 i1 i2 rx ry h prog w A Q E q
 .rename_i bs hb
  obtain⟨as,ha,hl⟩:=ZO.mp h
  clear h
  cases Gu hb;cases Gu ha;obtain⟨p,vs,rfl,Z8,_,av⟩:=i1;obtain⟨p',ws,rfl,sq2,_,aw⟩:=i2;cases rx;cases ry;obtain⟨its,rv,tp⟩:=tf _ _ Z8;obtain⟨zs,rz,tq⟩:=tf _ _ sq2;refine TLT.zu tp tq hu ?_ q;show TLT.Lt1 s r _ (its.zip zs);rw[V7,V7];cases as with
  | nil =>
   cases hl;cases(show vs=[] from av);cases rv;refine .inl ⟨rfl, ?_⟩;rw[F7 (aw.length.trans rz.length)];cases zs<;>rfl
  | cons a r' =>
   cases bs with
   | nil =>
    cases hl;cases(show ws=[] from aw);cases rz;exact .inl ⟨List.zip_nil_right,by simp⟩
   | cons b q' =>
    replace hl:(if r'.isEmpty=true/\q'.isEmpty=true then lt1 a b else none)=some r:=hl
    split at hl
    .rename_i he
     obtain rfl:r'=[]:=List.isEmpty_iff.mp he.1;obtain rfl:q'=[]:=List.isEmpty_iff.mp he.2;obtain⟨x1,_,rfl,j1,a1⟩:=av;cases(show _=[] from a1);obtain⟨y1,_,rfl,j2,a2⟩:=aw;cases(show _=[] from a2);cases rv with | cons g1 g2 =>
     cases g2;cases rz with | cons k1 k2 =>
     cases k2;obtain⟨f1,f2,f3⟩:=gi hl;obtain⟨e,e1,n2⟩:=ZO.mp (show (eq1 a b).bind (fun x=>(some true).map (x && ·))=some false from ne);have n3:some (e && true)=some false:=n2;rw[Bool.and_true]at n3;cases n3
     have e1:eqT a b=some false:=by
      unfold eq1 at e1;rw[f3]at e1;exact e1
     refine .inr ⟨_,_,rfl,fun A=>?_,fun prog w A Q E q=>g9 j1 j2 g1 k1 hl prog w A Q E q⟩;obtain⟨fy,⟨fx,e2⟩ | ⟨_,ts,rfl⟩⟩:=Ir j1 (Ky j2 f2) e1
     .rw[e2];exact Fe g1 k1 fx fy
     .cases f1
    .cases hl
theorem P1{prog:Program}{w:World}{Q:Bool->Shared->Prop}(tf:TF K H s)(hu:A.in1.units<cLine):∀{as bs:ZZ} {vs ws:ZQ} {us zs:ZM} {c fin:Bool} {i:Nat},Gm as bs=some c->Zq K mg H F as vs->Zq K mg H F bs ws->Zw vs us->Zw ws zs->fin=decide (us.length<zs.length)->Q c s ->
  KatLex prog w A true fin Q (us.zip zs) (i+1) s
 | [],bs,vs,ws,us,zs,c,fin,i,h,a1,a2,r1,r2,ef,q=>by
  cases(show vs=[] from a1);cases r1;cases h;subst ef;show Q _ s;rw[F7 (a2.length.trans r2.length)]at q;cases zs<;>exact q
 | a::r,[],vs,ws,us,zs,c,fin,i,h,a1,a2,r1,r2,ef,q=>by
  cases(show ws=[] from a2);cases r2;cases h;subst ef;rw[List.zip_nil_right];show Q _ s;simpa using q
 | a::r,b::t,vs,ws,us,zs,c,fin,i,h,a1,a2,r1,r2,ef,q=>by
  obtain⟨x1,vr,rfl,i1,a1⟩:=a1;obtain⟨y1,wr,rfl,i2,a2⟩:=a2;cases r1 with | @cons _ u _ us q1 r1 =>
  cases r2 with | @cons _ z _ zs q2 r2 =>
  obtain⟨e,e1,h⟩:=ZO.mp (show (eqE a b).bind _=some c from h);rw[List.zip_cons_cons];refine kat_cons (eqE_at tf hu i1 i2 q1 q2 e1 prog w _ _ ?_);cases e with
  | true =>
   refine kat_yes (P1 tf hu h a1 a2 r1 r2 ?_ q);rw[ef,D9,D9];exact decide_eq_decide.mpr Nat.succ_lt_succ_iff
  | false =>
   refine kat_no (kat_one _ _ ?_);exact ltE_at tf (Nat.lt_of_succ_lt hu) i1 i2 q1 q2 e1 h q
theorem Tf:∀{ts:ZZ} {vs:ZQ} {us:List (ZZ)},Zq K mg H F ts vs->Bf ts=some us->∀i,i<vs.length->∃p ws k r,vs.getD i .non=.ref p/\Vy K H p ws/\Zq K mg H F (us.getD i []) ws/\us.getD i []=.int k::r/\us.getD i []∈us
 | [],vs,us,h,e,i,hi=>by cases(show vs=[] from h);exact absurd hi (Nat.not_lt_zero _)
 | t::ts,vs,us,h,e,i,hi=>by
  obtain⟨v,r,rfl,q,w⟩:=h;unfold Bf at e
  split at e
  .rename_i z;cases z
  .rename_i z
   cases z;obtain⟨us',e1,rfl⟩:=Z4.mp e;cases i with
   | zero =>
    obtain⟨p,ws,rfl,sq,_,ar⟩:=q;exact⟨p,ws,_,_,rfl,sq,ar,rfl,Vk⟩
   | succ i =>
    obtain⟨p,ws,k,r',h1,h2,h3,h4,h5⟩:=Tf w e1 i (by simpa using hi);exact⟨p,ws,k,r',by simpa using h1,h2,by simpa using h3,by simpa using h4,by simpa using Vb _ h5⟩
  .cases e
end
theorem Zzu{X:Cx}{H F:Hp}{ts:ZZ}{vs:ZQ}{us:List (ZZ)}(un:X.A.units+150<cLine)(ar:Zq X.K X.mg H F ts vs)(e:Bf ts=some us)(all:∀a∈us,∀b∈us,(Gm a b).isSome=true):SRT.Asks X H vs (fun i j=>(Gm (us.getD i []) (us.getD j [])).getD false):=by
 intro XF Z s I s' kp xs rv i j hi hj C hC;obtain⟨m,hn,_⟩:=I.frame
 have tf:TF X.K H s':=fun p ws q=>by
  obtain⟨its,r,⟨o,g1,g2,n,g3⟩,_⟩:=I.tuple q;refine⟨its,r,o,kp p o (fun e=>?_) g1,g2,n,g3⟩;obtain⟨o',es,ep,k1,k2,_⟩:=hn;rw[<-e,g1]at k1;cases k1;rw[g3]at k2;cases k2
 have xl:=rv.length;obtain⟨p,ws,k,r,h1,h2,h3,h4,h5⟩:=Tf ar e i hi;obtain⟨p',ws',k',r',h1',h2',h3',h4',h5'⟩:=Tf ar e j hj;have e1:=SRT.Gp rv (show i<xs.length by omega);have e2:=SRT.Gp rv (show j<xs.length by omega);rw[h1]at e1;rw[h1']at e2;have e1:xs.getD i .none=.ref p:=e1;have e2:xs.getD j .none=.ref p':=e2;rw[e1,e2];obtain⟨its,ri,o,g1,g2,n,g3⟩:=tf p ws h2;obtain⟨jts,rj,o',g1',g2',n',g3'⟩:=tf p' ws' h2';obtain⟨c,ec⟩:=Option.isSome_iff_exists.mp (all _ h5 _ h5');have hC:C ((Gm (us.getD i []) (us.getD j [])).getD false) s':=hC;rw[ec]at hC;rw[h4]at ec h3;rw[h4']at ec h3';obtain⟨x1,vr,rfl,i1,a1⟩:=h3;obtain⟨y1,wr,rfl,i2,a2⟩:=h3';cases(show x1=.int k from i1);cases(show y1=.int k' from i2);cases ri with | @cons _ u0 _ us0 q1 r1 =>
 cases rj with | @cons _ z0 _ Tg q2 r2 =>
 obtain⟨t1,rfl⟩:=(show ∃t,u0=Value.int k t from q1);obtain⟨t2,rfl⟩:=(show ∃t,z0=Value.int k' t from q2);refine kat_lt g1 g3 g1' g3' ?_;show KatLex X.prog X.w _ true _ C ((Value.int k t1,Value.int k' t2)::us0.zip Tg) 0 s';refine kat_cons (SeqAt.EqAt.int_int k t1 k' t2 X.prog X.w _ _ ?_);have ec:(some (decide (k=k'))).bind (fun e=>if e=true then Gm r r' else ltE (.int k) (.int k'))=some c:=ec;have ec:(if decide (k=k')=true then Gm r r' else ltE (.int k) (.int k'))=some c:=ec;by_cases z:k=k'
 .rw[Bk z,if_pos rfl]at ec;rw[show (k == k')=true from beq_iff_eq.mpr z];refine kat_yes (P1 tf (by show X.A.units+1+1+1<cLine;omega) ec a1 a2 r1 r2 ?_ hC);show decide ((Value.int k t1::us0).toArray.size<(Value.int k' t2::Tg).toArray.size)=_;rw[V7,V7,D9,D9];exact decide_eq_decide.mpr Nat.succ_lt_succ_iff
 .rw[Nf z,if_neg (by decide)]at ec;rw[show (k == k')=false from B0n.mpr z];refine kat_no ?_;cases(show some (decide (k<k'))=some c from ec);exact oneLt_int hC
end PV
namespace PV
open PySem PySem.Spec PyProof.Rows L2
theorem Zzp{Z:Type}{xs:List Z}{i:Int}{x:Z}(h:Bq xs i=some x):∃j,qm xs.length i=some j/\xs[j]?=some x:=by
 unfold Bq at h;cases e:qm xs.length i with
 | none=>rw[e]at h;cases h
 | some j=>rw[e]at h;exact⟨j,rfl,h⟩
theorem Zq.at{K:W.Frag}{mg:ZV}{H F:Hp}{ts:ZZ}{vs:ZQ}{i:Int}{t:T}(h:Zq K mg H F ts vs)(e:Bq ts i=some t):∃v,Bq vs i=some v/\IsT K mg H F t v:=by
 obtain⟨j,e1,e2⟩:=Zzp e;obtain⟨v,e3,h2⟩:=h.get e2;exact⟨v,by unfold Bq;rw[<-h.length,e1];exact e3,h2⟩
theorem Zq.cut{K:W.Frag}{mg:ZV}{H F:Hp}{ts:ZZ}{vs:ZQ}(h:Zq K mg H F ts vs)(lo hi:ZR):Zq K mg H F (Y4 ts lo hi) (C2 vs lo hi):=by
 unfold Y4 C2;rw[h.length];exact(h.drop _).take _
theorem Zq.bools{K:W.Frag}{mg:ZV}{H F:Hp}:∀{ts:ZZ} {vs:ZQ} {bs:List Bool},Zq K mg H F ts vs->allB ts=some bs->vs=bs.map V.bl
 | [],vs,bs,h,e=>by cases e;exact h
 | t::ts,vs,bs,h,e=>by
  obtain⟨v,r,rfl,q,w⟩:=h;cases t with
  | bl b =>
   obtain⟨bs',e1,rfl⟩:=Z4.mp (show (allB ts).map (b::·)=some bs from e);rw[Zq.bools w e1];cases(show v=.bl b from q)
   rfl
  | _=>cases e
section
variable{X:Cx}{XF:ZY}{Z σ':L2.St}{H F₁ G:Hp}{s:Shared}{Q:VK}{x y:V}{v u:Value}{t t':T}{p:P}{r:Sl}
theorem ix_run{z:T}{value slice:Expr}(I:Inv X XF σ' H s)(un:X.A.units+150<cLine)(rx:RelV x v)(ry:RelV y u)(s1:Nw X.K X.mg H F₁ t x)(s2:Nw X.K X.mg H F₁ t' y)(e:Qt t t'=some z)(q:∀w,IsT X.K X.mg H F₁ z w->Q w H)
  (hs:subscripted slice false v u=operate [v,u] (getItem v u)):wpAny (model X.prog X.w) X.A (subscriptTail value slice v u) (EP X XF σ' Q) X.xe s:=by
 unfold Qt at e
 split at e
 .cases(show y=_ from s2);obtain⟨a,vs,rfl,h1,z1,ar⟩:=s1;obtain⟨w,e1,e2⟩:=ar.at e;exact ix_tup value slice XF s σ' H _ _ v u Q I rx ry ⟨a,vs,_,w,rfl,rfl,h1,e1,q w e2⟩ hs
 .cases(show y=_ from s2);obtain⟨a,vs,rfl,h1,z1,ar⟩:=s1;obtain⟨w,e1,e2⟩:=ar.at e;exact iu value slice XF s σ' H _ _ v u Q I rx ry ⟨a,vs,_,w,rfl,rfl,.inl h1,e1,q w e2⟩ hs
 .split at e
  .rename_i hz
   cases(show x=_ from s1);cases(show y=_ from s2);obtain⟨c,e1,rfl⟩:=Z4.mp e;exact ix_str value slice XF s σ' H _ _ v u Q I rx ry ⟨_,_,c,rfl,rfl,hz,e1,q _ rfl⟩ hs
  .cases e
 .obtain⟨a,ks,rfl,h1,z1,ar⟩:=s1;obtain⟨k,e1,e2⟩:=ZO.mp e;cases Mc e1 s2;obtain⟨w,h2,h3⟩:=(Zn.val k ar).1 z e2;cases rx;have g:Tv H a (kV k) (some w):=.inl ⟨ks,k,h1,rfl,h2.symm⟩;exact tail_any (Oe I g) slot_dict_getitem.lookup (xm (by omega) I g ry fun w' s' I' v5=>⟨w,H,I',v5,q w h3⟩) hs
 .cases e
theorem pe{lo hi:ZR}{vl vu:Value}{sl:Addr}{z:Str}{tk:Tok}(I:Inv X XF σ' H s)(hs:s.heap.IsSliceOf sl vl vu .none)(pl:IsPart vl lo)(pu:IsPart vu hi)(hz:z.length<=sizeLine)(q:Q (.str (Txt.slice z lo hi)) H) :
  ∃T id,typeLookup (.type T) "__getitem__" = pure (some (.builtin id))/\s.TypeIs (.str z tk) T/\wpAny (model X.prog X.w) X.A (getItem (.str z tk) (.ref sl)) (EP X XF σ' Q) X.xe s:=by
 have q':∀(t':Tok) (k:Nat),EP X XF σ' Q (.str (Txt.slice z lo hi) t') { s with toks:=k }:=fun t' k=>⟨.str _,H,I.tok _,⟨t',rfl⟩,q⟩;refine⟨"str",_,PySem.F.slot_str_getitem.lookup,typeIs_str _ _ _, ?_⟩;cases pl with
 | none=>cases pu with
  | none=>exact wpAny_getItem_str_slice (l:=none) (u:=none) (st:=none) hs rfl (post_val_or_str ⟨Uu (Txt.slice_le z _ _) hz,fun t' k=>q' t' k⟩)
  | int j uj=>exact wpAny_getItem_str_slice (l:=none) (u:=some (j,uj)) (st:=none) hs rfl (post_val_or_str ⟨Uu (Txt.slice_le z _ _) hz,fun t' k=>q' t' k⟩)
 | int i ui=>cases pu with
  | none=>exact wpAny_getItem_str_slice (l:=some (i,ui)) (u:=none) (st:=none) hs rfl (post_val_or_str ⟨Uu (Txt.slice_le z _ _) hz,fun t' k=>q' t' k⟩)
  | int j uj=>exact wpAny_getItem_str_slice (l:=some (i,ui)) (u:=some (j,uj)) (st:=none) hs rfl (post_val_or_str ⟨Uu (Txt.slice_le z _ _) hz,fun t' k=>q' t' k⟩)
theorem Eo{lo hi:ZR}{vl vu:Value}{sl:Addr}(I:Inv X XF σ' H s)(rel:Rel X.K X.mg F₁ G p Z H)(rx:RelV x v)(s1:Nw X.K X.mg H F₁ t x)(hs:s.heap.IsSliceOf sl vl vu .none)(pl:IsPart vl lo)(pu:IsPart vu hi)(e:slT t lo hi=some r)(q:Fin X F₁ G p Z H r Q) :
  ∃T id,typeLookup (.type T) "__getitem__" = pure (some (.builtin id))/\s.TypeIs v T/\wpAny (model X.prog X.w) X.A (getItem v (.ref sl)) (EP X XF σ' Q) X.xe s:=by
 unfold slT at e
 split at e
 .cases e;obtain⟨a,vs,rfl,h1,z1,ar⟩:=s1;exact ph XF s σ' H _ v vl vu lo hi sl Q I rx hs pl pu ⟨a,vs,rfl,h1,fun l H' sm hq=>q.f rel sm ⟨l,_,rfl,hq,Uu (Us _ _ _) z1,Zq.up sm.up (Le.refl _) _ _ (ar.cut lo hi)⟩⟩
 .cases e;obtain⟨a,vs,rfl,h1,z1,ar⟩:=s1;exact p5 XF s σ' H _ v vl vu lo hi sl Q I rx hs pl pu ⟨a,vs,rfl,.inl h1,fun l hl=>q.l rel hl (Uu (Us _ _ _) z1) (ar.cut lo hi)⟩
 .split at e
  .rename_i hz
   cases e;cases(show x=_ from s1);obtain⟨_,rfl⟩:=rx;exact pe I hs pl pu hz (q.h rel rfl)
  .cases e
 .cases e
noncomputable def btV:Pr->Option (Str×Value)
 | .len=>some ("len",.builtin "len")
 | .all=>some ("all",.builtin "all")
 | .any=>some ("any",.builtin "any")
 | .list=>some ("list",.type "list")
 | .tuple=>some ("tuple",.type "tuple")
 | .min=>some ("min",.builtin "min")
 | .max=>some ("max",.builtin "max")
 | .int=>some ("int",.type "int")
 | .abs=>some ("abs",.builtin "abs")
 | .dict=>some ("dict",.type "dict")
 | .sorted=>some ("sorted",.builtin "sorted")
 | .srtP=>some ("sorted",.builtin "sorted")
 | .repr=>some ("repr",.builtin "repr")
 | .str=>some ("str",.type "str")
 | .sum=>some ("sum",.builtin "sum")
 | _=>none
theorem Yr{j Z:Type}{R:j->Z->Prop}{a:j}{bs:List Z}(h:Paired R [a] bs):∃b,bs=[b]/\R a b:=by
 cases h with
 | cons h t=>cases t;exact⟨_,rfl,h⟩
theorem Aa{j Z:Type}{R:j->Z->Prop}{a a':j}{bs:List Z}(h:Paired R [a,a'] bs):∃b b',bs=[b,b']/\R a b/\R a' b':=by
 cases h with
 | cons h t=>obtain⟨b,rfl,h2⟩:=Yr t;exact⟨_,_,rfl,h,h2⟩
theorem bt_run{bq:Pr}{nm:Str}{fv:Value}{ts:ZZ}{xs:ZQ}{us:ZM}(hb:btV bq=some (nm,fv))(hc:X.calm=true)(un:X.A.units+150<cLine)(gd:X.A.guards=some [])(I:Inv X XF σ' H s)(rel:Rel X.K X.mg F₁ G p Z H)(rs:Zw xs us)(se:Paired (Nw X.K X.mg H F₁) ts xs)(e:As bq ts=some r)(q:Fin X F₁ G p Z H r Q) :
  wpAny (model X.prog X.w) X.A (call fv us) (EP X XF σ' Q) X.xe s:=by
 unfold As at e
 split at e<;>first | cases hb | skip
 .unfold pLen at e
  split at e
  rotate_left
  .cases e
  obtain⟨n,e1,rfl⟩:=Z4.mp e;obtain⟨x,rfl,s1⟩:=Yr se;unfold ib at e1
  split at e1
  .cases e1;obtain⟨a,vs,rfl,h1,z1,ar⟩:=s1;exact Nx XF s σ' H _ us Q I rs ⟨a,vs,rfl,.inr h1,q.h rel (by rw[ar.length];rfl)⟩
  .cases e1;obtain⟨a,vs,rfl,h1,z1,ar⟩:=s1;exact Nx XF s σ' H _ us Q I rs ⟨a,vs,rfl,.inl (.inl h1),q.h rel (by rw[ar.length];rfl)⟩
  .cases e1;obtain⟨a,vs,rfl,h1,z1,ar⟩:=s1;obtain⟨u,rfl,rx⟩:=vals1 rs;cases rx;exact d_len I h1 fun t s' I'=>⟨.int vs.length,H,I',⟨t,rfl⟩,q.h rel (by rw[ar.length];rfl)⟩
  .split at e1
   .rename_i hz
    cases e1;cases(show x=_ from s1);exact tm XF s σ' H _ us Q I rs ⟨_,_,rfl,⟨hz,rfl⟩,q.h rel rfl⟩
   .cases e1
  .cases e1
 .unfold pAll at e
  split at e
  rotate_left
  .cases e
  obtain⟨bs,e1,rfl⟩:=Z4.mp e;obtain⟨x,rfl,a,vs,rfl,h1,z1,ar⟩:=Yr se;exact x4 hc XF s σ' H _ us Q I rs ⟨a,bs,rfl,.inl (by rw[<-ar.bools e1];exact h1),q.h rel rfl⟩
 .unfold pAny at e
  split at e
  rotate_left
  .cases e
  obtain⟨bs,e1,rfl⟩:=Z4.mp e;obtain⟨x,rfl,a,vs,rfl,h1,z1,ar⟩:=Yr se;exact xi hc XF s σ' H _ us Q I rs ⟨a,bs,rfl,.inl (by rw[<-ar.bools e1];exact h1),q.h rel rfl⟩
 .unfold Zxr at e
  split at e
  rotate_left
  .cases e
  cases e;obtain⟨x,rfl,a,vs,rfl,h1,z1,ar⟩:=Yr se;exact Qj XF s σ' H _ us Q I rs ⟨a,vs,rfl,.inr h1,fun l hl=>q.l rel hl z1 ar⟩
 .unfold Ao at e
  split at e
  .obtain⟨ws,e1,rfl⟩:=Z4.mp e;obtain⟨x,rfl,a,vs,rfl,h1,z1,ar⟩:=Yr se;obtain⟨ys,k1,k2,k3⟩:=we ar e1;exact SRT.Nz XF s σ' H _ us Q I rs ⟨a,vs,ys,rfl,.inl (.inl h1),k1,fun l hl=>q.l rel hl (by have:=sizeLine_eq;omega) k2⟩
  .obtain⟨ws,e1,rfl⟩:=Z4.mp e;obtain⟨x,rfl,a,ks,rfl,h1,z1,ar⟩:=Yr se;obtain⟨ys,k1,k2,k3⟩:=we ar.keyT e1;exact SRT.Qq hc XF s σ' H _ us Q I rs ⟨a,ks,ys,rfl,h1,k1,fun l hl=>q.l rel hl (by have:=sizeLine_eq;omega) k2⟩
  .cases e
 .unfold k7 at e
  split at e
  rotate_left
  .cases e
  cases e;obtain⟨x,rfl,a,vs,rfl,h1,z1,ar⟩:=Yr se;exact C7 XF s σ' H _ us Q I rs ⟨a,vs,rfl,.inl (.inl h1),fun l H' sm hq=>q.f rel sm ⟨l,vs,rfl,hq,z1,Zq.up sm.up (Le.refl _) _ _ ar⟩⟩
 .unfold pMin at e
  split at e
  rotate_left
  .cases e
  cases e;obtain⟨x,y,rfl,s1,s2⟩:=Aa se;cases(show x=_ from s1);cases(show y=_ from s2);exact xp hc XF s σ' H _ us Q I rs ⟨_,_,rfl,q.h rel rfl⟩
 .unfold pMax at e
  split at e
  rotate_left
  .cases e
  cases e;obtain⟨x,y,rfl,s1,s2⟩:=Aa se;cases(show x=_ from s1);cases(show y=_ from s2);exact xu hc XF s σ' H _ us Q I rs ⟨_,_,rfl,q.h rel rfl⟩
 .unfold pInt at e
  split at e
  rotate_left
  .cases e
  cases e;obtain⟨x,rfl,s1⟩:=Yr se;cases(show x=_ from s1);exact xa XF s σ' H _ us Q I rs (.inr ⟨_,rfl,q.h rel rfl⟩)
 .unfold Zxs at e
  split at e
  rotate_left
  .cases e
  cases e;obtain⟨x,rfl,a,ks,rfl,h1,z1,ar⟩:=Yr se;exact O8 XF s σ' H _ us Q I rs ⟨a,ks,rfl,h1,fun l hl=>let ⟨r1,r2⟩:=rel.newD hl z1 ar;q _ _ _ (Le.refl _) (Zl.lay hl).up r1 r2⟩
 .unfold Zxl at e
  split at e
  rotate_left
  .cases e
  obtain⟨z,e1,rfl⟩:=Z4.mp e;obtain⟨x,rfl,s1⟩:=Yr se;obtain⟨u,rfl,rx⟩:=vals1 rs;exact v9 I rel.b.f un gd rx s1 e1 (q.h rel rfl)
 .unfold Zxn at e
  split at e
  rotate_left
  .cases e
  obtain⟨ws,e1,rfl⟩:=Z4.mp e;obtain⟨x,rfl,a,vs,rfl,h1,z1,ar⟩:=Yr se;obtain⟨us',eu,e1⟩:=ZO.mp (show (Bf _).bind _=some ws from e1);have vl:=ar.length
  split at e1
  .cases e1;exact SRT.Nz XF s σ' H _ us Q I rs ⟨a,vs,vs,rfl,.inr h1,SRT.Ea (by omega),fun l hl=>q.l rel hl z1 ar⟩
  .split at e1
   .rename_i hn
    cases e1;refine SRT.Qx XF s σ' H _ us Q I rs ⟨a,vs,_,rfl,.inr h1,fun z m=>?_,Zzu un ar eu hn.2,by omega,by omega,fun l hl=>?_⟩
    .obtain⟨i,hi,rfl⟩:=List.getElem_of_mem m;obtain⟨p,ws,k,r,g1,g2,g3,g4,_⟩:=Tf ar eu i hi;rw[List.getD_eq_getElem?_getD,Mz hi]at g1;rw[g4]at g3;obtain⟨y,ws',rfl,hy,_⟩:=g3;cases(show y=.int k from hy);exact⟨p,k,ws',g1,g2⟩
    .rw[vl]at q;have pm:=SRT.Wn (n:=vs.length) (by omega) fun i j=>(Gm (us'.getD i []) (us'.getD j [])).getD false;refine q.l rel hl ?_ (ar.pick _ fun i m=>by have:=List.mem_range.mp (pm.mem_iff.mp m);omega);rw[Z0,pm.length_eq,XJ];have:=sizeLine_eq;omega
   .cases e1
 .cases e
end
noncomputable def kdS:Kd->String
 | .int => "int"
 | .bool => "bool"
 | .str => "str"
 | .tuple => "tuple"
 | .list => "list"
 | .dict => "dict"
section
variable{X:Cx}{XF:ZY}{j σ':L2.St}{H F₁ G:Hp}{s:Shared}{Q:VK}{x y:V}{v u:Value}{t t':T}{p:P}{r:Sl}
theorem i6{n:Kd}{b:Bool}(I:Inv X XF σ' H s)(rx:RelV x v)(s1:Nw X.K X.mg H F₁ t x)(e:isiT n t=some b)(q:Q (.bl b) H):wpAny (model X.prog X.w) X.A (call (.builtin "isinstance") [v,.type (kdS n)]) (EP X XF σ' Q) X.xe s:=by
 have fin:∀tk,EP X XF σ' Q (.bool b) { s with toks:=tk }:=fun tk=>⟨.bl _,H,I.tok _,rfl,q⟩;cases t with
 | non=>cases(show x=_ from s1);exact V0 I rx .non (by cases n<;>cases e<;>rfl) fin
 | bl k=>cases(show x=_ from s1);exact V0 I rx (.bl k) (by cases n<;>cases e<;>rfl) fin
 | int k=>cases(show x=_ from s1);exact V0 I rx (.int k) (by cases n<;>cases e<;>rfl) fin
 | str k=>cases(show x=_ from s1);exact V0 I rx (.str k) (by cases n<;>cases e<;>rfl) fin
 | tup ts =>
  obtain⟨a,vs,rfl,hq,_⟩:=s1;cases rx;exact i5 I hq (by cases n<;>cases e<;>rfl) fin
 | lst ts =>
  obtain⟨a,vs,rfl,hq | ⟨o,hq⟩,_⟩:=s1
  .exact V0 I rx (.lst hq) (by cases n<;>cases e<;>rfl) fin
  .exact V0 I rx (.frz hq) (by cases n<;>cases e<;>rfl) fin
 | dct ts =>
  obtain⟨a,ks,rfl,hq,_⟩:=s1;cases rx;obtain⟨_,_,vs,_,o,es,ep,h1,h2,_⟩:=hq.ok I.hok;exact W.kia_one W.kitx_dict I.kIn ⟨o,h1,h2.1⟩ (by cases n<;>cases e<;>rfl) (fun z=>nomatch z) fin
 | fn _=>cases n<;>cases e
def rO(X:Cx)(f:Value->Value->Sem Value):R2:=fun x y H Q=>∀XF s j v u,Inv X XF j H s->RelV x v->RelV y u->wpAny (model X.prog X.w) X.A (f v u) (EP X XF j Q) X.xe s
theorem opr{f:Value->Value->Sem Value}:D5 X f (rO X f):=fun XF s j _ _ _ v u _ I rx ry h=>h XF s j v u I rx ry
def rC(X:Cx)(f:Value):ZQ->Hp->VK->Prop:=fun xs H Q=>∀XF s j us,Inv X XF j H s->Zw xs us->wpAny (model X.prog X.w) X.A (call f us) (EP X XF j Q) X.xe s
theorem O6{f:Value}:Y5 X f (rC X f):=fun XF s j _ _ us _ I rs h=>h XF s j us I rs
def rX(X:Cx):R2:=fun x y H Q=>∀value slice XF s j v u,Inv X XF j H s->RelV x v->RelV y u->subscripted slice false v u=operate [v,u] (getItem v u)->wpAny (model X.prog X.w) X.A (subscriptTail value slice v u) (EP X XF j Q) X.xe s
theorem ixr:IxR X (rX X):=fun value slice XF s j _ _ _ v u _ I rx ry h hs=>h value slice XF s j v u I rx ry hs
def rL(X:Cx):V->ZR->ZR->Hp->VK->Prop:=fun x lo hi H Q=>∀XF s j v vl vu sl,Inv X XF j H s->RelV x v->s.heap.IsSliceOf sl vl vu .none->IsPart vl lo->IsPart vu hi ->
 ∃T id,typeLookup (.type T) "__getitem__" = pure (some (.builtin id))/\s.TypeIs v T/\wpAny (model X.prog X.w) X.A (getItem v (.ref sl)) (EP X XF j Q) X.xe s
theorem slr:SlR X (rL X):=fun XF s j _ _ v vl vu _ _ sl _ I rx hs pl pu h=>h XF s j v vl vu sl I rx hs pl pu
theorem inr_of{us:List Key}{zs:ZD}(h:∀x,x∈us->x∈zs.map Sum.inr):∃us':ZD,us=us'.map Sum.inr:=by
 induction us with
 | nil=>exact⟨[],rfl⟩
 | cons k r ih =>
  obtain⟨r',rfl⟩:=ih fun x m=>h x (Vb _ m);obtain⟨i,_,rfl⟩:=D6.mp (h k Vk);exact⟨i::r',rfl⟩
theorem fq{zs:ZD}{a:Addr}(hc:X.calm=true)(h1:Jj X.K H a (zs.map V.str))(rel:Rel X.K X.mg F₁ G p j H)(hz:zs.length<64)(q:Fin X F₁ G p j H (.f (.int (SRT.qb zs).length)) Q):rC X (.type "set") [.ref a] H fun y H1=>rC X (.builtin "len") [y] H1 Q:=by
 intro XF s σ' ws I rs;have ek:zs.map V.str=(zs.map (Sum.inr:Str->Key)).map kV:=by rw[List.map_map];rfl
 rw[ek]at h1;refine xh hc XF s σ' H _ ws _ I rs ⟨a,zs.map Sum.inr,rfl,.inl h1,by rw[Z0];unfold scanBound;omega,fun l us hl' nd mem len=>?_⟩;intro XF s σ' ws I rs;refine O7 XF s σ' _ _ ws _ I rs ⟨l,us,rfl,Zx, ?_⟩
 have en:us.length=(SRT.qb zs).length:=by
  obtain⟨us',rfl⟩:=inr_of fun x m=>(mem x).mp m;have cn:us'.Nodup:=(List.pairwise_map.mp nd).imp fun h z=>h (by rw[z])
  have mem':∀x,x∈us'↔x∈zs:=fun x=>by
   have:=mem (.inr x);rw[D6,D6]at this;exact⟨fun m=>let ⟨y,h,e⟩:=this.mp ⟨x,m,rfl⟩;by cases e;exact h,fun m=>let ⟨y,h,e⟩:=this.mpr ⟨x,m,rfl⟩;by cases e;exact h⟩
  rw[Z0,(SRT.gy cn mem').length_eq]
 exact q.f rel (Zl.lay hl') (by rw[en];rfl)
end
noncomputable def vis(sc:ZK)(x:Str):Bool:=match sc.lookup x with
 | some .local=>true
 | some .cell=>true
 | some .free=>true
 | _=>false
noncomputable def Rp(sc:ZK)(x:Str):Bool:=sc.lookup x == some .globalImplicit && !(x == ("__debug__" : Str))
noncomputable def U5(N:ZD)(sc:ZK)(i:Nat)(x:Str):Bool:=N[i]? == some x && vis sc x && !(x == ("__debug__" : Str)) && !(x == ("__classdict__" : Str))
def V5:Expr->Bool
 | .Slice _ _ _ _=>false
 | _=>true
def Uq:Expr->Bool
 | .Call _ _ _ _=>false
 | _=>true
inductive Shp where
 | name(y:Str) | bin(a:Expr)(op:Operator)(b:Expr) | cmp(a:Expr)(ops:List CmpOp)(bs:ZC) | un(op:UnaryOp)(a:Expr) | sub(a b:Expr) | dct(ks:List (Option Expr))(vs:ZC)
 | callN (f:Str) (xs:ZC) | callA (o:Expr) (m:Str) (ap:Pos) (xs:ZC) (cp:Pos) | tup (xs:ZC) | lst (xs:ZC) | boo (o:BoolOp) (xs:ZC) (p:Pos) | ife (c a b:Expr) | lc (e:Expr) (g:List Comprehension) (s:Scope) | slc (l h s:Option Expr) | non
noncomputable def shpC:Expr->ZC->List Keyword->Pos->Shp
 | .Name f _,xs,[],_=>.callN f xs
 | .Attribute o m ap,xs,[],cp=>.callA o m ap xs cp
 | _,_,_,_=>.non
noncomputable def T8:Expr->Shp
 | .Name y _=>.name y
 | .BinOp a op b _=>.bin a op b
 | .Compare a ops bs _=>.cmp a ops bs
 | .UnaryOp op a _=>.un op a
 | .Subscript a b _=>.sub a b
 | .Dict ks vs _=>.dct ks vs
 | .Call f xs ks cp=>shpC f xs ks cp
 | .Tuple xs _ _=>.tup xs
 | .List xs _=>.lst xs
 | .BoolOp o xs p=>.boo o xs p
 | .IfExp c a b _=>.ife c a b
 | .ListComp e g s _=>.lc e g s
 | .Slice l h s _=>.slc l h s
 | _=>.non
def ShpI:Shp->Expr->Prop
 | .name y,x=>∃p,x=.Name y p
 | .bin a op b,x=>∃p,x=.BinOp a op b p
 | .cmp a ops bs,x=>∃p,x=.Compare a ops bs p
 | .un op a,x=>∃p,x=.UnaryOp op a p
 | .sub a b,x=>∃p,x=.Subscript a b p
 | .dct ks vs,x=>∃p,x=.Dict ks vs p
 | .callN f xs,x=>∃q p,x=.Call (.Name f q) xs [] p
 | .callA o m ap xs cp,x=>x=.Call (.Attribute o m ap) xs [] cp
 | .tup xs,x=>∃j p,x=.Tuple xs j p
 | .lst xs,x=>∃p,x=.List xs p
 | .boo o xs p,x=>x=.BoolOp o xs p
 | .ife c a b,x=>∃p,x=.IfExp c a b p
 | .lc e g s,x=>∃p,x=.ListComp e g s p
 | .slc l h s,x=>∃p,x=.Slice l h s p
 | .non,_=>True
theorem uz(x:Expr):ShpI (T8 x) x:=by
 cases x
 case Call f xs ks cp =>
  cases f
  case Name=>cases ks with
   | nil=>exact⟨_,_,rfl⟩
   | cons _ _=>trivial
  case Attribute=>cases ks with
   | nil=>rfl
   | cons _ _=>trivial
  all_goals exact True.intro
 case BoolOp=>rfl
 case Tuple=>exact⟨_,_,rfl⟩
 all_goals first | exact⟨_,rfl⟩ | exact True.intro
theorem Z5{x:Expr}{s:Shp}(e:T8 x=s):ShpI s x:=e ▸ uz x
noncomputable def vOp(o:Op)(x:Expr):Option (ZC):=match T8 x with
 | .bin a op b=>if op=opOf o then some [a,b] else none
 | _=>none
theorem vOp_ex{o:Op}{x:Expr}{xs:ZC}(h:vOp o x=some xs):∃a op b p,x=.BinOp a op b p/\(if op=opOf o then some [a,b] else none)=some xs:=by
 unfold vOp at h
 split at h
 .rename_i e
  obtain⟨p,rfl⟩:=Z5 e;exact⟨_,_,_,p,rfl,h⟩
 .cases h
noncomputable def lh(x:Expr):Option (Expr×List CmpOp×ZC):=match T8 x with
 | .cmp a ops bs=>some (a,ops,bs)
 | _=>none
theorem Hm{x a:Expr}{ops:List CmpOp}{bs:ZC}(h:lh x=some (a,ops,bs)):∃p,x=.Compare a ops bs p:=by
 unfold lh at h
 split at h
 .rename_i e
  cases h;exact Z5 e
 .cases h
noncomputable def vCm(c:Cm)(x:Expr):Option (ZC):=match lh x with
 | some (a,[op],[b])=>if op=Dj c/\behindInMarks op b=false then some [a,b] else none
 | _=>none
theorem wz{c:Cm}{x:Expr}{xs:ZC}(h:vCm c x=some xs):∃a op b p,x=.Compare a [op] [b] p/\(if op=Dj c/\behindInMarks op b=false then some [a,b] else none)=some xs:=by
 unfold vCm at h
 split at h
 .rename_i e
  obtain⟨p,rfl⟩:=Hm e;exact⟨_,_,_,p,rfl,h⟩
 .cases h
noncomputable def vC2(c:Cm)(d:Cm)(x:Expr):Option (ZC):=match lh x with
 | some (a,[op,S5],[b,e])=>if op=Dj c/\S5=Dj d/\lastMarks [op,S5] [b,e]=false then some [a,b,e] else none
 | _=>none
theorem wx{c d:Cm}{x:Expr}{xs:ZC}(h:vC2 c d x=some xs):∃a op S5 b e p,x=.Compare a [op,S5] [b,e] p/\(if op=Dj c/\S5=Dj d/\lastMarks [op,S5] [b,e]=false then some [a,b,e] else none)=some xs:=by
 unfold vC2 at h
 split at h
 .rename_i e
  obtain⟨p,rfl⟩:=Hm e;exact⟨_,_,_,_,_,p,rfl,h⟩
 .cases h
noncomputable def vNeg(x:Expr):Option (ZC):=match T8 x with
 | .un op a=>if op=.USub then some [a] else none
 | _=>none
theorem n9{x:Expr}{xs:ZC}(h:vNeg x=some xs):∃a p,x=.UnaryOp .USub a p/\some [a]=some xs:=by
 unfold vNeg at h
 split at h
 .rename_i e
  obtain⟨p,rfl⟩:=Z5 e
  split at h
  .rename_i z;subst z;exact⟨_,p,rfl,h⟩
  .cases h
 .cases h
noncomputable def n8(x:Expr):Option (Expr×Expr):=match T8 x with
 | .sub a b=>some (a,b)
 | _=>none
theorem Hb{x a b:Expr}(h:n8 x=some (a,b)):∃p,x=.Subscript a b p:=by
 unfold n8 at h
 split at h
 .rename_i e
  cases h;exact Z5 e
 .cases h
noncomputable def vIx(x:Expr):Option (ZC):=match n8 x with
 | some (a,b)=>if V5 b=true then some [a,b] else none
 | none=>none
theorem vIx_ex{x:Expr}{xs:ZC}(h:vIx x=some xs):∃a b p,x=.Subscript a b p/\(if V5 b=true then some [a,b] else none)=some xs:=by
 unfold vIx at h
 split at h
 .rename_i e
  obtain⟨p,rfl⟩:=Hb e;exact⟨_,_,p,rfl,h⟩
 .cases h
noncomputable def j9(x:Expr):Option (Expr×Option Expr×Option Expr×Option Expr):=match n8 x with
 | some (a,b)=>(match T8 b with
  | .slc l h s=>some (a,l,h,s)
  | _=>none)
 | none=>none
theorem Ll{x a:Expr}{l hh s:Option Expr}(h:j9 x=some (a,l,hh,s)):∃q p,x=.Subscript a (.Slice l hh s q) p:=by
 unfold j9 at h
 split at h
 .rename_i e
  obtain⟨p,rfl⟩:=Hb e
  split at h
  .rename_i e'
   cases h;obtain⟨q,rfl⟩:=Z5 e';exact⟨q,p,rfl⟩
  .cases h
 .cases h
noncomputable def ju(x:Expr):Option (ZC):=match j9 x with
 | some (a,some l,none,none)=>some [a,l]
 | _=>none
theorem jh{x:Expr}{xs:ZC}(h:ju x=some xs):∃a l q p,x=.Subscript a (.Slice (some l) none none q) p/\some [a,l]=some xs:=by
 unfold ju at h
 split at h
 .rename_i e
  obtain⟨q,p,rfl⟩:=Ll e;exact⟨_,_,q,p,rfl,h⟩
 .cases h
noncomputable def jo(x:Expr):Option (ZC):=match j9 x with
 | some (a,none,some l,none)=>some [a,l]
 | _=>none
theorem ja{x:Expr}{xs:ZC}(h:jo x=some xs):∃a l q p,x=.Subscript a (.Slice none (some l) none q) p/\some [a,l]=some xs:=by
 unfold jo at h
 split at h
 .rename_i e
  obtain⟨q,p,rfl⟩:=Ll e;exact⟨_,_,q,p,rfl,h⟩
 .cases h
noncomputable def js(x:Expr):Option (ZC):=match j9 x with
 | some (a,some l,some u,none)=>some [a,l,u]
 | _=>none
theorem jn{x:Expr}{xs:ZC}(h:js x=some xs):∃a l u q p,x=.Subscript a (.Slice (some l) (some u) none q) p/\some [a,l,u]=some xs:=by
 unfold js at h
 split at h
 .rename_i e
  obtain⟨q,p,rfl⟩:=Ll e;exact⟨_,_,_,q,p,rfl,h⟩
 .cases h
noncomputable def j6(x:Expr):Option (ZC):=match T8 x with
 | .dct [] []=>some []
 | _=>none
theorem j5{x:Expr}{xs:ZC}(h:j6 x=some xs):∃p,x=.Dict [] [] p/\some ([]:ZC)=some xs:=by
 unfold j6 at h
 split at h
 .rename_i e
  obtain⟨p,rfl⟩:=Z5 e;exact⟨p,rfl,h⟩
 .cases h
noncomputable def cu:Expr->Bool
 | .Constant (.int i) _ _=>decide (i=1)
 | _=>false
noncomputable def Ef(x:Expr):Option (Str×ZC):=match T8 x with
 | .callN f xs=>some (f,xs)
 | _=>none
theorem My{x:Expr}{f:Str}{xs:ZC}(h:Ef x=some (f,xs)):∃q p,x=.Call (.Name f q) xs [] p:=by
 unfold Ef at h
 split at h
 .rename_i e
  cases h;exact Z5 e
 .cases h
noncomputable def ji(x:Expr):Option Str:=match T8 x with
 | .name y=>some y
 | _=>none
theorem Ln{x:Expr}{y:Str}(h:ji x=some y):∃p,x=.Name y p:=by
 unfold ji at h
 split at h
 .rename_i e
  cases h;exact Z5 e
 .cases h
noncomputable def vIsi(sc:ZK)(n:Kd)(x:Expr):Option (ZC):=match Ef x with
 | some (f,[a,k])=>(match ji k with
  | some k=>if f = "isinstance" /\ Rp sc f=true/\k=kdS n/\Rp sc k=true then some [a] else none
  | none=>none)
 | _=>none
theorem lq{sc:ZK}{n:Kd}{x:Expr}{xs:ZC}(h:vIsi sc n x=some xs):∃f q a k q' p,x=.Call (.Name f q) [a,.Name k q'] [] p/\(if f = "isinstance" /\ Rp sc f=true/\k=kdS n/\Rp sc k=true then some [a] else none)=some xs:=by
 unfold vIsi at h
 split at h
 .rename_i e
  obtain⟨q,p,rfl⟩:=My e
  split at h
  .rename_i e'
   obtain⟨q',rfl⟩:=Ln e';exact⟨_,q,_,_,q',p,rfl,h⟩
  .cases h
 .cases h
noncomputable def j4(x:Expr):Option (ZC):=match T8 x with
 | .callA o m ap [a] cp=>if m = "get" /\ Uq o=true/\(ap.endLine == cp.line)=true then some [o,a] else none
 | _=>none
theorem j3{x:Expr}{xs:ZC}(h:j4 x=some xs):∃o m ap a cp,x=.Call (.Attribute o m ap) [a] [] cp/\(if m = "get" /\ Uq o=true/\(ap.endLine == cp.line)=true then some [o,a] else none)=some xs:=by
 unfold j4 at h
 split at h
 .rename_i e;exact⟨_,_,_,_,_,Z5 e,h⟩
 .cases h
noncomputable def vIdx(x:Expr):Option (ZC):=match T8 x with
 | .callA o m ap [a] cp=>if m = "index" /\ Uq o=true/\(ap.endLine == cp.line)=true then some [o,a] else none
 | _=>none
theorem lg{x:Expr}{xs:ZC}(h:vIdx x=some xs):∃o m ap a cp,x=.Call (.Attribute o m ap) [a] [] cp/\(if m = "index" /\ Uq o=true/\(ap.endLine == cp.line)=true then some [o,a] else none)=some xs:=by
 unfold vIdx at h
 split at h
 .rename_i e;exact⟨_,_,_,_,_,Z5 e,h⟩
 .cases h
noncomputable def j0(sc:ZK)(x:Expr):Option (ZC):=match Ef x with
 | some (f,[y])=>(match Ef y with
  | some (g,[a])=>if f = "len" /\ Rp sc f=true/\g = "set" /\ Rp sc g=true then some [a] else none
  | _=>none)
 | _=>none
theorem je{sc:ZK}{x:Expr}{xs:ZC}(h:j0 sc x=some xs):∃f q g q' a p' p,x=.Call (.Name f q) [.Call (.Name g q') [a] [] p'] [] p/\(if f = "len" /\ Rp sc f=true/\g = "set" /\ Rp sc g=true then some [a] else none)=some xs:=by
 unfold j0 at h
 split at h
 .rename_i e
  obtain⟨q,p,rfl⟩:=My e
  split at h
  .rename_i e'
   obtain⟨q',p',rfl⟩:=My e';exact⟨_,q,_,q',_,p',p,rfl,h⟩
  .cases h
 .cases h
noncomputable def j8(x:Expr):Option (ZC):=match T8 x with
 | .dct [some k] [v]=>some [k,v]
 | _=>none
theorem j7{x:Expr}{xs:ZC}(h:j8 x=some xs):∃k v p,x=.Dict [some k] [v] p/\some [k,v]=some xs:=by
 unfold j8 at h
 split at h
 .rename_i e
  obtain⟨p,rfl⟩:=Z5 e;exact⟨_,_,p,rfl,h⟩
 .cases h
noncomputable def vBt(sc:ZK)(q:Pr)(x:Expr):Option (ZC):=match Ef x with
 | some (f,a::r)=>(match btV q with
  | some (n,_)=>if f=n/\Rp sc f=true then some (a::r) else none
  | none=>none)
 | _=>none
theorem vBt_ex{sc:ZK}{q:Pr}{x:Expr}{xs:ZC}(h:vBt sc q x=some xs):∃f p0 a r p,x=.Call (.Name f p0) (a::r) [] p/\(match btV q with
  | some (n,_)=>if f=n/\Rp sc f=true then some (a::r) else none
  | none=>none)=some xs:=by
 unfold vBt at h
 split at h
 .rename_i e
  obtain⟨p0,p,rfl⟩:=My e;exact⟨_,p0,_,_,p,rfl,h⟩
 .cases h
noncomputable def view(sc:ZK):Pr->Expr->Option (ZC)
 | .op o=>vOp o
 | .cm c=>vCm c
 | .c2 c d=>vC2 c d
 | .neg=>vNeg
 | .ix=>vIx
 | .sl true false=>ju
 | .sl false true=>jo
 | .sl true true=>js
 | .dnew=>j6
 | .isi n=>vIsi sc n
 | .get1=>j4
 | .idx=>vIdx
 | .lset=>j0 sc
 | .dct1=>j8
 | q=>vBt sc q
noncomputable def Jz:ZD:=["len","all","any","list","tuple","min","max","int","abs","dict","isinstance","sorted","set","range","zip","enumerate","sum","repr","str","bool"]
structure Ctx(X:Cx)(w:W)(k:Nat)(N:ZD)(sc:ZK):Prop where
 nN:X.N=N
 nd:N.Nodup
 nm:∀x c,sc.lookup x=some c->X.env.scope.names.lookup x=some c\/(c=.free/\X.env.scope.names.lookup x=some .cell)
 calm:X.calm=true
 room:V8 k X.A
 bn:∀x∈Jz,X.mg x=none
 fn:∀f as r,w.C f as=some r->∃ps,as.length=ps.length/\Fn X.prog X.w X.K X.mg X.base k f ps (spC X.K X.mg ps.length (w.C f))
 gl:∀x t,w.gl x=some t->∃v u,X.mg x=some u/\RelV v u/\∀H F,IsT X.K X.mg H F t v
 xe:X.xe=cb
 cl:∀x,sc.lookup x=some .cell->X.fn x=true
 lam:sc=Cr->∀T,wm=some T->LamAt X T.P/\X.env.qual++Str.ofString "<lambda>" = T.q
section
variable{X:Cx}{w:W}{k:Nat}{N:ZD}{sc:ZK}
theorem Ctx.un(c:Ctx X w k N sc):X.A.units+150<cLine:=by have:=c.room.un;omega
theorem Ctx.gl'(c:Ctx X w k N sc){x:Str}(h:Rp sc x=true):Gl X x/\(x == ("__debug__" : Str))=false:=by
 unfold Rp at h;rw[Ya,beq_iff_eq]at h;rcases c.nm x _ h.1 with e | ⟨z,_⟩
 .exact⟨e,by simpa using h.2⟩
 .cases z
theorem Ctx.vis(c:Ctx X w k N sc){x:Str}(h:PV.vis sc x=true):Vis X.env.scope x:=by
 unfold PV.vis at h
 split at h
 .rename_i e
  rcases c.nm x _ e with e | ⟨z,_⟩
  .exact .inl e
  .cases z
 .rename_i e
  rcases c.nm x _ e with e | ⟨z,_⟩
  .exact .inr (.inl e)
  .cases z
 .rename_i e
  rcases c.nm x _ e with e | ⟨_,e⟩
  .exact .inr (.inr e)
  .exact .inr (.inl e)
 .cases h
theorem Ctx.var(c:Ctx X w k N sc){i:Nat}{x:Str}{pos:Pos}(h:U5 N sc i x=true):PE X (.Name x pos) (tVar i):=by
 unfold U5 at h;simp only[Ya,beq_iff_eq]at h;obtain⟨⟨⟨h1,h2⟩,h3⟩,h4⟩:=h;exact pe_var (by rw[c.nN];exact h1) (c.vis h2) (by simpa using h3) (by simpa using h4)
theorem Ib{q:Pr}{es:E}{p p':P}{r:Sl}(e:ev w (.pr q es) p=some (r,p')):∃as ts,Jn w true es p=some (as,p')/\looks p' as=some ts/\As q ts=some r:=by
 replace e:=(ev_prQ _ _).symm.trans e
 obtain⟨a,e1,e⟩:=ZO.mp e;obtain⟨ts,e2,e⟩:=ZO.mp e;obtain⟨s,e3,e⟩:=Z4.mp e;cases e;exact⟨a.1,ts,e1,e2,e3⟩
mutual
def de:E->Bool
 | .k _=>true
 | .g _=>true
 | .v _=>true
 | .pr _ es=>M9 es
 | _=>false
def M9:E->Bool
 | .nil=>true
 | .cons a r=>de a && M9 r
 | _=>false
end
mutual
theorem calm_h:∀(a:E) {p p':P} {a':A},de a=true->P7 true a p (toT (ev w a p))=some (a',p')->p'=p
 | .v i,p,p',a',_,e=>by
  unfold P7 at e;dsimp only at e;rw[if_pos rfl]at e
  split at e
  .cases e;rfl
  .cases e
 | .k t,p,p',a',_,e=>by cases e;rfl
 | .g x,p,p',a',_,e=>by
  have e:(toT ((w.gl x).map fun t=>(Sl.f t,p))).map (fun q=>(A.t q.1,q.2))=some (a',p'):=e;cases q:w.gl x with
  | none=>rw[q]at e;cases e
  | some t=>rw[q]at e;cases e;rfl
 | .pr q es,p,p',a',h,e=>by
  have e:(toT (ev w (.pr q es) p)).map (fun q=>(A.t q.1,q.2))=some (a',p'):=e;obtain⟨z,e1,e2⟩:=Z4.mp e;cases e2;unfold toT at e1;obtain⟨y,e3,e4⟩:=ZO.mp e1;obtain⟨t,e5,e6⟩:=Z4.mp e4;cases e6;obtain⟨as,ts,e7,_,_⟩:=Ib (r:=y.1) (p':=y.2) e3;exact D2 es h e7
 | .mv _,_,_,_,h,_=>by cases h
 | .io _,_,_,_,h,_=>by cases h
 | .nil,_,_,_,h,_=>by cases h
 | .cons _ _,_,_,_,h,_=>by cases h
 | .tup _,_,_,_,h,_=>by cases h
 | .lst _,_,_,_,h,_=>by cases h
 | .and _ _,_,_,_,h,_=>by cases h
 | .or _ _,_,_,_,h,_=>by cases h
 | .not _,_,_,_,h,_=>by cases h
 | .ite _ _ _,_,_,_,h,_=>by cases h
 | .call _ _,_,_,_,h,_=>by cases h
 | .cal _ _,_,_,_,h,_=>by cases h
 | .mt _ _ _,_,_,_,h,_=>by cases h
 | .comp _ _ _ _ _ _,_,_,_,h,_=>by cases h
 | .itr _ _,_,_,_,h,_=>by cases h
 | .tmp _,_,_,_,h,_=>by cases h
theorem D2:∀(es:E) {p p':P} {as:List A},M9 es=true->Jn w true es p=some (as,p')->p'=p
 | .nil,p,p',as,_,e=>(Yd e).2
 | .cons a r,p,p',as,h,e=>by
  obtain⟨a',p1,as',e1,e2,rfl⟩:=Zd e;have h:(de a && M9 r)=true:=h;rw[Ya]at h;exact(D2 r h.2 e2).trans (calm_h a h.1 e1)
 | .v _,_,_,_,h,_=>by cases h
 | .k _,_,_,_,h,_=>by cases h
 | .g _,_,_,_,h,_=>by cases h
 | .pr _ _,_,_,_,h,_=>by cases h
 | .mv _,_,_,_,h,_=>by cases h
 | .io _,_,_,_,h,_=>by cases h
 | .tup _,_,_,_,h,_=>by cases h
 | .lst _,_,_,_,h,_=>by cases h
 | .and _ _,_,_,_,h,_=>by cases h
 | .or _ _,_,_,_,h,_=>by cases h
 | .not _,_,_,_,h,_=>by cases h
 | .ite _ _ _,_,_,_,h,_=>by cases h
 | .call _ _,_,_,_,h,_=>by cases h
 | .cal _ _,_,_,_,h,_=>by cases h
 | .mt _ _ _,_,_,_,h,_=>by cases h
 | .comp _ _ _ _ _ _,_,_,_,h,_=>by cases h
 | .itr _ _,_,_,_,h,_=>by cases h
 | .tmp _,_,_,_,h,_=>by cases h
end
noncomputable def quiet:Pr->E->Bool
 | .c2 _ _,.cons _ (.cons _ r)=>M9 r
 | .sl true true,.cons _ (.cons _ r)=>M9 r
 | .get1,.cons _ r=>M9 r
 | .idx,.cons _ r=>M9 r
 | .get2,.cons _ r=>M9 r
 | .c2 _ _,_=>false
 | .sl true true,_=>false
 | .get1,_=>false
 | .idx,_=>false
 | .get2,_=>false
 | _,_=>true
theorem kz{b:Expr}(h:V5 b=true):Xz b:=fun o i=>by cases b<;>first | rfl | cases h
theorem Je{o:Expr}(h:Uq o=true)(m:Str)(env:Env)(wh:Sem Value):attributeBase o m env wh=wh:=by
 cases o<;>first | rfl | cases h
theorem Zn.valT{K:W.Frag}{mg:ZV}{H F:Hp}:∀{XB:ZX} {ks:List (Key×V)},Zn K mg H F XB ks->Zq K mg H F (XB.map (·.2)) (ks.map (·.2))
 | [],ks,h=>by cases(show ks=[] from h);rfl
 | p::r,ks,h=>by
  obtain⟨q,rs,rfl,i,w⟩:=h;obtain⟨k,t⟩:=p;exact⟨_,_,rfl,i.2,Zn.valT w⟩
theorem Zzh(n:Kd):bootBuiltins (kdS n:Str)=some (.type (kdS n)):=by cases n<;>decide +kernel
theorem ip(n:Kd):(kdS n:Str) ≠ "__name__" := by cases n<;>decide +kernel
theorem Zzs{q:Pr}{n:Str}{fv:Value}(h:btV q=some (n,fv)):bootBuiltins n=some fv/\n ≠ "__name__" /\ n∈Jz/\((∃i,fv=.builtin i)\/∃t,fv=.type t):=by
 cases q<;>cases h
 all_goals exact⟨by decide +kernel,by decide +kernel,by decide +kernel,by first | exact .inl ⟨_,rfl⟩ | exact .inr ⟨_,rfl⟩⟩
theorem Kt{es:ZC}{env:Env}{cpos:Pos}(h:∀e∈es,noStar e=true)(hl:es.length<30):((backTo cpos (starEach es env)).all (fun x=>!x.1) && (backToKw cpos (keywordEach [] env)).all (fun x=>x.1.isSome)
  && decide (es.length+([]:List Keyword).length+(if ([]:List Keyword).isEmpty then 0 else 1)<30))=true:=by
 have h1:(backTo cpos (starEach es env)).all (fun x=>!x.1)=true:=by
  rw[List.all_eq_not_any_not];have:=Yo es env cpos h;simp only[Bool.not_not];rw[this];rfl
 rw[h1];show (true && true && decide (es.length+0+0<30))=true;rw[Bk (by omega)]
 rfl
theorem Rel.gnew{K:W.Frag}{mg:ZV}{F G H:Hp}{p:P}{j:L2.St}{D:Addr}(r:Rel K mg F G p j H)(hD:H D=none):Rel K mg F (upd G D (.dK [])) p j (upd H D (.dK [])):=by
 have s:Zl H (upd H D (.dK [])):=Zl.lay hD;have nD:∀{a:Addr} {o:HO},H a=some o->a≠D:=fun h z=>by rw[z,hD]at h;cases h
 refine⟨⟨fun a o e=>s a o (r.b.f a o e),fun a o e=>?_,fun a e=>?_,fun T e=>let ⟨f1,g1,t1⟩:=r.b.t T e;⟨f1,by rw[Zz (t1.no hD).symm];exact g1,t1.same s⟩⟩,(r.same s).fz,fun i t e=>?_,r.ap,r.ln⟩
 .by_cases z:a=D
  .subst z;rw[Zx]at e ⊢;exact e
  .rw[Zz z]at e ⊢;exact r.b.g a o e
 .cases q:F a with
  | none=>exact absurd q e
  | some o=>rw[Zz (nD (r.b.f a o q))];exact r.b.d a e
 .obtain⟨a,h1,h2,h3,h4⟩:=r.ow i t e;obtain⟨o,ho⟩:=h4.some;exact⟨a,h1,h2,by rw[Zz (nD ho)];exact h3,h4.same s (Le.refl F)⟩
theorem Rel.gdone{K:W.Frag}{mg:ZV}{F G H:Hp}{p:P}{j:L2.St}{D:Addr}{XB:List (Key×V)}(r:Rel K mg F (upd G D (.dK [])) p j H)(gD:G D=none):Rel K mg F G p j (upd H D (.dK XB))/\Up K H (upd H D (.dK XB))/\F D=none/\∀(i:Nat) (u:T),p[i]?=some (Sl.o u)->j[i]?≠some (some (V.ref D)):=by
 have hD:H D=some (.dK []):=r.b.g D _ Zx
 have fD:F D=none:=by
  cases q:F D with
  | none=>rfl
  | some o=>have:=r.b.d D (by rw[q];exact fun z=>nomatch z);rw[Zx]at this;cases this
 have u:Up K H (upd H D (.dK XB)):=fun c xs q=>by
  rcases q with (q | ⟨u,q⟩) | q
  .exact .inl (.inl (by rw[Zz fun z=>by rw[z,hD]at q;cases q];exact q))
  .exact .inl (.inr ⟨u,by rw[Zz fun z=>by rw[z,hD]at q;cases q];exact q⟩)
  .exact .inr q
 have own:∀(i:Nat) (t:T),p[i]?=some (Sl.o t)->∃a,j[i]?=some (some (V.ref a))/\F a=none/\a≠D/\G a=none/\Rb K mg H F a t:=fun i t e=>by
  obtain⟨a,h1,h2,h3,h4⟩:=r.ow i t e;have ne:a≠D:=fun z=>by rw[z,Zx]at h3;cases h3
  exact⟨a,h1,h2,ne,by rw[Zz ne]at h3;exact h3,h4⟩
 refine⟨⟨⟨fun a o e=>?_,fun a o e=>?_,fun a e=>?_,fun T e=>let ⟨f1,g1,t1⟩:=r.b.t T e;⟨f1,by rw[Zz (t1.ne hD Ap).symm]at g1;exact g1,t1.upd hD Ap⟩⟩,fun i t e=>let ⟨v,h1,h2⟩:=r.fz i t e;⟨v,h1,IsT.up u (Le.refl F) t v h2⟩,fun i t e=>let ⟨a,h1,h2,ne,h3,h4⟩:=own i t e;⟨a,h1,h2,h3,h4.up u (Le.refl F) (Zz ne)⟩,r.ap,r.ln⟩,u,fD,fun i t e z=>?_⟩
 .rw[Zz fun z=>by rw[z,fD]at e;cases e];exact r.b.f a o e
 .have ne:a≠D:=fun z=>by rw[z,gD]at e;cases e
  rw[Zz ne];exact r.b.g a o (by rw[Zz ne];exact e)
 .have ne:a≠D:=fun z=>by rw[z]at e;exact e fD
  have:=r.b.d a e;rw[Zz ne]at this;exact this
 .obtain⟨a,h1,_,ne,_⟩:=own i t e;rw[h1]at z;cases z;exact ne rfl
theorem bb{n:Int}:∀{zs:ZL} {j:Nat},Kb n zs=some j->zs[j]?=some n/\∀m,m<j->zs[m]?≠some n
 | [],j,h=>by cases h
 | z::r,j,h=>by
  unfold Kb at h
  split at h
  .rename_i e
   cases h;exact⟨by rw[e];rfl,fun m hm=>absurd hm (Nat.not_lt_zero _)⟩
  .rename_i e
   obtain⟨k,e1,rfl⟩:=Z4.mp h;obtain⟨h1,h2⟩:=bb e1;refine⟨by simpa using h1,fun m hm=>?_⟩;cases m with
   | zero=>simpa using e
   | succ m=>simpa using h2 m (by omega)
theorem y4(c:Ctx X w k N sc){q:Pr}{es:E}{x:Expr}{xs:ZC}(hv:view sc q x=some xs)(hs:Hs X w true es xs)(h3:quiet q es=true):PE X x (LE X.K X.mg w (.pr q es)):=by
 intro XF s Z H Q I h;obtain⟨F,G,p,r,p',rel,e,kq⟩:=h;obtain⟨as,ts,e1,e2,e3⟩:=Ib e;have un:=c.un;have kf:∀{F2 H2:Hp},Le F F2->Up X.K H H2->Fin X F2 G p' Z H2 r Q:=fun l u F3 H3 v l3 u3=>kq F3 H3 v (l.trans l3) (u.trans u3);unfold view at hv
 split at hv
 .replace hv:=vOp_ex hv
  obtain⟨a,op,b,pp,rfl,hv⟩:=hv
  split at hv
  .rename_i ho
   cases hv;subst ho;cases hs with | cons ha _ t=>cases t with | cons hb _ t=>cases t with | nil =>
   refine pe_op opr ha hb XF s Z H Q I (Ws e1 e2 rel fun F2 H2 x y t1 t2 et l u Zo s1 s2=>?_);subst et;exact fun XF s σ' v u' I rx ry=>op_run _ I Zo rx ry s1 s2 e3 (kf l u)
  .cases hv
 .replace hv:=wz hv
  obtain⟨a,op,b,pp,rfl,hv⟩:=hv
  split at hv
  .rename_i ho
   cases hv;obtain⟨ho,hm⟩:=ho;subst ho;cases hs with | cons ha _ t=>cases t with | cons hb _ t=>cases t with | nil =>
   refine ao opr ha hb hm XF s Z H Q I (Ws e1 e2 rel fun F2 H2 x y t1 t2 et l u Zo s1 s2=>?_);subst et;obtain⟨b,e4,rfl⟩:=Z4.mp e3;exact fun XF s σ' v u' I rx ry=>Bz _ I Zo.b.f un rx ry s1 s2 e4 ((kf l u).h Zo rfl)
  .cases hv
 .replace hv:=wx hv
  obtain⟨a,op,S5,b,e0,pp,rfl,hv⟩:=hv
  split at hv
  .rename_i ho
   cases hv;obtain⟨ho,R1,hm⟩:=ho;subst ho R1;cases hs with | cons ha _ t=>cases t with | cons hb _ t=>cases t with | cons hc _ t=>cases t with | nil =>
   obtain⟨a',p1,as1,q1,q2,rfl⟩:=Zd e1;obtain⟨b',p2,as2,q3,q4,rfl⟩:=Zd q2;obtain⟨c',p3,as3,q5,q6,rfl⟩:=Zd q4;obtain⟨rfl,rfl⟩:=Yd q6;obtain⟨t1,r1,l1,l2,rfl⟩:=Zk e2;obtain⟨t2,r2,l3,l4,rfl⟩:=Zk l2;obtain⟨t3,r3,l5,l6,rfl⟩:=Zk l4;cases l6;have ep:=D2 _ h3 q4;subst ep;obtain⟨b1,c1,e3⟩:=ZO.mp e3;refine ku opr opr ha hb hc hm XF s Z H Q I ⟨F,G,p,a',p1,rel,q1,fun F1 H1 x P2 u1 Xi Vc=>⟨F1,G,p1,b',_,Xi,q3,fun F2 H2 y Rn u2 Nl Bj=>?_⟩⟩;have s1:=Nl.look l1 (Ar.up u2 Rn Vc);have s2:=Nl.look l3 Bj;refine fun XF s σ' v u' I rx ry=>Bz _ I Nl.b.f un rx ry s1 s2 c1 ⟨b1,rfl, ?_⟩;cases b1 with
   | false=>cases e3;exact(kf (P2.trans Rn) (u1.trans u2)).h Nl rfl
   | true =>
    obtain⟨b2,c2,rfl⟩:=Z4.mp e3;refine⟨F2,G,_,c',_,Nl,q5,fun F3 H3 z le3 u3 Xo ar3=>?_⟩;exact fun XF s σ' v u' I rx ry=>Bz _ I Xo.b.f un rx ry (Xo.look l3 (Ar.up u3 le3 Bj)) (Xo.look l5 ar3) c2 ((kf ((P2.trans Rn).trans le3) ((u1.trans u2).trans u3)).h Xo rfl)
  .cases hv
 .replace hv:=n9 hv
  obtain⟨a,pp,rfl,hv⟩:=hv;cases hv;cases hs with | cons ha _ t=>cases t with | nil =>
  refine pe_un un_neg ha XF s Z H Q I (yc e1 e2 rel fun F2 H2 x t1 et l u Zo s1=>?_);subst et;cases t1<;>cases e3
  cases(show x=_ from s1);exact⟨_,rfl,(kf l u).h Zo rfl⟩
 .replace hv:=vIx_ex hv
  obtain⟨a,b,pp,rfl,hv⟩:=hv
  split at hv
  .rename_i hn
   cases hv;cases hs with | cons ha _ t=>cases t with | cons hb _ t=>cases t with | nil =>
   refine pe_ix ixr ha hb (kz hn) XF s Z H Q I (Ws e1 e2 rel fun F2 H2 x y t1 t2 et l u Zo s1 s2=>?_);subst et;obtain⟨z,e4,rfl⟩:=Z4.mp e3;exact fun value slice XF s σ' v u' I rx ry hs=>ix_run I un rx ry s1 s2 e4 (fun v h=>(kf l u).h Zo h) hs
  .cases hv
 .replace hv:=jh hv
  obtain⟨a,l,qq,pp,rfl,hv⟩:=hv;cases hv;cases hs with | cons ha _ t=>cases t with | cons hb _ t=>cases t with | nil =>
  refine Cw slr ha (Tn hb) Ah XF s Z H Q I (Ws e1 e2 rel fun F2 H2 x y t1 t2 et l u Zo s1 s2=>?_);subst et;obtain⟨i,e4,e5⟩:=ZO.mp e3;cases t2<;>cases e4
  cases(show y=_ from s2);exact⟨_,rfl,fun XF s σ' v vl vu sl I rx hs pl pu=>Eo I Zo rx s1 hs pl pu e5 (kf l u)⟩
 .replace hv:=ja hv
  obtain⟨a,l,qq,pp,rfl,hv⟩:=hv;cases hv;cases hs with | cons ha _ t=>cases t with | cons hb _ t=>cases t with | nil =>
  refine Cw slr ha Ah (Tn hb) XF s Z H Q I (Ws e1 e2 rel fun F2 H2 x y t1 t2 et l u Zo s1 s2=>?_);subst et;obtain⟨i,e4,e5⟩:=ZO.mp e3;cases t2<;>cases e4
  cases(show y=_ from s2);exact⟨_,rfl,fun XF s σ' v vl vu sl I rx hs pl pu=>Eo I Zo rx s1 hs pl pu e5 (kf l u)⟩
 .replace hv:=jn hv
  obtain⟨a,l,u0,qq,pp,rfl,hv⟩:=hv;cases hv;cases hs with | cons ha _ t=>cases t with | cons hb _ t=>cases t with | cons hc _ t=>cases t with | nil =>
  obtain⟨a',p1,as1,q1,q2,rfl⟩:=Zd e1;obtain⟨b',p2,as2,q3,q4,rfl⟩:=Zd q2;obtain⟨c',p3,as3,q5,q6,rfl⟩:=Zd q4;obtain⟨rfl,rfl⟩:=Yd q6;obtain⟨t1,r1,l1,l2,rfl⟩:=Zk e2;obtain⟨t2,r2,l3,l4,rfl⟩:=Zk l2;obtain⟨t3,r3,l5,l6,rfl⟩:=Zk l4;cases l6;obtain⟨i,e4,e5⟩:=ZO.mp e3;obtain⟨j,e6,e7⟩:=ZO.mp e5;obtain rfl:t2=.int i:=by cases t2<;>cases e4;rfl
  obtain rfl:t3=.int j:=by cases t3<;>cases e6;rfl
  refine Cw slr ha (Tn hb) (Tn hc) XF s Z H Q I ⟨F,G,p,a',p1,rel,q1,fun F1 H1 x P2 u1 Xi Vc=>⟨F1,G,p1,b',p2,Xi,q3,fun F2 H2 y Rn u2 Nl Bj=>?_⟩⟩;have ep:=D2 _ h3 q4;subst ep;refine⟨i,Nl.look l3 Bj,F2,G,_,c',_,Nl,q5,fun F3 H3 z le3 u3 Xo ar3=>⟨j,Xo.look l5 ar3, ?_⟩⟩;exact fun XF s σ' v vl vu sl I rx hs pl pu=>Eo I Xo rx (Xo.look l1 (Ar.up (u2.trans u3) (Rn.trans le3) Vc)) hs pl pu e7 (kf (P2.trans (Rn.trans le3)) (u1.trans (u2.trans u3)))
 .replace hv:=j5 hv
  obtain⟨pp,rfl,hv⟩:=hv;cases hv;cases hs;obtain⟨rfl,rfl⟩:=Yd e1;cases e2;cases e3;exact kl XF s Z H Q I fun l hl=>let ⟨r1,r2⟩:=rel.newD (ts:=[]) (vs:=[]) hl (B2 _) rfl;kq F _ _ (Le.refl _) (Zl.lay hl).up r1 r2
 .rename_i n
  replace hv:=lq hv
  obtain⟨f,qq,a,k',q1,pp,rfl,hv⟩:=hv
  split at hv
  .rename_i ho
   cases hv;obtain⟨hf,g1,hk,g2⟩:=ho;subst hf hk;cases hs with | cons ha sa t=>cases t with | nil =>
   obtain⟨gg1,gd1⟩:=c.gl' g1;obtain⟨gg2,gd2⟩:=c.gl' g2;refine Cv O6 gg1 (c.bn _ (by decide +kernel)) (show bootBuiltins "isinstance" = some (.builtin "isinstance") by decide +kernel) (Ga ha (Ga (k6 gg2 (c.bn _ (by cases n<;>decide +kernel)) (Zzh n) (ip n) gd2) Ck rfl) (Z7 sa)) (by decide +kernel) gd1 (Z7 sa) rfl XF s Z H Q I (yc e1 e2 rel fun F2 H2 x t1 et l u Zo s1=>?_);subst et;obtain⟨b,e4,rfl⟩:=Z4.mp e3;intro XF s σ' us I rs;obtain⟨v1,v2,rfl,r1,r2⟩:=vals2 rs;cases r2;exact i6 I r1 s1 e4 ((kf l u).h Zo rfl)
  .cases hv
 .replace hv:=j3 hv
  obtain⟨o,m,ap,a,cp,rfl,hv⟩:=hv
  split at hv
  .rename_i ho
   cases hv;obtain⟨hm,hn,hl⟩:=ho;subst hm;cases hs with | cons ha sa t=>cases t with | cons hb sb t=>cases t with | nil =>
   obtain⟨a',p1,as1,q1,q2,rfl⟩:=Zd e1;have ep:=D2 _ h3 q2;subst ep;obtain⟨b',p2,as2,q3,q4,rfl⟩:=Zd q2;obtain⟨rfl,rfl⟩:=Yd q4;obtain⟨t1,r1,l1,l2,rfl⟩:=Zk e2;obtain⟨t2,r2,l3,l4,rfl⟩:=Zk l2;cases l4;cases t1<;>first | cases e3 | skip
   obtain⟨kk,e4,rfl⟩:=Z4.mp e3;refine kh (by omega) ha hb ⟨Je hn _ _ _,Kt (fun e m=>by cases U1.mp m;exact sb) (Wy (Nat.lt_succ_self 1) (by decide)),hl,by rw[Z7 sb];rfl⟩ XF s Z H Q I ⟨F,G,p,a',_,rel,q1,fun F1 H1 x P2 u1 Xi Vc=>?_⟩;obtain⟨a,ks,rfl,h1,z1,ar⟩:=Xi.look l1 Vc;refine⟨a,rfl,.inl ⟨ks,h1⟩,F1,G,_,b',_,Xi,q3,fun F2 H2 y Rn u2 Nl Bj=>?_⟩;obtain⟨a2,ks2,ea,h2,z2,ar'⟩:=Nl.look l1 (Ar.up u2 Rn Vc);cases ea;cases Mc e4 (Nl.look l3 Bj);obtain⟨i1,i2⟩:=Zn.val kk ar';refine⟨_,.inl ⟨ks2,kk,h2,rfl,rfl⟩, ?_⟩;refine(kf (P2.trans Rn) (u1.trans u2)).h Nl ?_;cases e5:Zr _ kk with
   | none=>rw[i2 e5];rfl
   | some t=>obtain⟨v,h3,h4⟩:=i1 t e5;rw[h3];exact h4
  .cases hv
 .replace hv:=lg hv
  obtain⟨o,m,ap,a,cp,rfl,hv⟩:=hv
  split at hv
  .rename_i ho
   cases hv;obtain⟨hm,hn,hl⟩:=ho;subst hm;cases hs with | cons ha sa t=>cases t with | cons hb sb t=>cases t with | nil =>
   obtain⟨a',p1,as1,q1,q2,rfl⟩:=Zd e1;have ep:=D2 _ h3 q2;subst ep;obtain⟨b',p2,as2,q3,q4,rfl⟩:=Zd q2;obtain⟨rfl,rfl⟩:=Yd q4;obtain⟨t1,r1,l1,l2,rfl⟩:=Zk e2;obtain⟨t2,r2,l3,l4,rfl⟩:=Zk l2;cases l4;cases t1<;>first | cases e3 | skip
   rename_i ts
   cases t2<;>first | cases e3 | skip
   rename_i n
   obtain⟨zs,e4,e5⟩:=ZO.mp (show (Dn ts).bind _=some r from e3);obtain⟨j,e6,rfl⟩:=Z4.mp e5;refine Pt PySem.F.plainAttrs_list PySem.F.slot_list_index PySem.F.type_list_index (fun XF s Z H x xs v us Q I rx rs h=>zh XF s Z H x xs v us Q I rx rs h) ha (Ga hb Ck (Z7 sb)) (Je hn _ _ _) (Kt (fun e m=>by cases U1.mp m;exact sb) (Wy (Nat.lt_succ_self 1) (by decide))) hl (Z7 sb) rfl XF s Z H Q I ⟨F,G,p,a',_,rel,q1,fun F1 H1 x P2 u1 Xi Vc=>?_⟩;obtain⟨a1,vs,rfl,h1,z1,ar⟩:=Xi.look l1 Vc;refine⟨.inl ⟨rfl,vs,.inl h1⟩,F1,G,_,b',_,Xi,q3,fun F2 H2 y Rn u2 Nl Bj=>?_⟩;obtain⟨a2,vs2,ea,h2,z2,ar'⟩:=Nl.look l1 (Ar.up u2 Rn Vc);cases ea;cases(show y=.int n from Nl.look l3 Bj);obtain⟨k1,k2⟩:=bb e6;exact⟨a1,zs,n,j,rfl,rfl,.inl (by rw[<-ar'.ints e4];exact h2),k1,k2,(kf (P2.trans Rn) (u1.trans u2)).h Nl rfl⟩
  .cases hv
 .replace hv:=je hv
  obtain⟨f,qq,g,qq',a,pp',pp,rfl,hv⟩:=hv
  split at hv
  .rename_i ho
   cases hv;obtain⟨hf,g1,hk,g2⟩:=ho;subst hf hk;cases hs with | cons ha sa t=>cases t with | nil =>
   obtain⟨gg1,gd1⟩:=c.gl' g1;obtain⟨gg2,gd2⟩:=c.gl' g2;refine Cv O6 gg1 (c.bn _ (by decide +kernel)) (show bootBuiltins "len" = some (.builtin "len") by decide +kernel) (Ga (Wa O6 gg2 (c.bn _ (by decide +kernel)) (show bootBuiltins "set" = some (.type "set") by decide +kernel) (Ga ha Ck (Z7 sa)) (by decide +kernel) gd2 (Z7 sa) rfl) Ck rfl) (by decide +kernel) gd1 rfl rfl XF s Z H Q I (yc e1 e2 rel fun F2 H2 x t1 et l u Zo s1=>?_);subst et;cases t1<;>first | cases e3 | skip
   obtain⟨ss,e4,e5⟩:=ZO.mp e3
   split at e5
   .rename_i hz
    cases e5;obtain⟨a1,vs,rfl,h1,z1,ar⟩:=s1;cases ar.strs e4;exact fq c.calm (.inl h1) Zo hz (kf l u)
   .cases e5
  .cases hv
 .replace hv:=j7 hv
  obtain⟨k0,v0,pp,rfl,hv⟩:=hv;cases hv;cases hs with | cons ha sa t=>cases t with | cons hb sb t=>cases t with | nil =>
  obtain⟨a',p1,as1,q1,q2,rfl⟩:=Zd e1;obtain⟨b',p2,as2,q3,q4,rfl⟩:=Zd q2;obtain⟨rfl,rfl⟩:=Yd q4;obtain⟨t1,r1,l1,l2,rfl⟩:=Zk e2;obtain⟨t2,r2,l3,l4,rfl⟩:=Zk l2;cases l4;have e3:(if ctn t2=true then none else (keyT t1).map fun k=>Sl.o (.dct [(k,t2)]))=some r:=e3
  split at e3
  .cases e3
  rename_i hct
  obtain⟨kk,e4,rfl⟩:=Z4.mp e3;refine au (y6 ha hb aj) rfl rfl (by intro z;cases z) (by show 1<=15;decide) XF s Z H Q I fun D hD=>?_
  have gD:G D=none:=by
   cases z:G D with
   | none=>rfl
   | some o=>have:=rel.b.g D o z;rw[hD]at this;cases this
  refine⟨F,upd G D (.dK []),p,a',p1,rel.gnew hD,q1,fun F1 H1 x P2 u1 Xi Vc=>⟨F1,_,p1,b',_,Xi,q3,fun F2 H2 y Rn u2 Nl Bj=>?_⟩⟩;have hk:=Mc e4 (Nl.look l1 (Ar.up u2 Rn Vc));have s3:=Nl.look l3 Bj
  have iv:IsT X.K X.mg H2 F2 t2 y:=by
   cases t2 with
   | lst _=>exact absurd rfl hct
   | dct _=>exact absurd rfl hct
   | _=>exact s3
  obtain⟨r3,u3,fD,ap3⟩:=Nl.gdone (XB:=[(kk,y)]) gD;refine⟨Nl.b.g D _ Zx,[(kk,y)],by rw[hk];rfl,by show 1<=15;decide, ?_⟩;exact kq F2 _ _ (P2.trans Rn) ((Zl.lay hD).up.trans (u1.trans (u2.trans u3))) r3 ⟨D,rfl,fD,gD,⟨[(kk,y)],Zx,by have:=sizeLine_eq;show 1<=sizeLine;omega,(kk,y),[],rfl,⟨rfl,IsT.up u3 (Le.refl _) _ _ iv⟩,rfl⟩,ap3⟩
 .replace hv:=vBt_ex hv
  obtain⟨f,p0,a,r',pp,rfl,hv⟩:=hv
  split at hv
  .rename_i n fv hb
   split at hv
   .rename_i ho
    cases hv;obtain⟨hf,g1⟩:=ho;subst hf;obtain⟨b1,b2,b3,b4⟩:=Zzs hb;obtain⟨gg,gd⟩:=c.gl' g1;have Rr:=hs.star;have fin:LA X.K X.mg w true es Z H fun vs H1=>rC X fv vs H1 Q:=readN e1 e2 rel fun F2 H2 vs l u Zo se=>fun XF s σ' us I rs=>bt_run hb c.calm un c.room.gd I Zo rs se e3 (kf l u);rcases b4 with ⟨i,rfl⟩ | ⟨i,rfl⟩
    .exact Cv O6 gg (c.bn _ b3) b1 hs.pa b2 gd (Z7 (Rr _ Vk)) (Yo _ _ _ fun e m=>Rr e (Vb _ m)) XF s Z H Q I fin
    .exact Wa O6 gg (c.bn _ b3) b1 hs.pa b2 gd (Z7 (Rr _ Vk)) (Yo _ _ _ fun e m=>Rr e (Vb _ m)) XF s Z H Q I fin
   .cases hv
  .cases hv
end
noncomputable def conK(t:T)(c:PySem.Const):Bool:=match t with
 | .int i=>(match c with
  | .int j=>i == j
  | _=>false)
 | .str a=>(match c with
  | .str b=>a == b
  | _=>false)
 | .bl a=>(match c with
  | .bool b=>a == b
  | _=>false)
 | .non=>(match c with
  | .none=>true
  | _=>false)
 | _=>false
def repK(t:T)(x:Expr):Bool:=match x with
 | .Constant c _ _=>conK t c
 | _=>false
def isIo:E->Bool
 | .io _=>true
 | _=>false
def Vp:E->Bool
 | .cons a r=>!isIo a && Vp r
 | _=>true
section
variable{X:Cx}{w:W}{k:Nat}{N:ZD}{sc:ZK}
theorem snd_k{t:T}{x:Expr}(h:repK t x=true):PE X x (LE X.K X.mg w (.k t)):=by
 have fin:∀{v:V},(∀H F,IsT X.K X.mg H F t v)->∀Z H Q,LE X.K X.mg w (.k t) Z H Q->tC v Z H Q:=fun hv Z H Q ⟨F,G,p,r,p',rel,e,kq⟩=>by
  cases e;exact kq F H _ (Le.refl F) (Up.refl H) rel (hv H F)
 cases x with
 | Constant c q pos =>
  replace h:conK t c=true:=h
  cases t with
  | int i=>cases c with
   | int j=>cases eq_of_beq (show (i == j)=true from h);exact PE.imp pe_int (fin fun _ _=>rfl)
   | _=>cases(show false=true from h)
  | str i=>cases c with
   | str j=>cases eq_of_beq (show (i == j)=true from h);exact PE.imp pe_str (fin fun _ _=>rfl)
   | _=>cases(show false=true from h)
  | bl i=>cases c with
   | bool j=>cases eq_of_beq (show (i == j)=true from h);exact PE.imp pe_bl (fin fun _ _=>rfl)
   | _=>cases(show false=true from h)
  | non=>cases c with
   | none=>exact PE.imp pe_non (fin fun _ _=>rfl)
   | _=>cases(show false=true from h)
  | _=>cases(show false=true from h)
 | _=>cases(show false=true from h)
theorem snd_g(c:Ctx X w k N sc){x y:Str}{pos:Pos}(h:(x == y && Rp sc y)=true):PE X (.Name y pos) (LE X.K X.mg w (.g x)):=by
 rw[Ya,beq_iff_eq]at h;obtain⟨rfl,h⟩:=h;obtain⟨g1,g2⟩:=c.gl' h;intro XF s j H Q I ⟨F,G,p,r,p',rel,e,kq⟩
 replace e:=(ev_gQ _).symm.trans e
 obtain⟨t,e1,e2⟩:=Z4.mp e;cases e2;obtain⟨v,u,h1,h2,h3⟩:=c.gl x t e1;exact ah g1 h1 h2 g2 XF s j H Q I (kq F H v (Le.refl F) (Up.refl H) rel (h3 H F))
theorem Af{F G H:Hp}{p p':P}{j:L2.St}{i:Nat}{t:T}(rel:Rel X.K X.mg F G p j H)(e:read p i=some (t,p')):∃F' v,Le F F'/\Rel X.K X.mg F' G p' j H/\j[i]?=some (some v)/\IsT X.K X.mg H F' t v:=by
 unfold read at e
 split at e
 .rename_i u q
  cases e;obtain⟨v,h1,h2⟩:=rel.fz i _ q;exact⟨F,v,Le.refl F,rel,h1,h2⟩
 .rename_i u q
  cases e;exact rel.freezeAt q
 .cases e
theorem snd_v(c:Ctx X w k N sc){i:Nat}{y:Str}{pos:Pos}(h:U5 N sc i y=true):PE X (.Name y pos) (LE X.K X.mg w (.v i)):=by
 intro XF s j H Q I ⟨F,G,p,r,p',rel,e,kq⟩
 replace e:=(ev_vQ _).symm.trans e
 obtain⟨q,e1,e2⟩:=Z4.mp e;cases e2;obtain⟨F',v,l,Z6,hv,ht⟩:=Af rel e1;exact c.var h XF s j H Q I ⟨v,hv,kq F' H v l (Up.refl H) Z6 ht⟩
theorem snd_mv(c:Ctx X w k N sc){i:Nat}{y:Str}{pos:Pos}(h:U5 N sc i y=true):PE X (.Name y pos) (LE X.K X.mg w (.mv i)):=by
 intro XF s Z H Q I ⟨F,G,p,r,p',rel,e,kq⟩
 replace e:=(ev_mvQ _).symm.trans e
 split at e
 .rename_i t q
  cases e;obtain⟨a,h1,h2,h3,h4⟩:=rel.ow i t q;refine c.var h XF s Z H Q I ⟨.ref a,h1,kq F H _ (Le.refl F) (Up.refl H) (rel.drop i) ⟨a,rfl,h2,h3,h4,fun j u e z=>?_⟩⟩;rcases Za e with ⟨_,y⟩ | ⟨n,e⟩
  .cases y
  .exact n (rel.ap j i u t a e q z h1)
 .rename_i t q
  cases e;obtain⟨v,h1,h2⟩:=rel.fz i t q;exact c.var h XF s Z H Q I ⟨v,h1,kq F H _ (Le.refl F) (Up.refl H) rel h2⟩
 .cases e
theorem snd_hd{m:Bool}{a:E}{x:Expr}(hio:∀i,a≠.io i)(hv:∀i,a≠.v i)(h:PE X x (LE X.K X.mg w a)):PE X x (LH X.K X.mg w m a):=by
 intro XF s j H Q I ⟨F,G,p,a',p',rel,e,kq⟩
 have e:(toT (ev w a p)).map (fun q=>(A.t q.1,q.2))=some (a',p'):=by
  unfold P7 at e
  split at e
  .exact absurd rfl (hio _)
  .exact absurd rfl (hv _)
  .exact e
 obtain⟨z,e1,e2⟩:=Z4.mp e;cases e2;unfold toT at e1;obtain⟨y,e3,e4⟩:=ZO.mp e1;obtain⟨t,e5,e6⟩:=Z4.mp e4;cases e6;refine h XF s j H Q I ⟨F,G,p,y.1,y.2,rel,e3,fun F1 H1 v l1 u1 Zm rs=>?_⟩;obtain⟨F2,l2,Zo,ht⟩:=Zm.thaw e5 rs;exact kq F2 H1 v (l1.trans l2) u1 Zo ht
theorem snd_hv(c:Ctx X w k N sc){m:Bool}{i:Nat}{y:Str}{pos:Pos}(h:U5 N sc i y=true):PE X (.Name y pos) (LH X.K X.mg w m (.v i)):=by
 intro XF s j H Q I ⟨F,G,p,a',p',rel,e,kq⟩;unfold P7 at e;dsimp only at e
 split at e
 .split at e
  .rename_i hd
   cases e;unfold done at hd
   split at hd
   .rename_i t q
    obtain⟨v,h1,h2⟩:=rel.fz i t q;exact c.var h XF s j H Q I ⟨v,h1,kq F H v (Le.refl F) (Up.refl H) rel h1⟩
   .rename_i t q
    obtain⟨a,h1,_⟩:=rel.ow i t q;exact c.var h XF s j H Q I ⟨_,h1,kq F H _ (Le.refl F) (Up.refl H) rel h1⟩
   .cases hd
  .cases e
 .obtain⟨q,e1,e2⟩:=Z4.mp e;cases e2;obtain⟨F',v,l,Z6,hv,ht⟩:=Af rel e1;exact c.var h XF s j H Q I ⟨v,hv,kq F' H v l (Up.refl H) Z6 ht⟩
theorem Np:∀(es:E) {xs:ZC},Hs X w false es xs->∀{p p':P} {as:List A},Jn w false es p=some (as,p')->Vp es=true->∀a∈as,∃t,a=A.t t
 | _,_,.nil,p,p',as,e,_,a,m=>by rw[(Yd e).1]at m;exact absurd m Tj
 | .cons b r,_,.cons _ _ t,p,p',as,e,h,a,m=>by
  obtain⟨a',p1,as',e1,e2,rfl⟩:=Zd e;have h:(!isIo b && Vp r)=true:=h;rw[Ya]at h;rcases Y6.mp m with rfl | m
  .have key:∀x,P7 false b p x=some (a,p1)->isIo b=false->∃t,a=A.t t:=fun x e h=>by
    unfold P7 at e
    split at e
    .cases h
    .obtain⟨q,_,e3⟩:=Z4.mp (show (read p _).map _=_ from e);cases e3;exact⟨_,rfl⟩
    .obtain⟨q,_,e3⟩:=Z4.mp e;cases e3;exact⟨_,rfl⟩
   exact key _ e1 (by simpa using h.1)
  .exact Np r t e2 h.2 a m
theorem su{es:E}{xs:ZC}{j:Nat}{pos:Pos}(hs:Hs X w false es xs)(hn:Vp es=true):PE X (.Tuple xs j pos) (LE X.K X.mg w (.tup es)):=by
 intro XF s Z H Q I ⟨F,G,p,r,p',rel,e,kq⟩
 replace e:=(Zzk _).symm.trans e
 obtain⟨a,e1,e⟩:=ZO.mp e;obtain⟨ts,e2,e⟩:=ZO.mp e
 split at e
 .rename_i hz
  cases e;have nt:=Np es hs e1 hn;refine pe_tup hs.pa XF s Z H Q I ⟨F,G,p,a.1,a.2,rel,e1,fun F1 H1 vs l1 u1 Zm ar=>?_⟩;have at':=G8 nt e2 ar;refine⟨by rw[<-at'.length];exact hz,fun q hq=>kq F1 _ _ l1 (u1.trans (Zl.lay hq).up) (Zm.same (Zl.lay hq)) ⟨q,vs,rfl,Vy.of Zx,by rw[<-at'.length];exact hz,Zq.up (Zl.lay hq).up (Le.refl _) _ _ at'⟩⟩
 .cases e
theorem pj{es:E}{xs:ZC}{pos:Pos}(hs:Hs X w false es xs)(hn:Vp es=true):PE X (.List xs pos) (LE X.K X.mg w (.lst es)):=by
 intro XF s j H Q I ⟨F,G,p,r,p',rel,e,kq⟩
 replace e:=(Zzg _).symm.trans e
 obtain⟨a,e1,e⟩:=ZO.mp e;obtain⟨ts,e2,e⟩:=ZO.mp e
 split at e
 .rename_i hz
  cases e;have nt:=Np es hs e1 hn;refine pe_lst hs.pa XF s j H Q I ⟨F,G,p,a.1,a.2,rel,e1,fun F1 H1 vs l1 u1 Zm ar=>?_⟩;have at':=G8 nt e2 ar;have z:vs.length<=sizeLine:=by rw[<-at'.length];exact hz
  exact⟨z,fun q hq=>let ⟨r1,r2⟩:=Zm.newL hq z at';kq F1 _ _ l1 (u1.trans (Zl.lay hq).up) r1 r2⟩
 .cases e
theorem Zxo{e:E}{j:L2.St}{H:Hp}{R:Bool->Hp->Prop}(h:LB X.K X.mg w e j H R):LE X.K X.mg w e j H fun v H'=>∃b,v=.bl b/\R b H':=by
 obtain⟨F,G,p,b,p',rel,e,kq⟩:=h;unfold Gj at e;obtain⟨y,e1,e2⟩:=ZO.mp e
 split at e2
 .rename_i b' q
  cases e2;refine⟨F,G,p,y.1,y.2,rel,e1,fun F' H' v l u Z6 rs=>?_⟩;rw[q]at rs;exact⟨_,rs,kq F' H' l u Z6⟩
 .cases e2
theorem Zxv{e:E}{x:Expr}(h:PE X x (LE X.K X.mg w e))(he:∀whole,isTrue x X.env whole=(do let v <-whole;standAt x.pos;holding [v] (truthy v))):PT X x (LB X.K X.mg w e):=fun XF s j H R I q=>by
 refine pt_val h he XF s j H R I ?_;obtain⟨F,G,p,r,p',rel,e,kq⟩:=Zxo q;exact⟨F,G,p,r,p',rel,e,fun F' H' v l u Z6 rs=>let ⟨b,e1,h1⟩:=kq F' H' v l u Z6 rs;⟨b,e1,h1⟩⟩
theorem Nt{o:Option (Sl×P)}{b:Bool}{p:P}(h:Gj o=some (b,p)):o=some (.f (.bl b),p):=by
 unfold Gj at h;obtain⟨y,e1,e2⟩:=ZO.mp h
 split at e2
 .rename_i b' q
  cases e2;rw[e1, <-q]
 .cases e2
theorem snd_and{a b:E}{x y:Expr}{r:ZC}{pos:Pos}(ha:PE X x (LE X.K X.mg w a))(hb:PE X (.BoolOp .And (y::r) pos) (LE X.K X.mg w b)):PE X (.BoolOp .And (x::y::r) pos) (LE X.K X.mg w (.and a b)):=by
 intro XF s j H Q I ⟨F,G,p,r',p',rel,e,kq⟩
 replace e:=(Il _ _).symm.trans e
 obtain⟨q,e1,e2⟩:=ZO.mp e;refine pe_and ha hb XF s j H Q I ⟨F,G,p,_,_,rel,Nt e1,fun F' H' v l u Z6 rs=>⟨q.1,rs, ?_⟩⟩
 split
 .rename_i hq
  rw[if_pos hq]at e2;exact⟨F',G,q.2,r',p',Z6,e2,fun F2 H2 v l2 u2=>kq F2 H2 v (l.trans l2) (u.trans u2)⟩
 .rename_i hq
  rw[if_neg hq]at e2;cases e2;exact kq F' H' _ l u Z6 rfl
theorem snd_or{a b:E}{x y:Expr}{r:ZC}{pos:Pos}(ha:PE X x (LE X.K X.mg w a))(hb:PE X (.BoolOp .Or (y::r) pos) (LE X.K X.mg w b)):PE X (.BoolOp .Or (x::y::r) pos) (LE X.K X.mg w (.or a b)):=by
 intro XF s j H Q I ⟨F,G,p,r',p',rel,e,kq⟩
 replace e:=(m7 _ _).symm.trans e
 obtain⟨q,e1,e2⟩:=ZO.mp e;refine pe_or ha hb XF s j H Q I ⟨F,G,p,_,_,rel,Nt e1,fun F' H' v l u Z6 rs=>⟨q.1,rs, ?_⟩⟩
 split
 .rename_i hq
  rw[if_pos hq]at e2;cases e2;exact kq F' H' _ l u Z6 rfl
 .rename_i hq
  rw[if_neg hq]at e2;exact⟨F',G,q.2,r',p',Z6,e2,fun F2 H2 v l2 u2=>kq F2 H2 v (l.trans l2) (u.trans u2)⟩
theorem pq{a:E}{x:Expr}{pos:Pos}(ha:PE X x (LE X.K X.mg w a)):PE X (.UnaryOp .Not x pos) (LE X.K X.mg w (.not a)):=by
 intro XF s j H Q I ⟨F,G,p,r',p',rel,e,kq⟩
 replace e:=(Im _).symm.trans e
 obtain⟨q,e1,e2⟩:=Z4.mp e;cases e2;exact pe_not ha XF s j H Q I ⟨F,G,p,_,_,rel,Nt e1,fun F' H' v l u Z6 rs=>⟨q.1,rs,kq F' H' _ l u Z6 rfl⟩⟩
theorem pf{a b c:E}{x y z:Expr}{pos:Pos}(hc:PT X z (LB X.K X.mg w c))(ha:PE X x (LE X.K X.mg w a))(hb:PE X y (LE X.K X.mg w b)):PE X (.IfExp z x y pos) (LE X.K X.mg w (.ite c a b)):=by
 intro XF s j H Q I ⟨F,G,p,r',p',rel,e,kq⟩
 replace e:=(Zzf _ _ _).symm.trans e
 obtain⟨q,e1,e2⟩:=ZO.mp e;refine kc hc ha hb XF s j H Q I ⟨F,G,p,q.1,q.2,rel,e1,fun F' H' l u Z6=>?_⟩;show if q.1=true then LE X.K X.mg w a j H' Q else LE X.K X.mg w b j H' Q
 split
 .rename_i hq
  rw[if_pos hq]at e2;exact⟨F',G,q.2,r',p',Z6,e2,fun F2 H2 v l2 u2=>kq F2 H2 v (l.trans l2) (u.trans u2)⟩
 .rename_i hq
  rw[if_neg hq]at e2;exact⟨F',G,q.2,r',p',Z6,e2,fun F2 H2 v l2 u2=>kq F2 H2 v (l.trans l2) (u.trans u2)⟩
theorem sj{a b:E}{x y:Expr}{r:ZC}{pos:Pos}(ha:PT X x (LB X.K X.mg w a))(hb:PW X (.BoolOp .And (y::r) pos) (LB X.K X.mg w b)):PW X (.BoolOp .And (x::y::r) pos) (LB X.K X.mg w (.and a b)):=by
 intro wh XF s j H Q I ⟨F,G,p,c,p',rel,e,kq⟩;have e:=Nt e
 replace e:=(Il _ _).symm.trans e
 obtain⟨q,e1,e2⟩:=ZO.mp e;refine pw_and ha hb wh XF s j H Q I ⟨F,G,p,q.1,q.2,rel,e1,fun F' H' l u Z6=>?_⟩;show if q.1=true then LB X.K X.mg w b j H' Q else Q false H'
 split
 .rename_i hq
  rw[if_pos hq]at e2;exact⟨F',G,q.2,c,p',Z6,by unfold Gj;rw[e2];rfl,fun F2 H2 l2 u2=>kq F2 H2 (l.trans l2) (u.trans u2)⟩
 .rename_i hq
  rw[if_neg hq]at e2;cases e2;exact kq F' H' l u Z6
theorem snt_or{a b:E}{x y:Expr}{r:ZC}{pos:Pos}(ha:PT X x (LB X.K X.mg w a))(hb:PW X (.BoolOp .Or (y::r) pos) (LB X.K X.mg w b)):PW X (.BoolOp .Or (x::y::r) pos) (LB X.K X.mg w (.or a b)):=by
 intro wh XF s j H Q I ⟨F,G,p,c,p',rel,e,kq⟩;have e:=Nt e
 replace e:=(m7 _ _).symm.trans e
 obtain⟨q,e1,e2⟩:=ZO.mp e;refine pw_or ha hb wh XF s j H Q I ⟨F,G,p,q.1,q.2,rel,e1,fun F' H' l u Z6=>?_⟩;show if q.1=true then Q true H' else LB X.K X.mg w b j H' Q
 split
 .rename_i hq
  rw[if_pos hq]at e2;cases e2;exact kq F' H' l u Z6
 .rename_i hq
  rw[if_neg hq]at e2;exact⟨F',G,q.2,c,p',Z6,by unfold Gj;rw[e2];rfl,fun F2 H2 l2 u2=>kq F2 H2 (l.trans l2) (u.trans u2)⟩
theorem r9{a:E}{x:Expr}{pos:Pos}(ha:PT X x (LB X.K X.mg w a)):PT X (.UnaryOp .Not x pos) (LB X.K X.mg w (.not a)):=by
 intro XF s j H Q I ⟨F,G,p,c,p',rel,e,kq⟩;have e:=Nt e
 replace e:=(Im _).symm.trans e
 obtain⟨q,e1,e2⟩:=Z4.mp e;cases e2;exact pt_not ha XF s j H Q I ⟨F,G,p,q.1,q.2,rel,e1,fun F' H' l u Z6=>kq F' H' l u Z6⟩
open Classical in
theorem Rel.freezeAll{K:PySem.W.Frag}{mg:ZV}{F G H:Hp}{p:P}{Z:L2.St}(r:Rel K mg F G p Z H):∃F',Le F F'/\Rel K mg F' G (frz p) Z H/\∀(i:Nat) (t:T) (a:Addr),p[i]?=some (Sl.o t)->Z[i]?=some (some (V.ref a))->F' a=H a:=by
 let F':Hp:=fun a=>if ∃(i:Nat) (t:T),p[i]?=some (Sl.o t)/\Z[i]?=some (some (V.ref a)) then H a else F a
 have fI:∀{a:Addr} {i:Nat} {t:T},p[i]?=some (Sl.o t)->Z[i]?=some (some (V.ref a))->F' a=H a:=fun {a i t} h1 h2=>if_pos ⟨i,t,h1,h2⟩;have fO:∀{a:Addr},(¬ ∃(i:Nat) (t:T),p[i]?=some (Sl.o t)/\Z[i]?=some (some (V.ref a)))->F' a=F a:=fun {a} h=>if_neg h
 have l:Le F F':=fun a o e=>by
  refine(fO fun⟨i,t,h1,h2⟩=>?_).trans e;obtain⟨b,h3,h4,_⟩:=r.ow i t h1;rw[h2]at h3;cases h3;rw[e]at h4;cases h4
 refine⟨F',l,⟨⟨fun a o e=>?_,r.b.g,fun a e=>?_,fun T e=>let ⟨f1,g1,t1⟩:=r.b.t T e;⟨(fO fun⟨i,t,h1,h2⟩=>by
  obtain⟨b,h3,_,_,h4⟩:=r.ow i t h1;rw[h2]at h3;cases h3;exact h4.ne t1 rfl).trans f1,g1,t1⟩⟩,fun i t e=>?_,fun i t e=>?_,fun i j t u a e=>?_,by unfold frz;rw[Z0];exact r.ln⟩,fun i t a h1 h2=>fI h1 h2⟩
 .by_cases h:∃(i:Nat) (t:T),p[i]?=some (Sl.o t)/\Z[i]?=some (some (V.ref a))
  .obtain⟨i,t,h1,h2⟩:=h;rw[fI h1 h2]at e;exact e
  .rw[fO h]at e;exact r.b.f a o e
 .by_cases h:∃(i:Nat) (t:T),p[i]?=some (Sl.o t)/\Z[i]?=some (some (V.ref a))
  .obtain⟨i,t,h1,h2⟩:=h;obtain⟨b,h3,_,h5,_⟩:=r.ow i t h1;rw[h2]at h3;cases h3;exact h5
  .rw[fO h]at e;exact r.b.d a e
 .unfold frz at e;rw[B4]at e;obtain⟨x,e1,e2⟩:=Z4.mp e;cases x with
  | no=>cases e2
  | f u =>
   cases e2;obtain⟨v,h1,h2⟩:=r.fz i _ e1;exact⟨v,h1,IsT.up (Up.refl H) l _ v h2⟩
  | o u =>
   cases e2;obtain⟨a,h1,h2,h3,h4⟩:=r.ow i _ e1;obtain⟨o,ho⟩:=h4.some;exact⟨_,h1,Cg h4 ho l ((fI e1 h1).trans ho)⟩
 .unfold frz at e;rw[B4]at e;obtain⟨x,e1,e2⟩:=Z4.mp e;cases x<;>cases e2
 .unfold frz at e;rw[B4]at e;obtain⟨x,e1,e2⟩:=Z4.mp e;cases x<;>cases e2
mutual
theorem gc{K:PySem.W.Frag}{mg:ZV}{F F' H:Hp}:∀(t:T) (v:V),noC t=true->IsT K mg H F t v->IsT K mg H F' t v
 | .non,_,_,h=>h
 | .bl _,_,_,h=>h
 | .int _,_,_,h=>h
 | .str _,_,_,h=>h
 | .tup ts,_,e,h=>let ⟨a,vs,e1,q,z,r⟩:=h;⟨a,vs,e1,q,z,Ae ts vs e r⟩
 | .lst _,_,e,_=>by cases e
 | .dct _,_,e,_=>by cases e
 | .fn _,_,e,_=>by cases e
theorem Ae{K:PySem.W.Frag}{mg:ZV}{F F' H:Hp}:∀(ts:ZZ) (vs:ZQ),noCs ts=true->Zq K mg H F ts vs->Zq K mg H F' ts vs
 | [],_,_,h=>h
 | t::ts,_,e,h=>let ⟨v,r,e1,q,w⟩:=h;⟨v,r,e1,gc t v (B0z.mp e).1 q,Ae ts r (B0z.mp e).2 w⟩
end
theorem Zxh{K:W.Frag}{mg:ZV}{F F' H:Hp}:∀(XB:ZX) (ks:List (Key×V)),XB.all (fun p=>noC p.2)=true->Zn K mg H F XB ks->Zn K mg H F' XB ks
 | [],_,_,h=>h
 | (k,t)::XB,_,e,h=>by
  obtain⟨p,r,e1,⟨e2,q⟩,w⟩:=h;rw[List.all_cons,Ya]at e;exact⟨p,r,e1,⟨e2,gc t _ e.1 q⟩,Zxh XB r e.2 w⟩
theorem Q3{F F1 F2 G H H2:Hp}{p:P}{p1:P}{j:L2.St}(rel:Rel X.K X.mg F G p j H)(l1:Le F F1)(own:∀(i:Nat) (t:T) (a:Addr),p[i]?=some (Sl.o t)->j[i]?=some (some (V.ref a))->F1 a=H a)(l2:Le F1 F2)(u2:Up X.K H H2)(Ri:Rel X.K X.mg F2 G p1 j H2):Rel X.K X.mg F G p j H2 :=
 ⟨⟨fun a o e=>Ri.b.f a o (l2 a o (l1 a o e)),Ri.b.g,rel.b.d,fun T e=>⟨(rel.b.t T e).f,(rel.b.t T e).g,(Ri.b.t T e).h⟩⟩,fun i t e=>let ⟨v,h1,h2⟩:=rel.fz i t e;⟨v,h1,IsT.up u2 (Le.refl F) t v h2⟩,fun i t e=>by
  obtain⟨a,h1,h2,h3,h4⟩:=rel.ow i t e;obtain⟨o,ho⟩:=h4.some;exact⟨a,h1,h2,h3,h4.up u2 (Le.refl F) ((Ri.b.f a o (l2 a o ((own i t a e h1).trans ho))).trans ho.symm)⟩,rel.ap,rel.ln⟩
theorem px{a:E}{x:Expr}(ha:PE X x (LE X.K X.mg w a)):PE X x (LE X.K X.mg w (.tmp a)):=by
 intro XF s j H Q I ⟨F,G,p,r,p',rel,e,kq⟩
 replace e:=(Ig _).symm.trans e
 obtain⟨⟨y,p1⟩,e1,e2⟩:=ZO.mp e;obtain⟨r',e3,e2⟩:=Z4.mp e2;cases e2;obtain⟨F1,l1,Zm,own⟩:=rel.freezeAll;refine ha XF s j H Q I ⟨F1,G,frz _,_,_,Zm,e1,fun F2 H2 v l2 u2 Zo rs=>?_⟩;refine kq F H2 v (Le.refl F) u2 (Q3 rel l1 own l2 u2 Zo) ?_;cases y with
 | no=>cases e3
 | f t =>
  have e3:(if scal t=true then some (Sl.f t) else none)=some r:=e3
  split at e3
  .rename_i hs
   cases e3;cases t<;>first | exact rs | cases hs
  .cases e3
 | o t =>
  cases t with
  | dct XB =>
   have e3:(if XB.all (fun p=>noC p.2)=true then some (Sl.o (.dct XB)) else none)=some r:=e3
   split at e3
   .rename_i hs
    cases e3;obtain⟨b,rfl,f2,g2,⟨vs,q1,q2,q3⟩,_⟩:=rs;refine⟨b,rfl, ?_,g2,⟨vs,q1,q2,Zxh _ _ hs q3⟩,fun i u e z=>?_⟩
    .cases z:F b with
     | none=>rfl
     | some o=>rw[l2 b o (l1 b o z)]at f2;cases f2
    .obtain⟨c,h1,_,_,h4⟩:=rel.ow i u e;rw[h1]at z;cases z;obtain⟨o,ho⟩:=h4.some;rw[l2 _ o ((own i u _ e h1).trans ho)]at f2;cases f2
   .cases e3
  | _=>cases e3
theorem r8{a:E}{x:Expr}(ha:PT X x (LB X.K X.mg w a)):PT X x (LB X.K X.mg w (.tmp a)):=by
 intro XF s j H Q I ⟨F,G,p,b,p',rel,e,kq⟩;unfold Gj at e;obtain⟨r,e0,e9⟩:=ZO.mp e
 replace e0:=(Ig _).symm.trans e0
 obtain⟨⟨y,p1⟩,e1,e2⟩:=ZO.mp e0;obtain⟨r',e3,e2⟩:=Z4.mp e2;cases e2;obtain⟨F1,l1,Zm,own⟩:=rel.freezeAll
 have key:y=.f (.bl b)/\p'=p:=by
  cases y with
  | no=>cases e3
  | f t =>
   have e3:(if scal t=true then some (Sl.f t) else none)=some r':=e3
   split at e3
   .cases e3;cases t<;>cases e9
    exact⟨rfl,rfl⟩
   .cases e3
  | o t =>
   cases t with
   | dct XB =>
    have e3:(if XB.all (fun p=>noC p.2)=true then some (Sl.o (.dct XB)) else none)=some r':=e3
    split at e3<;>cases e3
    cases e9
   | _=>cases e3
 obtain⟨rfl,rfl⟩:=key;exact ha XF s j H Q I ⟨F1,G,frz _,_,_,Zm,by unfold Gj;rw[e1];rfl,fun F2 H2 l2 u2 Ri=>kq F H2 (Le.refl F) u2 (Q3 rel l1 own l2 u2 Ri)⟩
end
section
variable{X:Cx}{w:W}{k:Nat}{N:ZD}{sc:ZK}
theorem vg(c:Ctx X w k N sc){f:Str}{es:E}{x:Expr}{xs:ZC}{p0 pos:Pos}(hs:Hs X w false es (x::xs))(hg:Rp sc f=true):PE X (.Call (.Name f p0) (x::xs) [] pos) (LE X.K X.mg w (.call f es)):=by
 intro XF s j H Q I ⟨F,G,p,r,p',rel,e,kq⟩
 replace e:=(m9 _ _).symm.trans e
 obtain⟨a,e1,e⟩:=ZO.mp e;obtain⟨sl,e2,e⟩:=ZO.mp e;obtain⟨rr,e3,e⟩:=ZO.mp e;obtain⟨p2,e4,e⟩:=Z4.mp e;cases e;obtain⟨ps,hl,Gf⟩:=c.fn f sl rr e3;obtain⟨gg,gd⟩:=c.gl' hg;have Rr:=hs.star;refine ke Gf c.room gg hs.pa gd (Z7 (Rr _ Vk)) (Yo _ _ _ fun e m=>Rr e (Vb _ m)) XF s j H Q I ⟨F,G,p,a.1,a.2,rel,e1,fun F1 H1 vs l1 u1 Zm ar=>?_⟩;show spC X.K X.mg ps.length (w.C f) (vs++[]) H1 Q E0;rw[XQ];exact Zm.call ar e2 e3 e4 (by rw[<-Paired.length ar, <-Gs e2];exact hl) fun F' H' v l u=>kq F' H' v (l1.trans l) (u1.trans u)
theorem pb(c:Ctx X w k N sc){i:Nat}{y:Str}{es:E}{x:Expr}{xs:ZC}{p0 pos:Pos}(hs:Hs X w false es (x::xs))(hg:U5 N sc i y=true):PE X (.Call (.Name y p0) (x::xs) [] pos) (LE X.K X.mg w (.cal i es)):=by
 intro XF s j H Q I ⟨F,G,p,r,p',rel,e,kq⟩
 replace e:=(Zzb _ _).symm.trans e
 split at e
 .rename_i f ef
  obtain⟨a,e1,e⟩:=ZO.mp e;obtain⟨sl,e2,e⟩:=ZO.mp e;obtain⟨rr,e3,e⟩:=ZO.mp e;obtain⟨p2,e4,e⟩:=Z4.mp e;cases e;obtain⟨ps,hl,f',fd,Fk,b,kp,m⟩:=c.fn f sl rr e3;obtain⟨v,hv,a',rfl,hm⟩:=rel.fz i _ ef;rw[m]at hm;cases hm;have Rr:=hs.star;refine ko (c.var hg) hs.pa (Z7 (Rr _ Vk)) (Yo _ _ _ fun e m=>Rr e (Vb _ m)) XF s j H Q I ⟨_,hv,f',ps,_,rfl,⟨⟨k,fd,Fk,b,c.room⟩,kp⟩,F,G,p,a.1,a.2,rel,e1,fun F1 H1 vs l1 u1 Zm ar=>?_⟩;exact Zm.call ar e2 e3 e4 (by rw[<-Paired.length ar, <-Gs e2];exact hl) fun F' H' v l u=>kq F' H' v (l1.trans l) (u1.trans u)
 .cases e
theorem Ed{K:PySem.W.Frag}{mg:ZV}{H F:Hp}{a:Addr}{t:T}{o:HO}(h:Rb K mg H F a t):Up K H (upd H a o):=by
 cases t with
 | lst ts=>obtain⟨vs,q,_⟩:=h;exact Em q
 | dct ts =>
  obtain⟨ks,q,_⟩:=h;intro c xs r
  have ne:∀u,H c=some u->(∀ys,u≠.dK ys)->c≠a:=fun u e n z=>by
   rw[z,q]at e;cases e;exact n _ rfl
  rcases r with (r | ⟨u,r⟩) | r
  .exact .inl (.inl (by rw[Zz (ne _ r fun _ z=>nomatch z)];exact r))
  .exact .inl (.inr ⟨u,by rw[Zz (ne _ r fun _ z=>nomatch z)];exact r⟩)
  .exact .inr r
 | _=>exact h.elim
theorem Rel.mut{K:PySem.W.Frag}{mg:ZV}{F G H:Hp}{p:P}{Z:L2.St}{i:Nat}{t t':T}{a:Addr}{o:HO}(r:Rel K mg F G p Z H)(e:p[i]?=some (Sl.o t))(hσ:Z[i]?=some (some (V.ref a)))(h:Rb K mg (upd H a o) F a t'):Up K H (upd H a o)/\Rel K mg F G (p.set i (.o t')) Z (upd H a o):=by
 obtain⟨a',h1,h2,h3,h4⟩:=r.ow i t e;rw[hσ]at h1;cases h1;have u:Up K H (upd H a o):=Ed h4;obtain⟨o0,e0⟩:=h4.some;refine⟨u,⟨fun b x q=>?_,fun b x q=>?_,r.b.d,fun T e=>let ⟨f1,g1,t1⟩:=r.b.t T e;⟨f1,g1,t1.upd e0 (h4.pln e0)⟩⟩,fun j u' q=>?_,fun j u' q=>?_,fun j l t1 t2 b q1 q2=>?_,by rw[XY];exact r.ln⟩
 .rw[Zz fun z=>by rw[z,h2]at q;cases q];exact r.b.f b x q
 .rw[Zz fun z=>by rw[z,h3]at q;cases q];exact r.b.g b x q
 .rcases Za q with ⟨_,z⟩ | ⟨_,q⟩
  .cases z
  .obtain⟨v,g1,g2⟩:=r.fz j _ q;exact⟨v,g1,IsT.up u (Le.refl F) _ v g2⟩
 .rcases Za q with ⟨z,y⟩ | ⟨n,q⟩
  .cases y;subst z;exact⟨a,hσ,h2,h3,h⟩
  .obtain⟨b,g1,g2,g3,g4⟩:=r.ow j _ q;have nb:b≠a:=fun z=>by subst z;exact n (r.ap j i _ _ b q e g1 hσ)
   exact⟨b,g1,g2,g3,g4.up u (Le.refl F) (Zz nb)⟩
 .have own:∀{j:Nat} {t1:T},(p.set i (Sl.o t'))[j]?=some (Sl.o t1)->∃t2,p[j]?=some (Sl.o t2):=fun {j t1} q=>by
   rcases Za q with ⟨z,y⟩ | ⟨_,q⟩
   .subst z;exact⟨t,e⟩
   .exact⟨_,q⟩
  obtain⟨_,q1⟩:=own q1;obtain⟨_,q2⟩:=own q2;exact r.ap j l _ _ b q1 q2
noncomputable def mtN:Mt->Str
 | .append => "append"
 | .extend => "extend"
 | .pop => "pop"
 | .popAt => "pop"
 | .insert => "insert"
noncomputable def mtI:Mt->String
 | .append => "list.append"
 | .extend => "list.extend"
 | .pop => "list.pop"
 | .popAt => "list.pop"
 | .insert => "list.insert"
def rM(X:Cx)(id:String):V->ZQ->Hp->VK->Prop:=fun x xs H Q=>∀XF s j v us,Inv X XF j H s->RelV x v->Zw xs us->wpAny (model X.prog X.w) X.A (call (.builtin id) (v::us)) (EP X XF j Q) X.xe s
theorem mtr{id:String}:MtR X id (rM X id):=fun XF s j _ _ _ v us _ I rx rs h=>h XF s j v us I rx rs
theorem mt_run{XF:ZY}{s:Shared}{j σ':L2.St}{F₁ G H:Hp}{p:P}{i:Nat}{m:Mt}{t t' z:T}{ts:ZZ}{a:Addr}{vs:ZQ}{us:ZM}{Q:VK}(I:Inv X XF σ' H s)(rel:Rel X.K X.mg F₁ G p j H)(e:p[i]?=some (Sl.o t))(hσ:j[i]?=some (some (V.ref a)))(rs:Zw vs us)
  (at':Zq X.K X.mg H F₁ ts vs) (em:iq m t ts=some (t',z)) (q:Fin X F₁ G (p.set i (.o t')) j H (.f z) Q):wpAny (model X.prog X.w) X.A (call (.builtin (mtI m)) (.ref a::us)) (EP X XF σ' Q) X.xe s:=by
 obtain⟨a',h1,h2,h3,h4⟩:=rel.ow i t e;rw[hσ]at h1;cases h1
 have fin:∀{ys:ZQ} {ts':ZZ} {v:V},t'=.lst ts'->ys.length<=sizeLine->Zq X.K X.mg H F₁ ts' ys->IsT X.K X.mg H F₁ z v->Q v (upd H a (.lst ys)):=fun {ys ts' v} et z1 ar iv=>by
  subst et;have u:Up X.K H (upd H a (.lst ys)):=Ed h4;obtain⟨u,Z6⟩:=rel.mut (t':=.lst ts') e hσ ⟨ys,Zx,z1,Zq.up u (Le.refl _) _ _ ar⟩;exact q _ _ _ (Le.refl _) u Z6 (IsT.up u (Le.refl _) _ _ iv)
 unfold iq at em
 split at em
 .split at em
  .rename_i hz
   cases em;obtain⟨ys,g1,g2,g3⟩:=h4;obtain⟨y,r,rfl,iy,er⟩:=at';cases(show r=[] from er);have l1:=g3.length;exact We XF s σ' H (.ref a) _ (.ref a) us Q I rfl rs ⟨a,ys,y,rfl,rfl,g1,by omega,fin rfl (by rw[D7];simp;omega) (g3.append (Zq.one iy)) rfl⟩
  .cases em
 .cases em
end
section
variable{X:Cx}{XF:ZY}{j:L2.St}{H:Hp}{s:Shared}
def NF(X:Cx)(d:Addr):Prop:=∀o u,X.H₀ d≠some (.frz o u)
theorem Zxp{d:Addr}{XB:List (Key×V)}(I:Inv X XF j H s)(e:H d=some (.dK XB)):NF X d:=fun o u z=>by
 have:=I.base.frzs d o u z;rw[e]at this;cases this
theorem melt{d:Addr}{o:Obj}{XB:List (Key×V)}(I:Inv X XF j H s)(e:H d=some (.frz o (.dK XB)))(nf:NF X d):Inv X XF j (upd H d (.dK XB)) s:=by
 have ne:∀{b:Addr} {u:HO},H b=some u->(∀o k,u≠.frz o k)->b≠d:=fun h n z=>by
  rw[z,e]at h;cases h;exact n _ _ rfl
 have nn:∀{b:Addr},H b=none->upd H d (.dK XB) b=none:=fun {b} h=>by
  rw[Zz fun z=>by rw[z,e]at h;cases h];exact h
 refine⟨I.ok,I.os,I.bare,⟨I.base.keep,I.base.slot,fun b o' h1 h2 h3=>nn (I.base.free b o' h1 h2 h3),I.base.there,fun b xs h=>?_,fun b o' u h=>?_,fun b ps h=>?_⟩,I.loc,I.cell,nn I.free,fun x c h=>nn (I.freeC x c h),fun p hp=>let ⟨h1,h2,h3⟩:=I.pin p hp;⟨h1,nn h2,h3⟩,fun b u h=>?_,I.len⟩
 .have:=I.base.tups b xs h;rw[Zz (ne this fun _ _ z=>nomatch z)];exact this
 .have:=I.base.frzs b o' u h;rw[Zz fun z=>by subst z;exact nf _ _ h];exact this
 .obtain⟨more,this⟩:=I.base.tbls b ps h;exact⟨more,by rw[Zz (ne this fun _ _ z=>nomatch z)];exact this⟩
 .by_cases q:b=d
  .subst q;rw[Zx]at h;cases h;obtain⟨ho,z,y,vs,r,o',es,ep,R1,c⟩:=(show Zh X.prog X.w H s.heap b (.frz o (.dK XB)) from I.hok b _ e);exact⟨z,y,vs,r,o',es,ep,R1,c⟩
  .rw[Zz q]at h;refine(I.hok b u h).stay (fun c v hc q=>q) (fun c q=>?_) fun c xs q=>?_
   .rw[Zz (ne q fun _ _ z=>nomatch z)];exact q
   .rw[Zz (ne q fun _ _ z=>nomatch z)];exact q
def Mel(X:Cx)(H H':Hp):Prop:=H'=H\/∃d o ks,H d=some (.frz o (.dK ks))/\NF X d/\H'=upd H d (.dK ks)
theorem Ml{H':Hp}(I:Inv X XF j H s)(m:Mel X H H'):Inv X XF j H' s:=by
 rcases m with rfl | ⟨d,o,ks,e,nf,rfl⟩
 .exact I
 .exact melt I e nf
theorem PE.mel{e:Expr}{t:TE}(h:PE X e t):PE X e (fun j H Q=>t j H fun v H1=>∃H2,Mel X H1 H2/\Q v H2):=fun XF s j H Q I q =>
 Z3 (h XF s j H _ I q) fun u s1 ⟨v,H1,I1,r1,H2,m,q1⟩=>⟨v,H2,Ml I1 m,r1,q1⟩
def gu(X:Cx)(D:Ends):Ends:=⟨fun j H=>∃H2,Mel X H H2/\D.nx j H2,fun v H=>∃H2,Mel X H H2/\D.rt v H2,fun j H=>∃H2,Mel X H H2/\D.bk j H2,fun j H=>∃H2,Mel X H H2/\D.ct j H2⟩
theorem PS.mel{st:Stmt}{t:TS}(h:PS X st t):PS X st (fun D j H=>t (gu X D) j H):=fun XF s j H D I q =>
 Z3 (h XF s j H _ I q) fun f s1 q1=>by
  cases f with
  | next=>obtain⟨σ',H',I',H2,m,q2⟩:=q1;exact⟨σ',H2,Ml I' m,q2⟩
  | brk=>obtain⟨σ',H',I',H2,m,q2⟩:=q1;exact⟨σ',H2,Ml I' m,q2⟩
  | cont=>obtain⟨σ',H',I',H2,m,q2⟩:=q1;exact⟨σ',H2,Ml I' m,q2⟩
  | ret u=>obtain⟨v,σ',H',I',r,H2,m,q2⟩:=q1;exact⟨v,σ',H2,Ml I' m,r,q2⟩
theorem kg{tg l:Expr}{tl:TE}(hl:PE X l tl):PI X tg l (fun j H R=>tl j H fun x H1=>(∃d XB,x=.ref d/\H1 d=some (.dK XB)/\∀o,NF X d->R (Itd d o XB) (upd H1 d (.frz o (.dK XB))))\/∃d o XB,x=.ref d/\H1 d=some (.frz o (.dK XB))/\R (Itd d o XB) H1):=by
 intro XF s j H R I h;refine Z3 (hl XF s j H _ I h) fun v s1 ⟨x,H1,I1,r1,q1⟩=>?_
 have go:∀{d:Addr} {o:Obj} {XB:List (Key×V)} {H2:Hp},x=.ref d->Inv X XF j H2 s1->H2 d=some (.frz o (.dK XB))->R (Itd d o XB) H2->wpAny (model X.prog X.w) X.A (pyIter v) (PIE X XF j tg R) X.xe s1:=fun {d o XB H2} ex I2 e q=>by
  subst ex;cases r1;obtain⟨vs,es,ep,y,r,e',m⟩:=at_of I2 e;have ln:=r.length;refine wpAny_pyIter_dict y m ?_;refine⟨s1.heap.objs.size,[s1.heap.objs.size],_,_,_,rfl,I2.kept (t':=s1.toks) fun b o e=>Yi _ e,Xm d _ o XB es ep e',⟨_,Dv _ rfl,rfl,by rw[ln];rfl⟩,fun b hb=>?_,q⟩;have e:b=s1.heap.objs.size:=by simpa using hb
  subst e;exact I2.fpOk (Yz _) (I2.hok.fresh (Yz _))
 rcases q1 with ⟨d,XB,ex,hd,q⟩ | ⟨d,o,XB,ex,hd,q⟩
 .obtain⟨o,ho,I2⟩:=I1.freeze hd;exact go ex I2 Zx (q o (Zxp I1 hd))
 .exact go ex I1 hd q
theorem Au{tg ox:Expr}{m:Str}{ap cp:Pos}{tl:TE}{J:Addr->Obj->List (Key×V)->It}(hl:PE X ox tl)(hb:attributeBase ox m X.env (eval ox X.env)=eval ox X.env)(Uw:(ap.endLine == cp.line)=true)
  (go:∀{XF:ZY} {j:L2.St} {H2:Hp} {s1:Shared} {R:It->Hp->Prop} {d:Addr} {o:Obj} {XB:List (Key×V)},Inv X XF j H2 s1->H2 d=some (.frz o (.dK XB))->R (J d o XB) H2->PySem.MethodOn X.prog X.w X.A m cp (.ref d) [] (fun v s=>wpAny (model X.prog X.w) X.A (pyIter v) (PIE X XF j tg R) X.xe s) X.xe s1) :
  PI X tg (.Call (.Attribute ox m ap) [] [] cp) (fun j H R=>tl j H fun x H1=>(∃d XB,x=.ref d/\H1 d=some (.dK XB)/\∀o,NF X d->R (J d o XB) (upd H1 d (.frz o (.dK XB))))\/∃d o XB,x=.ref d/\H1 d=some (.frz o (.dK XB))/\R (J d o XB) H1):=by
 intro XF s j H R I h;refine wpAny_Call_method0_late hb Uw (Z3 (hl XF s j H _ I h) fun v s1 ⟨x,H1,I1,r1,q1⟩=>?_);rcases q1 with ⟨d,XB,rfl,hd,q⟩ | ⟨d,o,XB,rfl,hd,q⟩
 .cases r1;obtain⟨o,ho,I2⟩:=I1.freeze hd;exact go I2 Zx (q o (Zxp I1 hd))
 .cases r1;exact go I1 hd q
end
def Frz(X:Cx)(F H F' H':Hp):Prop:=(F'=F/\H'=H)\/∃d o ks,F d=some (.dK ks)/\NF X d/\F'=upd F d (.frz o (.dK ks))/\H'=upd H d (.frz o (.dK ks))
def Walk(K:W.Frag)(mg:ZV)(J:It)(F H:Hp)(xs:ZZ):Prop:=∀i F1 H1,Le F F1->Up K H H1->(∀a o,F1 a=some o->H1 a=some o) ->
 (∀t,xs[i]?=some t->J.go i H1/\∀x H2,J.yld i H1 x H2->Zl H1 H2/\IsT K mg H2 F1 t x)/\(i=xs.length->J.stop i H1)
inductive LI_I(X:Cx)(w:W)(e:E)(j:L2.St)(H:Hp)(R:(It->Hp->Prop)):Prop
 | mk(F G p xs p')(Vj:Rel X.K X.mg F G p j H)(Vq:cg (ev w e p)=some (xs,p'))(Jd:∀F1 H1 F' H' J,Le F F1->Up X.K H H1->Rel X.K X.mg F1 G p' j H1->Frz X F1 H1 F' H'->xs.length<=sizeLine->Walk X.K X.mg J F' H' xs->R J H'):LI_I X w e j H R
def LI(X:Cx)(w:W)(e:E):TI:=fun j H R=>LI_I X w e j H R
theorem l8{F H:Hp}{d:Addr}{o:Obj}{ks:List (Key×V)}(e:F d=some (.dK ks)):nr F (upd F d (.frz o (.dK ks))):=⟨fun a vs r=>by
  by_cases z:a=d
  .subst z;rcases r with r | ⟨_,r⟩<;>rw[e]at r<;>cases r
  .unfold Rd;rw[Zz z];exact r,fun a vs r=>by
  by_cases z:a=d
  .subst z;rcases r with r | ⟨_,r⟩
   .rw[e]at r;cases r;exact .inr ⟨o,Zx⟩
   .rw[e]at r;cases r
  .unfold Rd;rw[Zz z];exact r⟩
theorem Hd{F:Hp}{d:Addr}{o:Obj}{ks:List (Key×V)}(e:F d=some (.frz o (.dK ks))):nr F (upd F d (.dK ks)):=⟨fun a vs r=>by
  by_cases z:a=d
  .subst z;rcases r with r | ⟨_,r⟩<;>rw[e]at r<;>cases r
  .unfold Rd;rw[Zz z];exact r,fun a vs r=>by
  by_cases z:a=d
  .subst z;rcases r with r | ⟨_,r⟩
   .rw[e]at r;cases r
   .rw[e]at r;cases r;exact .inl Zx
  .unfold Rd;rw[Zz z];exact r⟩
theorem Zxz{K:W.Frag}{H:Hp}{d:Addr}{o o':HO}(e:H d=some o)(n:∀xs,o≠.tup xs)(n':∀u xs,o≠.frz u (.tup xs)):Up K H (upd H d o'):=fun c xs q=>by
 rcases q with (q | ⟨u,q⟩) | q
 .exact .inl (.inl (by rw[Zz fun z=>by rw[z,e]at q;cases q;exact n _ rfl];exact q))
 .exact .inl (.inr ⟨u,by rw[Zz fun z=>by rw[z,e]at q;cases q;exact n' _ _ rfl];exact q⟩)
 .exact .inr q
section
variable{X:Cx}{w:W}{F F' G H H':Hp}{p:P}{j:L2.St}
theorem Rel.turn{K:PySem.W.Frag}{mg:ZV}{d:Addr}{o o':HO}(r:Rel K mg F G p j H)(e:F d=some o)(pl:Pln o)(u:Up K H (upd H d o'))(l:nr F (upd F d o')):Rel K mg (upd F d o') G p j (upd H d o'):=by
 refine⟨⟨fun a x q=>?_,fun a x q=>?_,fun a q=>?_,fun T e'=>let ⟨f1,g1,t1⟩:=r.b.t T e';⟨by rw[Zz (t1.ne (r.b.f d o e) pl).symm];exact f1,g1,t1.upd (r.b.f d o e) pl⟩⟩,fun i t q=>let ⟨v,h1,h2⟩:=r.fz i t q;⟨v,h1,IsT.upR u l t v h2⟩,fun i t q=>?_,r.ap,r.ln⟩
 .by_cases z:a=d
  .subst z;rw[Zx]at q ⊢;exact q
  .rw[Zz z]at q ⊢;exact r.b.f a x q
 .have gd:G d=none:=r.b.d d (by rw[e];exact fun z=>nomatch z);rw[Zz fun z=>by rw[z,gd]at q;cases q];exact r.b.g a x q
 .by_cases z:a=d
  .subst z;exact r.b.d a (by rw[e];exact fun z=>nomatch z)
  .rw[Zz z]at q;exact r.b.d a q
 .obtain⟨a,h1,h2,h3,h4⟩:=r.ow i t q;have z:a≠d:=fun z=>by subst z;rw[h2]at e;cases e
  refine⟨a,h1,by rw[Zz z];exact h2,h3, ?_⟩;cases t with
  | lst ts=>obtain⟨vs,q1,q2,q3⟩:=h4;exact⟨vs,by rw[Zz z];exact q1,q2,Zq.upR u l ts vs q3⟩
  | dct ts=>obtain⟨vs,q1,q2,q3⟩:=h4;exact⟨vs,by rw[Zz z];exact q1,q2,Zn.upR u l ts vs q3⟩
  | _=>exact h4.elim
theorem Frz.rel(z:Frz X F H F' H')(r:Rel X.K X.mg F G p j H):Rel X.K X.mg F' G p j H'/\Up X.K H H'/\nr F F':=by
 rcases z with ⟨rfl,rfl⟩ | ⟨d,o,ks,e,nf,rfl,rfl⟩
 .exact⟨r,Up.refl _,(Le.refl _).r⟩
 .have u:Up X.K H (upd H d (.frz o (.dK ks))):=Zxz (r.b.f d _ e) (fun _ z=>nomatch z) fun _ _ z=>nomatch z;have l:=l8 (H:=H) (o:=o) e;exact⟨r.turn e Ap u l,u,l⟩
theorem Frz.back{p2:P}{σ2:L2.St}{F2 H2:Hp}(z:Frz X F H F' H')(l:Le F' F2)(r:Rel X.K X.mg F2 G p2 σ2 H2):∃F3 H3,Le F F3/\Rel X.K X.mg F3 G p2 σ2 H3/\Mel X H2 H3/\Up X.K H2 H3/\nr F2 F3/\(∀a,F2 a=none->F3 a=none)/\∀a,F2 a=none->H3 a=H2 a:=by
 rcases z with ⟨rfl,rfl⟩ | ⟨d,o,ks,e,nf,rfl,rfl⟩
 .exact⟨F2,H2,l,r,.inl rfl,Up.refl _,(Le.refl _).r,fun _ h=>h,fun _ _=>rfl⟩
 .have e2:F2 d=some (.frz o (.dK ks)):=l d _ Zx;have eh:=r.b.f d _ e2;have u:Up X.K H2 (upd H2 d (.dK ks)):=Zxz eh (fun _ z=>nomatch z) fun _ _ z=>by cases z
  refine⟨upd F2 d (.dK ks),upd H2 d (.dK ks),fun a x q=>?_,r.turn e2 pln_f u (Hd e2),.inr ⟨d,o,ks,eh,nf,rfl⟩,u,Hd e2,fun a h=>?_,fun a h=>?_⟩
  .by_cases za:a=d
   .subst za;rw[e]at q;cases q;exact Zx
   .rw[Zz za];exact l a x (by rw[Zz za];exact q)
  .rw[Zz fun z=>by rw[z,e2]at h;cases h];exact h
  .rw[Zz fun z=>by rw[z,e2]at h;cases h]
end
section
variable{K:W.Frag}{mg:ZV}{F H:Hp}
theorem jk{a:Addr}{ts:ZZ}{vs:ZQ}(h1:Vy K H a vs)(ar:Zq K mg H F ts vs):Walk K mg (Itt K a) F H ts:=fun i F1 H1 l u fh=>by
 have Vc:=Zq.up u l _ _ ar;refine⟨fun t e=>?_,fun e=>⟨vs,u _ _ h1,by rw[e,ar.length];exact Yz _⟩⟩;obtain⟨v,e1,h2⟩:=Vc.get e;refine⟨⟨vs,v,u _ _ h1,e1⟩,fun x H2 y=>?_⟩;obtain⟨rfl,y⟩:=y;have:=y vs (u _ _ h1);rw[e1]at this;cases this;exact⟨Zl.refl _,h2⟩
theorem jb{a:Addr}{ts:ZZ}{vs:ZQ}(h1:Rd F a (.lst vs))(ar:Zq K mg H F ts vs):Walk K mg (Itl K a) F H ts:=fun i F1 H1 l u fh=>by
 have Vc:=Zq.up u l _ _ ar
 have sq:Jj K H1 a vs:=.inl (by
  rcases l.r.l a vs h1 with q | ⟨o,q⟩
  .exact .inl (fh _ _ q)
  .exact .inr ⟨o,fh _ _ q⟩)
 refine⟨fun t e=>?_,fun e=>⟨vs,sq,by rw[e,ar.length];exact Yz _⟩⟩;obtain⟨v,e1,h2⟩:=Vc.get e;refine⟨⟨vs,v,sq,e1⟩,fun x H2 y=>?_⟩;obtain⟨rfl,y⟩:=y;have:=y vs sq;rw[e1]at this;cases this;exact⟨Zl.refl _,h2⟩
theorem Qp{d:Addr}{o:Obj}{XB:ZX}{ks:List (Key×V)}(h1:F d=some (.frz o (.dK ks)))(ek:XB.map (·.1)=ks.map (·.1)):Walk K mg (Itd d o ks) F H (XB.map fun p=>T2 p.1):=fun i F1 H1 l u fh=>by
 have hd:=fh _ _ (l d _ h1);have ln:XB.length=ks.length:=by have:=congrArg List.length ek;simpa using this
 refine⟨fun t e=>?_,fun e=>⟨by rw[e,Z0,ln];exact Yz _,hd⟩⟩;rw[B4]at e;obtain⟨q,e1,rfl⟩:=Z4.mp e;have hi:=(B3.mp e1).1;refine⟨⟨by omega,hd⟩,fun x H2 y=>?_⟩;obtain⟨rfl,k,z,e2,rfl⟩:=y;have e3:(XB.map (·.1))[i]?=some q.1:=by rw[B4,e1];rfl
 rw[ek,B4,e2]at e3;cases e3;exact⟨Zl.refl _,Fq _⟩
theorem jg{z:Str}:Walk K mg (Its z) F H (z.cps.toList.map fun c=>T.str ⟨#[c]⟩):=fun i F1 H1 l u fh=>by
 refine⟨fun t e=>?_,fun e=>by rw[Z0,S9]at e;exact Nat.le_of_eq e.symm⟩;rw[B4]at e;obtain⟨c,e1,rfl⟩:=Z4.mp e;have e1:z.cps[i]?=some c:=by simpa using e1
 refine⟨(Array.getElem?_eq_some_iff.mp e1).1,fun x H2 y=>?_⟩;obtain⟨rfl,c',e2,rfl⟩:=y;rw[e1]at e2;cases e2;exact⟨Zl.refl _,rfl⟩
theorem jf{n:Nat}:Walk K mg (Itr 0 n) F H ((List.range n).map fun k=>T.int (k:Nat)):=fun i F1 H1 l u fh=>by
 refine⟨fun t e=>?_,fun e=>by rw[Z0,XJ]at e;exact Nat.le_of_eq e.symm⟩;rw[B4]at e;obtain⟨c,e1,rfl⟩:=Z4.mp e;have hi:=(B3.mp e1);obtain⟨hi,e2⟩:=hi;rw[XJ]at hi;rw[List.getElem_range]at e2;subst e2;refine⟨hi,fun x H2 y=>?_⟩;obtain⟨rfl,rfl⟩:=y;exact⟨Zl.refl _,by show V.int _=V.int _;rw[Int.zero_add]⟩
theorem Cy{H1 H2 F1:Hp}{q:Addr}{t u:T}{x y:V}(hq:H1 q=none)(e:H2=upd H1 q (.tup [x,y]))(ht:IsT K mg H1 F1 t x)(hu:IsT K mg H1 F1 u y):Zl H1 H2/\IsT K mg H2 F1 (.tup [t,u]) (.ref q):=by
 subst e;have s:Zl H1 (upd H1 q (.tup [x,y])):=Zl.lay hq;exact⟨s,q,_,rfl,Vy.of Zx,by show 2<=sizeLine;decide,x,_,rfl,IsT.up s.up (Le.refl _) _ _ ht,y,_,rfl,IsT.up s.up (Le.refl _) _ _ hu,rfl⟩
theorem Qr{a b:ZZ}{i:Nat}{t:T}(e:(Ta a b)[i]?=some t):∃x y,a[i]?=some x/\b[i]?=some y/\t=.tup [x,y]:=by
 unfold Ta at e;rw[B4]at e;obtain⟨q,e1,rfl⟩:=Z4.mp e;rw[List.getElem?_zip_eq_some]at e1;exact⟨_,_,e1.1,e1.2,rfl⟩
theorem Mx{a b:ZZ}:(Ta a b).length=min a.length b.length:=by unfold Ta;rw[Z0,List.length_zip]
theorem Xw{a b:Addr}{ts us:ZZ}{vs ws:ZQ}(h1:Vy K H a vs)(ar:Zq K mg H F ts vs)(h2:Vy K H b ws)(br:Zq K mg H F us ws):Walk K mg (Itzt K a b) F H (Ta ts us):=fun i F1 H1 l u fh=>by
 have Vc:=Zq.up u l _ _ ar;have br1:=Zq.up u l _ _ br;refine⟨fun t e=>?_,fun e=>⟨vs,ws,u _ _ h1,u _ _ h2,by rw[Mx,ar.length,br.length]at e;omega⟩⟩;obtain⟨x,y,e1,e2,rfl⟩:=Qr e;obtain⟨v,g1,g2⟩:=Vc.get e1;obtain⟨v',g3,g4⟩:=br1.get e2;refine⟨⟨vs,ws,v,v',u _ _ h1,u _ _ h2,g1,g3⟩,fun z H2 yl=>?_⟩;obtain⟨q,x',y',rfl,hq,hH,k1,k2⟩:=yl;have:=k1 vs (u _ _ h1);rw[g1]at this;cases this;have:=k2 ws (u _ _ h2);rw[g3]at this;cases this;exact Cy hq hH g2 g4
theorem Xv{a b:Addr}{ts us:ZZ}{vs ws:ZQ}(h1:Rd F a (.lst vs))(ar:Zq K mg H F ts vs)(h2:Rd F b (.lst ws))(br:Zq K mg H F us ws):Walk K mg (Itz K a b) F H (Ta ts us):=fun i F1 H1 l u fh=>by
 have Vc:=Zq.up u l _ _ ar;have br1:=Zq.up u l _ _ br
 have sq:∀{a:Addr} {vs:ZQ},Rd F a (.lst vs)->Jj K H1 a vs:=fun {a vs} h=>.inl (by
  rcases l.r.l a vs h with q | ⟨o,q⟩
  .exact .inl (fh _ _ q)
  .exact .inr ⟨o,fh _ _ q⟩)
 refine⟨fun t e=>?_,fun e=>⟨vs,ws,sq h1,sq h2,by rw[Mx,ar.length,br.length]at e;omega⟩⟩;obtain⟨x,y,e1,e2,rfl⟩:=Qr e;obtain⟨v,g1,g2⟩:=Vc.get e1;obtain⟨v',g3,g4⟩:=br1.get e2;refine⟨⟨vs,ws,v,v',sq h1,sq h2,g1,g3⟩,fun z H2 yl=>?_⟩;obtain⟨q,x',y',rfl,hq,hH,k1,k2⟩:=yl;have:=k1 vs (sq h1);rw[g1]at this;cases this;have:=k2 ws (sq h2);rw[g3]at this;cases this;exact Cy hq hH g2 g4
end
section
variable{X:Cx}{w:W}{k:Nat}{N:ZD}{sc:ZK}
theorem T1{o:Option (Sl×P)}{t:T}{p:P}(h:toT o=some (t,p)):∃r,o=some (r,p)/\thaw r=some t:=by
 unfold toT at h;obtain⟨y,e1,e2⟩:=ZO.mp h;obtain⟨t',e3,e4⟩:=Z4.mp e2;cases e4;exact⟨y.1,e1,e3⟩
theorem Es{o:Option (Sl×P)}{ts:ZZ}{p:P}(h:cg o=some (ts,p)):∃r t,o=some (r,p)/\thaw r=some t/\Mq t=some ts:=by
 unfold cg at h;obtain⟨y,e1,e2⟩:=ZO.mp h;obtain⟨t',e3,e4⟩:=Z4.mp e2;cases e4;obtain⟨r,e5,e6⟩:=T1 (p:=y.2) (t:=y.1) e1;exact⟨r,y.1,e5,e6,e3⟩
theorem vw{it:E}{tg iter:Expr}(h:PE X iter (LE X.K X.mg w it)):PI X tg iter (LI X w it):=by
 intro XF s j H R I ⟨F,G,p,xs,p',rel,e,kq⟩;obtain⟨r,t,e1,e2,e3⟩:=Es e
 have key:∀{Q:VK},(∀F2 H1 v,Le F F2->Up X.K H H1->Rel X.K X.mg F2 G p' j H1->IsT X.K X.mg H1 F2 t v->Q v H1)->LE X.K X.mg w it j H Q:=fun k=>⟨F,G,p,r,p',rel,e1,fun F1 H1 v l1 u1 Zm rs=>by
  obtain⟨F2,l2,Zo,ht⟩:=Zm.thaw e2 rs;exact k F2 H1 v (l1.trans l2) u1 Zo ht⟩
 unfold Mq at e3
 split at e3
 .cases e3;refine pi_tup h XF s j H R I (key fun F2 H1 v l u Zo ht=>?_);obtain⟨a,vs,rfl,h1,z,ar⟩:=ht;exact⟨a,rfl,⟨vs,h1⟩,kq F2 H1 F2 H1 _ l u Zo (.inl ⟨rfl,rfl⟩) (by rw[ar.length];exact z) (jk h1 ar)⟩
 .cases e3;refine ak h XF s j H R I (key fun F2 H1 v l u Zo ht=>?_);obtain⟨a,vs,rfl,h1,z,ar⟩:=ht;exact⟨a,rfl,⟨vs,.inl (Zo.b.rd h1)⟩,kq F2 H1 F2 H1 _ l u Zo (.inl ⟨rfl,rfl⟩) (by rw[ar.length];exact z) (jb h1 ar)⟩
 .cases e3;refine kg h XF s j H R I (key fun F2 H1 v l u Zo ht=>?_);obtain⟨a,ks,rfl,h1,z,ar⟩:=ht;rcases h1 with h1 | ⟨o,h1⟩
  .exact .inl ⟨a,ks,rfl,Zo.b.f _ _ h1,fun o nf=>kq F2 H1 _ _ _ l u Zo (.inr ⟨a,o,ks,h1,nf,rfl,rfl⟩) (by rw[Z0,ar.length];exact z) (Qp Zx ar.keys)⟩
  .exact .inr ⟨a,o,ks,rfl,Zo.b.f _ _ h1,kq F2 H1 F2 H1 _ l u Zo (.inl ⟨rfl,rfl⟩) (by rw[Z0,ar.length];exact z) (Qp h1 ar.keys)⟩
 .split at e3
  .rename_i hz
   cases e3;refine pi_str h XF s j H R I (key fun F2 H1 v l u Zo ht=>?_);exact⟨_,ht,kq F2 H1 F2 H1 _ l u Zo (.inl ⟨rfl,rfl⟩) (by rw[Z0,S9];exact hz) jg⟩
  .cases e3
 .cases e3
noncomputable def ikN:Ik->Str
 | .rng => "range"
 | .zip => "zip"
 | .vls => "values"
 | .its => "items"
def ikL:Ik->Nat
 | .zip=>2
 | _=>1
def isTup:Expr->Bool
 | .Tuple _ _ _=>true
 | _=>false
def ikV:Ik->Bool
 | .vls=>true
 | .its=>true
 | _=>false
def xx:Ik->Expr->Bool
 | .rng,_=>true
 | .vls,_=>true
 | _,t=>isTup t
theorem len1{j:Type}{xs:List j}(h:xs.length=1):∃x,xs=[x]:=by
 cases xs with
 | nil=>cases h
 | cons x r=>cases r with
  | nil=>exact⟨x,rfl⟩
  | cons y r=>cases h
theorem len2{j:Type}{xs:List j}(h:xs.length=2):∃x y,xs=[x,y]:=by
 cases xs with
 | nil=>cases h
 | cons x r=>obtain⟨y,rfl⟩:=len1 (Nat.succ.inj h);exact⟨x,y,rfl⟩
theorem Er{e:Expr}(h:isTup e=true):∃a b c,e=.Tuple a b c:=by
 cases e<;>first | exact⟨_,_,_,rfl⟩ | cases h
theorem pw(c:Ctx X w k N sc){q:Ik}{es:E}{xs:ZC}{tg:Expr}{f:Str}{p0 pos:Pos}(hs:Hs X w false es xs)(hn:Vp es=true)(hf:(f == ikN q && !ikV q && Rp sc f && xx q tg)=true)(hl:xs.length=ikL q):PI X tg (.Call (.Name f p0) xs [] pos) (LI X w (.itr q es)):=by
 intro XF s j H R I ⟨F,G,p,ys,p',rel,e,kq⟩;simp only[Ya,beq_iff_eq]at hf;obtain⟨⟨⟨rfl,hV⟩,g1⟩,ht⟩:=hf;obtain⟨gg,gd⟩:=c.gl' g1;obtain⟨r,t,e1,e2,e3⟩:=Es e
 replace e1:=(Ic _ _).symm.trans e1
 obtain⟨a,q1,e1⟩:=ZO.mp e1;obtain⟨ts,q2,e1⟩:=ZO.mp e1;obtain⟨zs,q3,e1⟩:=Z4.mp e1;cases e1;cases e2;cases e3;have nt:=Np es hs q1 hn;have Rr:=hs.star;have key:∀{Q:ZQ->Hp->Prop},(∀F1 H1 vs,Le F F1->Up X.K H H1->Rel X.K X.mg F1 G a.2 j H1->Zq X.K X.mg H1 F1 ts vs->Q vs H1)->LA X.K X.mg w false es j H Q:=fun k=>⟨F,G,p,a.1,a.2,rel,q1,fun F1 H1 vs l1 u1 Zm ar=>k F1 H1 vs l1 u1 Zm (G8 nt q2 ar)⟩;cases q with
 | rng =>
  obtain⟨x,rfl⟩:=len1 hl;refine zg gg (c.bn _ (by decide +kernel)) hs.pa (by rw[Z7 (Rr _ Vk)];rfl) XF s j H R I (key fun F1 H1 vs l u Zm ar=>?_);unfold itT at q3
  split at q3<;>first | (rename_i z;cases z) | skip
  .rename_i tt _
   unfold rngT at q3
   split at q3
   .split at q3
    .rename_i n hz
     cases q3;obtain⟨v,r,rfl,hv,hr⟩:=ar;cases(show r=[] from hr);cases(show v=_ from hv);exact⟨n,rfl,by omega,by omega,kq F1 H1 F1 H1 _ l u Zm (.inl ⟨rfl,rfl⟩) (by rw[Z0,XJ];have:=sizeLine_eq;omega) jf⟩
    .cases q3
   .cases q3
  all_goals cases q3
 | zip =>
  obtain⟨x,y,rfl⟩:=len2 hl;obtain⟨_,_,_,rfl⟩:=Er ht;have h2:starEach [x,y] X.env=(false,eval x X.env)::starEach [y] X.env:=Z7 (Rr _ Vk);have h3:(backTo pos (starEach [y] X.env)).any (·.1)=false:=Yo _ _ _ fun e m=>Rr e (Vb _ m);unfold itT at q3
  split at q3<;>first | (rename_i z;cases z) | skip
  .cases q3;refine pi_zip gg (c.bn _ (by decide +kernel)) hs.pa h2 h3 XF s j H R I (key fun F1 H1 vs l u Zm ar=>?_);obtain⟨v,r,rfl,hv,v',r',rfl,bp,hr⟩:=ar;cases(show r'=[] from hr);obtain⟨a1,vs,rfl,k1,z1,Vc⟩:=hv;obtain⟨a2,ws,rfl,k2,z2,Bj⟩:=bp;exact⟨a1,a2,rfl,⟨vs,.inl (Zm.b.rd k1)⟩,⟨ws,.inl (Zm.b.rd k2)⟩,kq F1 H1 F1 H1 _ l u Zm (.inl ⟨rfl,rfl⟩) (by rw[Mx,Vc.length];omega) (Xv k1 Vc k2 Bj)⟩
  .cases q3;refine ay gg (c.bn _ (by decide +kernel)) hs.pa h2 h3 XF s j H R I (key fun F1 H1 vs l u Zm ar=>?_);obtain⟨v,r,rfl,hv,v',r',rfl,bp,hr⟩:=ar;cases(show r'=[] from hr);obtain⟨a1,vs,rfl,k1,z1,Vc⟩:=hv;obtain⟨a2,ws,rfl,k2,z2,Bj⟩:=bp;exact⟨a1,a2,rfl,⟨vs,k1⟩,⟨ws,k2⟩,kq F1 H1 F1 H1 _ l u Zm (.inl ⟨rfl,rfl⟩) (by rw[Mx,Vc.length];omega) (Xw k1 Vc k2 Bj)⟩
  all_goals cases q3
 | vls=>cases hV
 | its=>cases hV
theorem Qs{K:PySem.W.Frag}{mg:ZV}{F H:Hp}{d:Addr}{o:Obj}{XB:ZX}{ks:List (Key×V)}(h1:F d=some (.frz o (.dK ks)))(ar:Zn K mg H F XB ks):Walk K mg (Itv d o ks) F H (XB.map (·.2)):=fun i F1 H1 l u fh=>by
 have hd:=fh _ _ (l d _ h1);have ln:=ar.length;refine⟨fun t e=>?_,fun e=>⟨by rw[e,Z0,ln];exact Yz _,hd⟩⟩;obtain⟨v,e1,h2⟩:=(Zn.up u l _ _ ar).valT.get e;rw[B4]at e1;obtain⟨q,e2,rfl⟩:=Z4.mp e1;refine⟨⟨(B3.mp e2).1,hd⟩,fun x H2 y=>?_⟩;obtain⟨rfl,k,e3⟩:=y;rw[e2]at e3;cases e3;exact⟨Zl.refl _,h2⟩
theorem Qh{K:PySem.W.Frag}{mg:ZV}{F H:Hp}{d:Addr}{o:Obj}{XB:ZX}{ks:List (Key×V)}(h1:F d=some (.frz o (.dK ks)))(ar:Zn K mg H F XB ks):Walk K mg (Iti d o ks) F H (XB.map fun p=>.tup [T2 p.1,p.2]):=fun i F1 H1 l u fh=>by
 have hd:=fh _ _ (l d _ h1);have ln:=ar.length;refine⟨fun t e=>?_,fun e=>⟨by rw[e,Z0,ln];exact Yz _,hd⟩⟩;rw[B4]at e;obtain⟨q,e0,rfl⟩:=Z4.mp e;obtain⟨v,e1,h2⟩:=(Zn.up u l _ _ ar).valT.get (show (XB.map (·.2))[i]?=some q.2 by rw[B4,e0];rfl);rw[B4]at e1;obtain⟨z,e2,rfl⟩:=Z4.mp e1;refine⟨⟨(B3.mp e2).1,hd⟩,fun x H2 y=>?_⟩;obtain⟨r,k,x',rfl,hr,hH,e3⟩:=y;rw[e2]at e3;cases e3;have e4:(XB.map (·.1))[i]?=some q.1:=by rw[B4,e0];rfl
 rw[ar.keys,B4,e2]at e4;cases e4;exact Cy hr hH (Fq _) h2
theorem vv(c:Ctx X w k N sc){q:Ik}{es:E}{ox tg:Expr}{m:Str}{ap cp:Pos}(hs:Hs X w false es [ox])(hn:Vp es=true)(hf:(m == ikN q && ikV q && xx q tg)=true)(hc:Uq ox=true)(Uw:(ap.endLine == cp.line)=true):PI X tg (.Call (.Attribute ox m ap) [] [] cp) (LI X w (.itr q es)):=by
 intro XF s j H R I ⟨F,G,p,ys,p',rel,e,kq⟩;simp only[Ya,beq_iff_eq]at hf;obtain⟨⟨rfl,hV⟩,ht⟩:=hf;obtain⟨r,t,e1,e2,e3⟩:=Es e
 replace e1:=(Ic _ _).symm.trans e1
 obtain⟨⟨as,pz⟩,q1,e1⟩:=ZO.mp e1;obtain⟨ts,q2,e1⟩:=ZO.mp e1;obtain⟨zs,q3,e1⟩:=Z4.mp e1;cases e1;cases e2;cases e3;have nt:=Np es hs q1 hn;cases hs with | cons ha sa t=>cases t with | nil =>
 obtain⟨a',p1,as1,g1,g2,rfl⟩:=Zd q1;obtain⟨rfl,rfl⟩:=Yd g2;have key:∀{Q:VK},(∀F1 H1 v,Le F F1->Up X.K H H1->Rel X.K X.mg F1 G pz j H1->Zq X.K X.mg H1 F1 ts [v]->Q v H1)->LH X.K X.mg w false _ j H Q:=fun k=>⟨F,G,p,a',_,rel,g1,fun F1 H1 v l u Zm ar=>k F1 H1 v l u Zm (G8 nt q2 (.cons ar .nil))⟩;cases q with
 | rng=>cases hV
 | zip=>cases hV
 | vls =>
  unfold itT at q3
  split at q3<;>first | (rename_i z;cases z) | skip
  .cases q3;refine Au (J:=Itv) ha (Je hc _ _ _) Uw (fun I e q=>n6 I e q) XF s j H R I (key fun F1 H1 v l u Zm ar=>?_);obtain⟨v',r,ev,bp,hr⟩:=ar;cases(show r=[] from hr);cases ev;obtain⟨a1,ks,rfl,h1,z1,Vc⟩:=bp;rcases h1 with h1 | ⟨o,h1⟩
   .refine .inl ⟨a1,ks,rfl,Zm.b.f _ _ h1,fun o nf=>?_⟩;have fz:Frz X F1 H1 _ _:=.inr ⟨a1,o,ks,h1,nf,rfl,rfl⟩;obtain⟨_,u',l'⟩:=fz.rel Zm;exact kq F1 H1 _ _ _ l u Zm fz (by rw[Z0,Vc.length];exact z1) (Qs Zx (Zn.upR u' l' _ _ Vc))
   .exact .inr ⟨a1,o,ks,rfl,Zm.b.f _ _ h1,kq F1 H1 F1 H1 _ l u Zm (.inl ⟨rfl,rfl⟩) (by rw[Z0,Vc.length];exact z1) (Qs h1 Vc)⟩
  all_goals cases q3
 | its =>
  obtain⟨_,_,_,rfl⟩:=Er ht;unfold itT at q3
  split at q3<;>first | (rename_i z;cases z) | skip
  .cases q3;refine Au (J:=Iti) ha (Je hc _ _ _) Uw (fun I e q=>bz I e q) XF s j H R I (key fun F1 H1 v l u Zm ar=>?_);obtain⟨v',r,ev,bp,hr⟩:=ar;cases(show r=[] from hr);cases ev;obtain⟨a1,ks,rfl,h1,z1,Vc⟩:=bp;rcases h1 with h1 | ⟨o,h1⟩
   .refine .inl ⟨a1,ks,rfl,Zm.b.f _ _ h1,fun o nf=>?_⟩;have fz:Frz X F1 H1 _ _:=.inr ⟨a1,o,ks,h1,nf,rfl,rfl⟩;obtain⟨_,u',l'⟩:=fz.rel Zm;exact kq F1 H1 _ _ _ l u Zm fz (by rw[Z0,Vc.length];exact z1) (Qh Zx (Zn.upR u' l' _ _ Vc))
   .exact .inr ⟨a1,o,ks,rfl,Zm.b.f _ _ h1,kq F1 H1 F1 H1 _ l u Zm (.inl ⟨rfl,rfl⟩) (by rw[Z0,Vc.length];exact z1) (Qh h1 Vc)⟩
  all_goals cases q3
end
section
variable{K:W.Frag}{mg:ZV}{F G H:Hp}{p:P}{Z:L2.St}
theorem Rel.bind(r:Rel K mg F G p Z H){i:Nat}{s:Sl}{v:V}(hi:i<Z.length)(h:Res K mg F G p Z H s v):Rel K mg F G (p.set i s) (Z.set i (some v)) H:=by
 have at_:(Z.set i (some v))[i]?=some (some v):=List.getElem?_set_self hi;have ne:∀{j:Nat},j≠i->(Z.set i (some v))[j]?=Z[j]?:=fun n=>List.getElem?_set_ne fun z=>n z.symm;refine⟨r.b,fun j t e=>?_,fun j t e=>?_,fun j l t u a e1 e2 h1 h2=>?_,by rw[XY,XY];exact r.ln⟩
 .rcases Za e with ⟨z,y⟩ | ⟨n,e⟩
  .subst z y;exact⟨v,at_,h⟩
  .obtain⟨u,h1,h2⟩:=r.fz j t e;exact⟨u,(ne n).trans h1,h2⟩
 .rcases Za e with ⟨z,y⟩ | ⟨n,e⟩
  .subst z y;obtain⟨a,rfl,h1,h2,h3,_⟩:=h;exact⟨a,at_,h1,h2,h3⟩
  .obtain⟨a,h1,h2⟩:=r.ow j t e;exact⟨a,(ne n).trans h1,h2⟩
 .rcases Za e1 with ⟨z,y⟩ | ⟨n,q1⟩
  .rcases Za e2 with ⟨z',_⟩ | ⟨n,q2⟩
   .rw[z,z']
   .subst z y;obtain⟨b,rfl,_,_,_,h4⟩:=h;rw[at_]at h1;cases h1;rw[ne n]at h2;exact absurd h2 (h4 l u q2)
  .rw[ne n]at h1;rcases Za e2 with ⟨z,y⟩ | ⟨n',q2⟩
   .subst z y;obtain⟨b,rfl,_,_,_,h4⟩:=h;rw[at_]at h2;cases h2;exact absurd h1 (h4 j t q1)
   .rw[ne n']at h2;exact r.ap j l t u a q1 q2 h1 h2
end
noncomputable def Nc:E->List Nat
 | .v i=>[i]
 | .tup es=>Nc es
 | .cons a r=>Nc a++Nc r
 | _=>[]
noncomputable def locs(sc:ZK)(x:Str):Bool:=match sc.lookup x with
 | some .local=>true
 | some .cell=>true
 | _=>false
mutual
noncomputable def Nr(N:ZD)(sc:ZK):E->Expr->Bool
 | .v i,.Name x _=>N[i]? == some x && locs sc x
 | .tup es,.Tuple xs _ _=>Mb N sc es xs
 | _,_=>false
noncomputable def Mb(N:ZD)(sc:ZK):E->ZC->Bool
 | .nil,[]=>true
 | .cons a r,x::xs=>Nr N sc a x && Mb N sc r xs
 | _,_=>false
end
def LG(K:W.Frag)(mg:ZV)(tg:E):TG:=fun v Z H Q=>∃F G p t p',Rel K mg F G p Z H/\IsT K mg H F t v/\asg tg t p=some p'/\∀σ',Rel K mg F G p' σ' H->(∀j,j ∉ Nc tg->σ'[j]?=Z[j]?)->σ'.length=Z.length->Q σ' H
def LGs(K:W.Frag)(mg:ZV)(tg:E):ng:=fun vs Z H Q=>∃F G p ts p',Rel K mg F G p Z H/\Zq K mg H F ts vs/\K8 tg ts p=some p'/\∀σ',Rel K mg F G p' σ' H->(∀j,j ∉ Nc tg->σ'[j]?=Z[j]?)->σ'.length=Z.length->Q σ' H
section
variable{X:Cx}{w:W}{k:Nat}{N:ZD}{sc:ZK}
theorem Ctx.loc(c:Ctx X w k N sc){x:Str}(h:locs sc x=true):Loc X.env.scope x/\(X.fn x=true\/X.env.scope.names.lookup x=some .local):=by
 unfold locs at h
 split at h
 .rename_i e
  rcases c.nm x _ e with e | ⟨z,_⟩
  .exact⟨.inl e,.inr e⟩
  .cases z
 .rename_i e
  rcases c.nm x _ e with e' | ⟨z,_⟩
  .exact⟨.inr e',.inl (c.cl x e)⟩
  .cases z
 .cases h
theorem Fy:∀(es:E) {xs:ZC},Mb N sc es xs=true->(∀x∈xs,noStar x=true)
 | .nil,[],_,x,m=>absurd m Tj
 | .cons a r,y::xs,h,x,m=>by
  have h:(Nr N sc a y && Mb N sc r xs)=true:=h;rw[Ya]at h;rcases Y6.mp m with rfl | m
  .cases x<;>first | rfl | (cases a<;>cases h.1)
  .exact Fy r h.2 x m
 | .nil,_::_,h,_,_=>by cases h
 | .cons _ _,[],h,_,_=>by cases h
 | .v _,_,h,_,_=>by cases h
 | .k _,_,h,_,_=>by cases h
 | .g _,_,h,_,_=>by cases h
 | .pr _ _,_,h,_,_=>by cases h
 | .mv _,_,h,_,_=>by cases h
 | .io _,_,h,_,_=>by cases h
 | .tup _,_,h,_,_=>by cases h
 | .lst _,_,h,_,_=>by cases h
 | .and _ _,_,h,_,_=>by cases h
 | .or _ _,_,h,_,_=>by cases h
 | .not _,_,h,_,_=>by cases h
 | .ite _ _ _,_,h,_,_=>by cases h
 | .call _ _,_,h,_,_=>by cases h
 | .cal _ _,_,h,_,_=>by cases h
 | .mt _ _ _,_,h,_,_=>by cases h
 | .comp _ _ _ _ _ _,_,h,_,_=>by cases h
 | .itr _ _,_,h,_,_=>by cases h
 | .tmp _,_,h,_,_=>by cases h
theorem Ia{e:Expr}{es:ZC}{env:Env}(h:noStar e=true):assignEach (e::es) env=(false,assign e env)::assignEach es env:=by
 cases e<;>first | rfl | cases h
theorem Oo:∀{es:ZC} {env:Env},(∀x∈es,noStar x=true)->(assignEach es env).length=es.length/\(assignEach es env).findIdx? (·.1)=none
 | [],env,_=>⟨rfl,rfl⟩
 | e::es,env,h=>by
  rw[Ia (h e Vk)];obtain⟨h1,h2⟩:=Oo (env:=env) fun x m=>h x (Vb _ m);exact⟨by rw[D9,D9,h1],by rw[List.findIdx?_cons,h2];rfl⟩
theorem Sb:∀(es:E) {xs:ZC} {ts:ZZ} {p p':P},Mb N sc es xs=true->K8 es ts p=some p'->ts.length=xs.length
 | .nil,[],[],p,p',_,_=>rfl
 | .cons a r,y::xs,t::ts,p,p',h,e=>by
  have h:(Nr N sc a y && Mb N sc r xs)=true:=h;rw[Ya]at h;obtain⟨q,_,e2⟩:=ZO.mp (show (asg a t p).bind (fun q=>K8 r ts q)=some p' from e);rw[D9,D9,Sb r h.2 e2]
 | .nil,[],_::_,_,_,_,e=>by cases e
 | .cons _ _,_::_,[],_,_,_,e=>by cases e
 | .nil,_::_,_,_,_,h,_=>by cases h
 | .cons _ _,[],_,_,_,h,_=>by cases h
 | .v _,_,_,_,_,h,_=>by cases h
 | .k _,_,_,_,_,h,_=>by cases h
 | .g _,_,_,_,_,h,_=>by cases h
 | .pr _ _,_,_,_,_,h,_=>by cases h
 | .mv _,_,_,_,_,h,_=>by cases h
 | .io _,_,_,_,_,h,_=>by cases h
 | .tup _,_,_,_,_,h,_=>by cases h
 | .lst _,_,_,_,_,h,_=>by cases h
 | .and _ _,_,_,_,_,h,_=>by cases h
 | .or _ _,_,_,_,_,h,_=>by cases h
 | .not _,_,_,_,_,h,_=>by cases h
 | .ite _ _ _,_,_,_,_,h,_=>by cases h
 | .call _ _,_,_,_,_,h,_=>by cases h
 | .cal _ _,_,_,_,_,h,_=>by cases h
 | .mt _ _ _,_,_,_,_,h,_=>by cases h
 | .comp _ _ _ _ _ _,_,_,_,_,h,_=>by cases h
 | .itr _ _,_,_,_,_,h,_=>by cases h
 | .tmp _,_,_,_,_,h,_=>by cases h
mutual
theorem T5(c:Ctx X w k N sc):∀(tg:E) {x:Expr},Nr N sc tg x=true->PG X x (LG X.K X.mg tg)
 | .v i,.Name y pos,h=>fun XF s Z H v u Q I r ⟨F,G,p,t,p',rel,ht,e,kq⟩=>by
  have h:(N[i]? == some y && locs sc y)=true:=h;rw[Ya,beq_iff_eq]at h;obtain⟨l1,l2⟩:=c.loc h.2;have hi:X.N[i]?=some y:=by rw[c.nN];exact h.1
  cases e;refine af (by rw[c.nN];exact c.nd) hi l1 l2 XF s Z H v u Q I r (kq _ (rel.bind (by rw[I.len];exact(B3.mp hi).1) ht) (fun j hj=>List.getElem?_set_ne fun z=>hj (by rw[z];exact U1.mpr rfl)) (XY ..))
 | .tup es,.Tuple xs j pos,h=>fun XF s Z H v u Q I r ⟨F,G,p,t,p',rel,ht,e,kq⟩=>by
  have h:Mb N sc es xs=true:=h;obtain⟨a1,a2⟩:=Oo (env:=X.env) (Fy es h);cases t<;>first | cases e | skip
  rename_i ts
  have e:K8 es ts p=some p':=e;obtain⟨a,vs,rfl,h1,z,ar⟩:=ht;have hl:=Sb es h e;exact pg_tup (n:=xs.length) c.calm (H0 c es h) a1 a2 XF s Z H _ u Q I r ⟨a,vs,rfl,h1,by rw[<-ar.length];exact hl,F,G,p,ts,p',rel,ar,e,kq⟩
 | .v _,.BoolOp ..,h=>by cases h
 | .v _,.NamedExpr ..,h=>by cases h
 | .v _,.BinOp ..,h=>by cases h
 | .v _,.UnaryOp ..,h=>by cases h
 | .v _,.Lambda ..,h=>by cases h
 | .v _,.IfExp ..,h=>by cases h
 | .v _,.Dict ..,h=>by cases h
 | .v _,.Set ..,h=>by cases h
 | .v _,.ListComp ..,h=>by cases h
 | .v _,.SetComp ..,h=>by cases h
 | .v _,.DictComp ..,h=>by cases h
 | .v _,.GeneratorExp ..,h=>by cases h
 | .v _,.Await ..,h=>by cases h
 | .v _,.Yield ..,h=>by cases h
 | .v _,.YieldFrom ..,h=>by cases h
 | .v _,.Compare ..,h=>by cases h
 | .v _,.Call ..,h=>by cases h
 | .v _,.FormattedValue ..,h=>by cases h
 | .v _,.JoinedStr ..,h=>by cases h
 | .v _,.Constant ..,h=>by cases h
 | .v _,.Attribute ..,h=>by cases h
 | .v _,.Subscript ..,h=>by cases h
 | .v _,.Starred ..,h=>by cases h
 | .v _,.List ..,h=>by cases h
 | .v _,.Tuple ..,h=>by cases h
 | .v _,.Slice ..,h=>by cases h
 | .tup _,.BoolOp ..,h=>by cases h
 | .tup _,.NamedExpr ..,h=>by cases h
 | .tup _,.BinOp ..,h=>by cases h
 | .tup _,.UnaryOp ..,h=>by cases h
 | .tup _,.Lambda ..,h=>by cases h
 | .tup _,.IfExp ..,h=>by cases h
 | .tup _,.Dict ..,h=>by cases h
 | .tup _,.Set ..,h=>by cases h
 | .tup _,.ListComp ..,h=>by cases h
 | .tup _,.SetComp ..,h=>by cases h
 | .tup _,.DictComp ..,h=>by cases h
 | .tup _,.GeneratorExp ..,h=>by cases h
 | .tup _,.Await ..,h=>by cases h
 | .tup _,.Yield ..,h=>by cases h
 | .tup _,.YieldFrom ..,h=>by cases h
 | .tup _,.Compare ..,h=>by cases h
 | .tup _,.Call ..,h=>by cases h
 | .tup _,.FormattedValue ..,h=>by cases h
 | .tup _,.JoinedStr ..,h=>by cases h
 | .tup _,.Constant ..,h=>by cases h
 | .tup _,.Attribute ..,h=>by cases h
 | .tup _,.Subscript ..,h=>by cases h
 | .tup _,.Starred ..,h=>by cases h
 | .tup _,.List ..,h=>by cases h
 | .tup _,.Name ..,h=>by cases h
 | .tup _,.Slice ..,h=>by cases h
 | .k _,_,h=>by cases h
 | .g _,_,h=>by cases h
 | .pr _ _,_,h=>by cases h
 | .mv _,_,h=>by cases h
 | .io _,_,h=>by cases h
 | .nil,_,h=>by cases h
 | .cons _ _,_,h=>by cases h
 | .lst _,_,h=>by cases h
 | .and _ _,_,h=>by cases h
 | .or _ _,_,h=>by cases h
 | .not _,_,h=>by cases h
 | .ite _ _ _,_,h=>by cases h
 | .call _ _,_,h=>by cases h
 | .cal _ _,_,h=>by cases h
 | .mt _ _ _,_,h=>by cases h
 | .comp _ _ _ _ _ _,_,h=>by cases h
 | .itr _ _,_,h=>by cases h
 | .tmp _,_,h=>by cases h
theorem H0(c:Ctx X w k N sc):∀(es:E) {xs:ZC},Mb N sc es xs=true->PGs X xs (LGs X.K X.mg es)
 | .nil,[],_=>fun XF s Z H vs us Q I r ⟨F,G,p,ts,p',rel,ht,e,kq⟩=>by
  cases ts with
  | nil =>
   cases e;exact ag XF s Z H vs us Q I r ⟨ht,kq Z rel (fun _ _=>rfl) rfl⟩
  | cons t ts=>cases e
 | .cons a r',y::xs,h=>fun XF s Z H vs us Q I r ⟨F,G,p,ts,p',rel,ht,e,kq⟩=>by
  have Rr:=Fy _ h;have h:(Nr N sc a y && Mb N sc r' xs)=true:=h;rw[Ya]at h;cases ts with
  | nil=>cases e
  | cons t ts =>
   obtain⟨v,vr,rfl,iv,av⟩:=ht;obtain⟨q,e1,e2⟩:=ZO.mp (show (asg a t p).bind (fun q=>K8 r' ts q)=some p' from e);refine kb (T5 c a h.1) (H0 c r' h.2) (by rw[Ia (Rr _ Vk)];rfl) XF s Z H _ us Q I r ⟨v,vr,rfl,F,G,p,t,q,rel,iv,e1,fun σ' Z6 k' n'=>⟨F,G,q,ts,p',Z6,av,e2,fun σ2 Zo k2 n2=>kq σ2 Zo (fun j hj=>?_) (n2.trans n')⟩⟩;have hj:j ∉ Nc a++Nc r':=hj;rw[Tw,not_or]at hj;exact(k2 j hj.2).trans (k' j hj.1)
 | .nil,_::_,h=>by cases h
 | .cons _ _,[],h=>by cases h
 | .v _,_,h=>by cases h
 | .k _,_,h=>by cases h
 | .g _,_,h=>by cases h
 | .pr _ _,_,h=>by cases h
 | .mv _,_,h=>by cases h
 | .io _,_,h=>by cases h
 | .tup _,_,h=>by cases h
 | .lst _,_,h=>by cases h
 | .and _ _,_,h=>by cases h
 | .or _ _,_,h=>by cases h
 | .not _,_,h=>by cases h
 | .ite _ _ _,_,h=>by cases h
 | .call _ _,_,h=>by cases h
 | .cal _ _,_,h=>by cases h
 | .mt _ _ _,_,h=>by cases h
 | .comp _ _ _ _ _ _,_,h=>by cases h
 | .itr _ _,_,h=>by cases h
 | .tmp _,_,h=>by cases h
end
end
theorem Rw:∀(fr:ZG) (q p:P),fr.length=q.length->(∀i1 i2 j:Nat,fr[i1]?=some (some j)->fr[i2]?=some (some j)->i1=i2) ->
  (back fr q p).length=p.length/\(∀j:Nat,(∀i:Nat,fr[i]?≠some (some j))->(back fr q p)[j]?=p[j]?)/\∀i j:Nat,fr[i]?=some (some j)->j<p.length->(back fr q p)[j]?=q[i]?
 | [],[],p,_,_=>⟨rfl,fun _ _=>rfl,fun i j h=>by simp at h⟩
 | none::fr,s::q,p,hl,inj=>by
  obtain⟨h1,h2,h3⟩:=Rw fr q p (by simpa using hl) fun i1 i2 j a b=>by have:=inj (i1+1) (i2+1) j (by simpa using a) (by simpa using b);omega
  refine⟨h1,fun j h=>h2 j fun i z=>h (i+1) (by simpa using z),fun i j h hj=>?_⟩;cases i with
  | zero=>simp at h
  | succ i=>exact h3 i j (by simpa using h) hj
 | some l::fr,s::q,p,hl,inj=>by
  obtain⟨h1,h2,h3⟩:=Rw fr q (p.set l s) (by simpa using hl) fun i1 i2 j a b=>by have:=inj (i1+1) (i2+1) j (by simpa using a) (by simpa using b);omega
  rw[XY]at h1;refine⟨h1,fun j h=>?_,fun i j h hj=>?_⟩
  .have n:l≠j:=fun z=>h 0 (by simp[z]);exact(h2 j fun i z=>h (i+1) (by simpa using z)).trans (List.getElem?_set_ne n)
  .cases i with
   | zero =>
    simp at h;subst h;refine(h2 l fun i z=>?_).trans ((List.getElem?_set_self hj).trans (by simp));have:=inj 0 (i+1) l (by simp) (by simpa using z);omega
   | succ i=>exact h3 i j (by simpa using h) (by rw[XY];exact hj)
 | [],_::_,_,hl,_=>by simp at hl
 | _::_,[],_,hl,_=>by simp at hl
section
variable{K:W.Frag}{mg:ZV}{F G H:Hp}{p:P}{Z:L2.St}{fr:ZG}
theorem Iy{i:Nat}{s:Sl}(h:(qr fr p)[i]?=some s):(fr[i]?=some none/\s=.no)\/∃j,fr[i]?=some (some j)/\s=(p[j]?).getD .no:=by
 unfold qr at h;rw[B4]at h;obtain⟨o,e1,e2⟩:=Z4.mp h;cases o with
 | none=>exact .inl ⟨e1,e2.symm⟩
 | some j=>exact .inr ⟨j,e1,e2.symm⟩
theorem Ma{i j:Nat}{v:V}(h:fr[i]?=some (some j))(e:Z[j]?=some (some v)):(frees fr Z)[i]?=some (some v):=by
 unfold frees;rw[B4,h];show some ((Z[j]?).bind id)=_;rw[e];rfl
open Classical in
noncomputable def Mu(fr:ZG)(p:P)(Z:L2.St)(H G:Hp):Hp:=fun a=>if ∃(j:Nat) (t:T),p[j]?=some (Sl.o t)/\Z[j]?=some (some (V.ref a))/\∀i:Nat,fr[i]?≠some (some j) then H a else G a
theorem Tu{a:Addr}{j:Nat}{t:T}(h1:p[j]?=some (Sl.o t))(h2:Z[j]?=some (some (V.ref a)))(h3:∀i:Nat,fr[i]?≠some (some j)):Mu fr p Z H G a=H a:=if_pos ⟨j,t,h1,h2,h3⟩
theorem Mp{a:Addr}(h:¬ ∃(j:Nat) (t:T),p[j]?=some (Sl.o t)/\Z[j]?=some (some (V.ref a))/\∀i:Nat,fr[i]?≠some (some j)):Mu fr p Z H G a=G a:=if_neg h
theorem mj(r:Rel K mg F G p Z H){a:Addr}{o:HO}(h:G a=some o):Mu fr p Z H G a=some o:=by
 refine(Mp fun⟨i,t,h1,h2,_⟩=>?_).trans h;obtain⟨b,h3,_,h4,_⟩:=r.ow i t h1;rw[h2]at h3;cases h3;rw[h]at h4;cases h4
theorem Zzn(r:Rel K mg F G p Z H)(inj:∀i1 i2 j:Nat,fr[i1]?=some (some j)->fr[i2]?=some (some j)->i1=i2){D:Addr}(hD:H D=none):Rel K mg F (upd (Mu fr p Z H G) D (.lst [])) (qr fr p) (frees fr Z) (upd H D (.lst [])):=by
 have s:Zl H (upd H D (.lst [])):=Zl.lay hD;have nD:∀{a:Addr} {o:HO},H a=some o->a≠D:=fun h z=>by rw[z,hD]at h;cases h
 have own:∀{i:Nat} {t:T},(qr fr p)[i]?=some (Sl.o t)->∃j,fr[i]?=some (some j)/\p[j]?=some (Sl.o t):=fun {i t} h=>by
  rcases Iy h with ⟨_,z⟩ | ⟨j,e1,e2⟩
  .cases z
  .refine⟨j,e1, ?_⟩;cases q:p[j]? with
   | none=>rw[q]at e2;cases e2
   | some x=>rw[q]at e2;exact congrArg some e2.symm
 refine⟨⟨fun a o e=>s a o (r.b.f a o e),fun a o e=>?_,fun a e=>?_,fun T e=>let ⟨f1,g1,t1⟩:=r.b.t T e;⟨f1,by
   rw[Zz (t1.no hD).symm]
   exact(Mp fun⟨j,t,h1,h2,_⟩=>by
    obtain⟨b,h3,_,_,h4⟩:=r.ow j t h1;rw[h2]at h3;cases h3;exact h4.ne t1 rfl).trans g1,t1.same s⟩⟩,fun i t e=>?_,fun i t e=>?_,fun i1 i2 t u a e1 e2 h1 h2=>?_, ?_⟩
 .by_cases z:a=D
  .subst z;rw[Zx]at e ⊢;exact e
  .rw[Zz z]at e ⊢;by_cases h:∃(j:Nat) (t:T),p[j]?=some (Sl.o t)/\Z[j]?=some (some (V.ref a))/\∀i:Nat,fr[i]?≠some (some j)
   .obtain⟨j,t,g1,g2,g3⟩:=h;rw[Tu g1 g2 g3]at e;exact e
   .rw[Mp h]at e;exact r.b.g a o e
 .have ne:a≠D:=by
   cases q:F a with
   | none=>exact absurd q e
   | some o=>exact nD (r.b.f a o q)
  rw[Zz ne];refine(Mp fun⟨j,t,h1,h2,_⟩=>?_).trans (r.b.d a e);obtain⟨b,h3,h4,_⟩:=r.ow j t h1;rw[h2]at h3;cases h3;exact e h4
 .rcases Iy e with ⟨_,z⟩ | ⟨j,e1,e2⟩
  .cases z
  .cases q:p[j]? with
   | none=>rw[q]at e2;cases e2
   | some x =>
    rw[q]at e2;cases(show Sl.f t=x from e2);obtain⟨v,h1,h2⟩:=r.fz j t q;exact⟨v,Ma e1 h1,IsT.up s.up (Le.refl F) t v h2⟩
 .obtain⟨j,e1,q⟩:=own e;obtain⟨a,h1,h2,h3,h4⟩:=r.ow j t q;obtain⟨o,ho⟩:=h4.some;refine⟨a,Ma e1 h1,h2, ?_,h4.same s (Le.refl F)⟩;rw[Zz (nD ho)];refine(Mp fun⟨j',t',q1,q2,q3⟩=>?_).trans h3;have:=r.ap j' j t' t a q1 q q2 h1;subst this;exact q3 i e1
 .obtain⟨j1,f1,q1⟩:=own e1;obtain⟨j2,f2,q2⟩:=own e2;obtain⟨a1,k1,_⟩:=r.ow j1 t q1;obtain⟨a2,k2,_⟩:=r.ow j2 u q2;rw[Ma f1 k1]at h1;cases h1;rw[Ma f2 k2]at h2;cases h2;have:=r.ap j1 j2 t u a q1 q2 k1 k2;subst this;exact inj i1 i2 j1 f1 f2
 .unfold qr;rw[Z0,Jt]
theorem Rel.gset{D:Addr}{ys zs:ZQ}(r:Rel K mg F (upd G D (.lst ys)) p Z H):Rel K mg F (upd G D (.lst zs)) p Z (upd H D (.lst zs))/\Up K H (upd H D (.lst zs)):=by
 have hD:H D=some (.lst ys):=r.b.g D _ Zx
 have fD:F D=none:=by
  cases q:F D with
  | none=>rfl
  | some o=>have:=r.b.d D (by rw[q];exact fun z=>nomatch z);rw[Zx]at this;cases this
 have u:Up K H (upd H D (.lst zs)):=Em hD;refine⟨⟨⟨fun a o e=>?_,fun a o e=>?_,fun a e=>?_,fun T e=>let ⟨f1,g1,t1⟩:=r.b.t T e;⟨f1,by rw[Zz (t1.ne hD y8).symm]at g1 ⊢;exact g1,t1.upd hD y8⟩⟩,fun i t e=>let ⟨v,h1,h2⟩:=r.fz i t e;⟨v,h1,IsT.up u (Le.refl F) t v h2⟩,fun i t e=>?_,r.ap,r.ln⟩,u⟩
 .rw[Zz fun z=>by rw[z,fD]at e;cases e];exact r.b.f a o e
 .by_cases z:a=D
  .subst z;rw[Zx]at e ⊢;exact e
  .rw[Zz z]at e ⊢;exact r.b.g a o (by rw[Zz z];exact e)
 .have ne:a≠D:=fun z=>by rw[z]at e;exact e fD
  have:=r.b.d a e;rw[Zz ne]at this ⊢;exact this
 .obtain⟨a,h1,h2,h3,h4⟩:=r.ow i t e;have ne:a≠D:=fun z=>by rw[z,Zx]at h3;cases h3
  exact⟨a,h1,h2,by rw[Zz ne]at h3 ⊢;exact h3,h4.up u (Le.refl F) (Zz ne)⟩
theorem dn{F2 H2:Hp}{q:P}{σ2:L2.St}{D:Addr}{ys:ZQ}(r:Rel K mg F G p Z H)(inj:∀i1 i2 j:Nat,fr[i1]?=some (some j)->fr[i2]?=some (some j)->i1=i2)(hj:∀i j:Nat,fr[i]?=some (some j)->j<p.length)(hD:H D=none)(l:Le F F2)(u:Up K H H2)
  (r2:Rel K mg F2 (upd (Mu fr p Z H G) D (.lst ys)) q σ2 H2) (hl:q.length=fr.length) (keep:∀i j:Nat,fr[i]?=some (some j)->σ2[i]?=(frees fr Z)[i]?):Rel K mg F2 G (back fr q p) Z H2/\F2 D=none/\G D=none/\∀(i:Nat) (t:T),(back fr q p)[i]?=some (Sl.o t)->Z[i]?≠some (some (V.ref D)):=by
 obtain⟨b1,b2,b3⟩:=Rw fr q p hl.symm inj;have nD:∀{a:Addr} {o:HO},H a=some o->a≠D:=fun h z=>by rw[z,hD]at h;cases h
 have fD:F2 D=none:=by
  cases e:F2 D with
  | none=>rfl
  | some o=>have:=r2.b.d D (by rw[e];exact fun z=>nomatch z);rw[Zx]at this;cases this
 have gD:G D=none:=by
  cases e:G D with
  | none=>rfl
  | some o=>have:=r.b.g D o e;rw[hD]at this;cases this
 have gN:∀{a:Addr},a≠D->upd (Mu fr p Z H G) D (.lst ys) a=none->G a=none:=fun {a} n h=>by
  rw[Zz n]at h;cases e:G a with
  | none=>rfl
  | some o=>rw[mj r e]at h;cases h
 have val:∀{i j:Nat} {v:V},fr[i]?=some (some j)->σ2[i]?=some (some v)->Z[j]?=some (some v):=fun {i j v} e h=>by
  rw[keep i j e]at h;unfold frees at h;rw[B4,e]at h;have h:(Z[j]?).bind id=some v:=Dp h;cases q:Z[j]? with
  | none=>rw[q]at h;cases h
  | some o=>rw[q]at h;exact congrArg some h
 have cas:∀j:Nat,(∃i:Nat,fr[i]?=some (some j))\/∀i:Nat,fr[i]?≠some (some j):=fun j=>by
  by_cases h:∃i:Nat,fr[i]?=some (some j)
  .exact .inl h
  .exact .inr fun i z=>h ⟨i,z⟩
 have own:∀{j:Nat} {t:T},(back fr q p)[j]?=some (Sl.o t)->∃a,Z[j]?=some (some (V.ref a))/\a≠D/\F2 a=none/\G a=none/\Rb K mg H2 F2 a t:=fun {j t} e=>by
  rcases cas j with ⟨i,f1⟩ | f1
  .rw[b3 i j f1 (hj i j f1)]at e;obtain⟨a,h1,h2,h3,h4⟩:=r2.ow i t e;have n:a≠D:=fun z=>by rw[z,Zx]at h3;cases h3
   exact⟨a,val f1 h1,n,h2,gN n h3,h4⟩
  .rw[b2 j f1]at e;obtain⟨a,h1,h2,h3,h4⟩:=r.ow j t e;obtain⟨o,ho⟩:=h4.some;have n:=nD ho;have g1:upd (Mu fr p Z H G) D (.lst ys) a=some o:=by rw[Zz n,Tu e h1 f1];exact ho
   refine⟨a,h1,n, ?_,h3,h4.up u l ((r2.b.g a o g1).trans ho.symm)⟩;cases z:F2 a with
   | none=>rfl
   | some x=>have:=r2.b.d a (by rw[z];exact fun z=>nomatch z);rw[g1]at this;cases this
 refine⟨⟨⟨r2.b.f,fun a o e=>r2.b.g a o (by rw[Zz (nD (r.b.g a o e))];exact mj r e),fun a e=>?_,fun T e=>⟨(r2.b.t T e).f,(r.b.t T e).g,(r2.b.t T e).h⟩⟩,fun j t e=>?_,fun j t e=>let ⟨a,h1,_,h2,h3,h4⟩:=own e;⟨a,h1,h2,h3,h4⟩,fun j1 j2 t t' a e1 e2 h1 h2=>?_,by rw[b1];exact r.ln⟩,fD,gD,fun i t e z=>?_⟩
 .have n:a≠D:=fun z=>by rw[z]at e;exact e fD
  exact gN n (r2.b.d a e)
 .rcases cas j with ⟨i,f1⟩ | f1
  .rw[b3 i j f1 (hj i j f1)]at e;obtain⟨v,h1,h2⟩:=r2.fz i t e;exact⟨v,val f1 h1,h2⟩
  .rw[b2 j f1]at e;obtain⟨v,h1,h2⟩:=r.fz j t e;exact⟨v,h1,IsT.up u l t v h2⟩
 .rcases cas j1 with ⟨i1,f1⟩ | f1
  .rw[b3 i1 j1 f1 (hj i1 j1 f1)]at e1;obtain⟨a1,k1,_,g1,_⟩:=r2.ow i1 t e1;have:=val f1 k1;rw[h1]at this;cases this;rcases cas j2 with ⟨i2,f2⟩ | f2
   .rw[b3 i2 j2 f2 (hj i2 j2 f2)]at e2;obtain⟨a2,k2,_⟩:=r2.ow i2 t' e2;have:=val f2 k2;rw[h2]at this;cases this;have:=r2.ap i1 i2 t t' a e1 e2 k1 k2;subst this;rw[f1]at f2;cases f2;rfl
   .rw[b2 j2 f2]at e2;obtain⟨b,c1,_,_,c4⟩:=r.ow j2 t' e2;rw[h2]at c1;cases c1;obtain⟨o,ho⟩:=c4.some;rw[Zz (nD ho),Tu e2 h2 f2,ho]at g1;cases g1
  .rw[b2 j1 f1]at e1;rcases cas j2 with ⟨i2,f2⟩ | f2
   .rw[b3 i2 j2 f2 (hj i2 j2 f2)]at e2;obtain⟨a2,k2,_,g2,_⟩:=r2.ow i2 t' e2;have:=val f2 k2;rw[h2]at this;cases this;obtain⟨b,c1,_,_,c4⟩:=r.ow j1 t e1;rw[h1]at c1;cases c1;obtain⟨o,ho⟩:=c4.some;rw[Zz (nD ho),Tu e1 h1 f1,ho]at g2;cases g2
   .rw[b2 j2 f2]at e2;exact r.ap j1 j2 t t' a e1 e2 h1 h2
 .obtain⟨a,h1,n,_⟩:=own e;rw[h1]at z;cases z;exact n rfl
end
def LT(K:PySem.W.Frag)(mg:ZV)(w:W)(c:E):TT:=if isNil c=true then Hh else LB K mg w c
theorem mh{NX:ZD}{names:ZK}{ns:ZD}{fr:ZG}(h:Jc NX names ns fr=true)(nd:ns.Nodup):∀i1 i2 j:Nat,fr[i1]?=some (some j)->fr[i2]?=some (some j)->i1=i2:=fun i1 i2 j e1 e2=>by
 obtain⟨x,a1,a2,_⟩:=U7 h e1;obtain⟨y,b1,b2,_⟩:=U7 h e2;rw[a2]at b2;cases b2;have h1:=(B3.mp a1);have h2:=(B3.mp b1);obtain⟨l1,g1⟩:=h1;obtain⟨l2,g2⟩:=h2;exact(List.getElem_inj nd).mp (g1.trans g2.symm)
section
variable{X:Cx}{w:W}{k:Nat}{N:ZD}{sc:ZK}
noncomputable def Zqw(w:W)(tg c el:E):T->P->Option (Option T×P):=fun x s=>(asg tg x s).bind fun s1=>(if isNil c=true then some (true,s1) else Gj (ev w c s1)).bind fun b=>if b.1=true then (toT (ev w el b.2)).map fun r=>(some r.1,r.2) else some (none,b.2)
theorem Io(c:Ctx X w k N sc){tg it cd el:E}{fr:ZG}{ns:ZD}{scope:Scope}(s2:Jc N scope.names ns fr=true)(nd:ns.Nodup)(ht:∀i∈Nc tg,fr[i]?=some none){Z:L2.St}{H:Hp}{Q:VK}(hσ:Z.length=N.length)(h:LE X.K X.mg w (.comp tg it cd el fr ns) Z H Q) :
  wo (LI X w it) fr (fun _ _ _=>LG X.K X.mg tg) (fun _ _ _=>LT X.K X.mg w cd) (fun _ _ _=>LE X.K X.mg w el) Z H fun v H1=>∃H2,Mel X H1 H2/\Q v H2:=by
 obtain⟨F,G,p,r,p',rel,e,kq⟩:=h;have inj:=mh s2 nd;have frl:=Mo s2
 replace e:=(m8 _ _ _ _ _ _).symm.trans e
 obtain⟨⟨xs,p1⟩,e1,e⟩:=ZO.mp e;obtain⟨⟨yz,qe⟩,e2,e⟩:=Z4.mp e;cases e;have e2:Dr (Zqw w tg cd el) xs [] (qr fr p1)=some (yz,qe):=e2;refine⟨F,G,p,xs,p1,rel,e1,fun F1 H1 F' H' J l u Zm fz zl walk=>?_⟩;intro D fp sx hD;obtain⟨Z6,u',lr⟩:=fz.rel Zm
 have jl:∀i j:Nat,fr[i]?=some (some j)->j<p1.length:=fun i j e=>by
  obtain⟨x,a1,a2,_⟩:=U7 s2 e;rw[Zm.ln,hσ];exact(B3.mp a2).1
 let GD:ZQ->Hp:=fun ys=>upd (Mu fr p1 Z H' G) D (.lst ys)
 let Wt:Nat->Nat->ZQ->L2.St->Hp->Prop:=fun i m ys σ2 H2=>m=xs.length - i/\i<=xs.length/\∃F2 q acc,Le F' F2/\Up X.K H' H2/\Rel X.K X.mg F2 (GD ys) q σ2 H2/\Zq X.K X.mg H2 F2 acc ys/\ys.length<=i/\Dr (Zqw w tg cd el) (xs.drop i) acc q=some (yz,qe)/\(∀i j:Nat,fr[i]?=some (some j)->σ2[i]?=(frees fr Z)[i]?)/\σ2.length=fr.length
 refine⟨Wt,⟨xs.length,rfl,B2 _,F',qr fr p1,[],Le.refl _,(Zl.lay hD).up,Zzn Z6 inj hD,rfl,Yz _,e2,fun _ _ _=>rfl,Jt fr Z⟩, ?_⟩;rintro i m ys σ2 H2 ⟨rfl,c9,F2,q,acc,l2,u2,r2,ar,yl,e3,keep,sl⟩;have hD2:H2 D=some (.lst ys):=r2.b.g D _ Zx;refine⟨hD2, ?_⟩;obtain⟨wk1,wk2⟩:=walk i F2 H2 l2 u2 r2.b.f;by_cases Qc:i<xs.length
 .have et:xs[i]?=some xs[i]:=Mz Qc;rw[List.drop_eq_getElem_cons Qc]at e3;unfold Dr at e3;obtain⟨⟨o,q1⟩,e4,e5⟩:=ZO.mp e3;obtain⟨s3,e6,e7⟩:=ZO.mp (show (asg tg xs[i] q).bind _=some (o,q1) from e4);obtain⟨⟨b,s4⟩,e8,e9⟩:=ZO.mp e7;obtain⟨g1,g2⟩:=wk1 _ et;refine .inr ⟨g1,fun ys' σ' H'=>Wt (i+1) (xs.length - (i+1)) ys' σ' H',fun ys' σ' H' h=>⟨_,by omega,h⟩,fun x H3 yd=>?_⟩;obtain⟨sm,ix⟩:=g2 x H3 yd;refine⟨F2,GD ys,q,xs[i],s3,r2.same sm,ix,e6,fun σ3 r3 k3 n3=>?_⟩;have keep3:∀i j:Nat,fr[i]?=some (some j)->σ3[i]?=(frees fr Z)[i]?:=fun a j ea=>(k3 a fun m=>by rw[ht a m]at ea;cases ea).trans (keep a j ea);have sl3:σ3.length=fr.length:=n3.trans sl
  have elm:∀{F4 H4:Hp},b=true->Le F2 F4->Up X.K H3 H4->Rel X.K X.mg F4 (GD ys) s4 σ3 H4->LE X.K X.mg w el σ3 H4 fun y H5=>H5 D=some (.lst ys)/\ys.length<sizeLine/\Wt (i+1) (xs.length - (i+1)) (ys++[y]) σ3 (upd H5 D (.lst (ys++[y]))):=fun {F4 H4} hb l4 u4 r4=>by
   rw[if_pos hb]at e9;obtain⟨⟨t',s5⟩,e10,e11⟩:=Z4.mp e9;cases e11;obtain⟨rr,e12,e13⟩:=T1 e10;refine⟨F4,GD ys,s4,rr,s5,r4,e12,fun F5 H5 y l5 u5 r5 rs=>?_⟩;obtain⟨F6,l6,r6,it6⟩:=r5.thaw e13 rs;obtain⟨r7,u7⟩:=r6.gset (zs:=ys++[y]);refine⟨r6.b.g D _ Zx,by omega,rfl,Qc,F6,s5,acc++[t'],(l2.trans l4).trans (l5.trans l6),u2.trans (sm.up.trans (u4.trans (u5.trans u7))),r7, ?_, ?_,e5,keep3,sl3⟩
   .exact(Zq.up (sm.up.trans (u4.trans (u5.trans u7))) (l4.trans (l5.trans l6)) _ _ ar).append (Zq.one (IsT.up u7 (Le.refl _) _ _ it6))
   .rw[D7];show ys.length+1<=i+1;omega
  show (LT X.K X.mg w cd) σ3 H3 fun ok H4=>if ok=true then _ else _
  unfold LT;by_cases hn:isNil cd=true
  .rw[if_pos hn]at e8;cases e8;rw[if_pos hn];exact i4 (B:=Wt (i+1) (xs.length - (i+1)) ys σ3 H3) (elm rfl (Le.refl _) (Up.refl _) r3)
  .rw[if_neg hn]at e8;rw[if_neg hn];refine⟨F2,GD ys,s3,b,s4,r3,e8,fun F4 H4 l4 u4 r4=>?_⟩;cases b with
   | true =>
    exact i4 (B:=Wt (i+1) (xs.length - (i+1)) ys σ3 H4) (elm rfl l4 u4 r4)
   | false =>
    cases e9;exact iteF ⟨rfl,Qc,F4,s4,acc,l2.trans l4,u2.trans (sm.up.trans u4),r4,Zq.up (sm.up.trans u4) l4 _ _ ar,by omega,e5,keep3,sl3⟩
 .have ei:i=xs.length:=by omega
  subst ei;rw[List.drop_length]at e3;cases e3;refine .inl ⟨wk2 rfl, ?_⟩;obtain⟨ro,fD,gD,nD⟩:=dn Z6 inj jl hD l2 u2 r2 (by rw[r2.ln];exact sl) keep;obtain⟨F3,H3,l3,r3,ml,u3,lr3,n1,n2⟩:=fz.back l2 ro;refine⟨H3,ml,kq F3 H3 (.ref D) (l.trans l3) (u.trans (u'.trans (u2.trans u3))) r3 ⟨D,rfl,n1 D fD,gD,⟨ys,(n2 D fD).trans hD2,by omega,Zq.upR u3 lr3 _ _ ar⟩,nD⟩⟩
theorem vy(c:Ctx X w k N sc)(hsc:X.env.scope.names=sc){outer:Scope}(ho:outer.names=sc){tg it cd el:E}{fr:ZG}{ns:ZD}{elt t iter:Expr}{ifs:ZC}{scope:Scope}{pos:Pos}
  (hi:PI X t iter (LI X w it)) (s1:E2 outer scope=true) (s2:Jc N scope.names ns fr=true) (nd:ns.Nodup) (ht:∀i∈Nc tg,fr[i]?=some none)
  (hg:∀fp s H,PG (Ze X scope ns fp s H) t (LG X.K X.mg tg)) (hc:∀fp s H,PTs (Ze X scope ns fp s H) ifs (LT X.K X.mg w cd)) (he:∀fp s H,PE (Ze X scope ns fp s H) elt (LE X.K X.mg w el))
  (hfold:∀x,foldedSetIterable iter X.env x=pure x):PE X (.ListComp elt [⟨t,iter,ifs,0⟩] scope pos) (LE X.K X.mg w (.comp tg it cd el fr ns)):=fun XF s j H Q I h =>
 PE.mel (aa (te:=fun _ _ _=>LE X.K X.mg w el) (tt:=fun _ _ _=>LT X.K X.mg w cd) (g:=fun _ _ _=>LG X.K X.mg tg) c.calm hi (NX:=N) (outer:=outer) ⟨c.nN,by rw[hsc,ho],s1,s2⟩ hg hc he hfold) XF s j H Q I (Io c s2 nd ht (by rw[I.len,c.nN]) h)
end
def asName:Expr->Option Str:=ji
noncomputable def Sd(x:Expr):Option (ZC):=match T8 x with
 | .tup xs=>some xs
 | _=>none
noncomputable def Ss(x:Expr):Option (ZC):=match T8 x with
 | .lst xs=>some xs
 | _=>none
noncomputable def Be(op:BoolOp)(z:Expr):Option (Expr×Expr×ZC×Pos):=match T8 z with
 | .boo o (x::y::r) pos=>if o=op then some (x,y,r,pos) else none
 | _=>none
noncomputable def Sr(z:Expr):Option Expr:=match T8 z with
 | .un o x=>if o=.Not then some x else none
 | _=>none
noncomputable def Zze(z:Expr):Option (Expr×Expr×Expr):=match T8 z with
 | .ife c a b=>some (c,a,b)
 | _=>none
def Bi:Expr->Option (Str×ZC):=Ef
noncomputable def I0(z:Expr):Option (Str×Str×ZC):=match T8 z with
 | .callA o m ap xs cp=>(match ji o with
  | some y=>if (ap.endLine == cp.line)=true then some (y,m,xs) else none
  | none=>none)
 | _=>none
noncomputable def I8(z:Expr):Option (Expr×Expr×Expr×ZC×Scope):=match T8 z with
 | .lc elt [⟨t,iter,ifs,0⟩] scope=>some (elt,t,iter,ifs,scope)
 | _=>none
noncomputable def Zzo(x:Expr):Option (Str×Expr):=match T8 x with
 | .callA o m ap xs cp=>if xs.isEmpty=true/\Uq o=true/\(ap.endLine == cp.line)=true then some (m,o) else none
 | _=>none
noncomputable def plainT:Expr->Bool
 | .UnaryOp .Not _ _=>false
 | .BoolOp _ _ _=>false
 | .IfExp _ _ _ _=>false
 | .Compare _ _ _ _=>false
 | _=>true
def Nh:Expr->Bool
 | .Set _ _ _=>false
 | _=>true
noncomputable def Rc:E->Expr->Bool
 | .and a b,x=>match Be .And x with
  | some (x0,y,r,pos)=>Rc a x0 && (if r.isEmpty then Rc b y else Rc b (.BoolOp .And (y::r) pos) && (match b with
   | .and _ _=>true
   | _=>false))
  | none=>false
 | .or a b,x=>match Be .Or x with
  | some (x0,y,r,pos)=>Rc a x0 && (if r.isEmpty then Rc b y else Rc b (.BoolOp .Or (y::r) pos) && (match b with
   | .or _ _=>true
   | _=>false))
  | none=>false
 | .not a,x=>match Sr x with
  | some y=>Rc a y
  | none=>false
 | .tmp a,x=>Rc a x
 | .pr (.cm _) _,_=>true
 | .pr (.c2 _ _) _,_=>true
 | _,x=>plainT x
noncomputable def l9(fr:ZG)(tg:E):Bool:=(Nc tg).all fun i=>fr[i]? == some none
mutual
noncomputable def rep:Bool->ZD->Scope->E->Expr->Bool
 | _,N,sc,.v i,x=>match asName x with
  | some y=>U5 N sc.names i y
  | none=>false
 | _,N,sc,.mv i,x=>match asName x with
  | some y=>U5 N sc.names i y
  | none=>false
 | _,_,_,.k t,x=>repK t x
 | _,_,sc,.g g,x=>match asName x with
  | some y=>g == y && Rp sc.names y
  | none=>false
 | tp,N,sc,.tup es,x=>match Sd x with
  | some xs=>Vp es && Vl tp N sc es xs
  | none=>false
 | tp,N,sc,.lst es,x=>match Ss x with
  | some xs=>Vp es && Vl tp N sc es xs
  | none=>false
 | tp,N,sc,.pr q es,x=>match view sc.names q x with
  | some xs=>Vp es && quiet q es && Vl tp N sc es xs
  | none=>false
 | tp,N,sc,.and a b,x=>match Be .And x with
  | some (x0,y,r,pos)=>rep tp N sc a x0 && (if r.isEmpty then rep tp N sc b y else rep tp N sc b (.BoolOp .And (y::r) pos))
  | none=>false
 | tp,N,sc,.or a b,x=>match Be .Or x with
  | some (x0,y,r,pos)=>rep tp N sc a x0 && (if r.isEmpty then rep tp N sc b y else rep tp N sc b (.BoolOp .Or (y::r) pos))
  | none=>false
 | tp,N,sc,.not a,x=>match Sr x with
  | some y=>rep tp N sc a y
  | none=>false
 | tp,N,sc,.ite c a b,x=>match Zze x with
  | some (z,x0,y)=>rep tp N sc c z && Rc c z && rep tp N sc a x0 && rep tp N sc b y
  | none=>false
 | tp,N,sc,.call f es,x=>match Bi x with
  | some (g,xs)=>f == g && Rp sc.names g && !xs.isEmpty && Vl tp N sc es xs
  | none=>false
 | tp,N,sc,.cal i es,x=>match Bi x with
  | some (g,xs)=>U5 N sc.names i g && !xs.isEmpty && Vp es && Vl tp N sc es xs
  | none=>false
 | tp,N,sc,.mt m i es,x=>match I0 x with
  | some (y,n,xs)=>n == mtN m && U5 N sc.names i y && Vp es && Vl tp N sc es xs && (match m with
   | .pop=>xs.isEmpty
   | _=>!xs.isEmpty && decide (xs.length<30))
  | none=>false
 | tp,N,sc,.comp tg it c el fr ns,x=>match I8 x with
  | some (elt,t,iter,ifs,scope)=>tp && L4 tp N sc t it iter && E2 sc scope && Jc N scope.names ns fr && decide (ns.Nodup/\scope.names≠Cr) && l9 fr tg && Nh iter && Nr ns scope.names tg t
   && (if isNil c then ifs.isEmpty else (match ifs with
    | [z]=>rep false ns scope c z && Rc c z
    | _=>false)) && rep false ns scope el elt
  | none=>false
 | tp,N,sc,.tmp a,x=>rep tp N sc a x
 | _,_,_,_,_=>false
noncomputable def L4:Bool->ZD->Scope->Expr->E->Expr->Bool
 | tp,N,sc,t,.itr q es,x=>match Bi x with
  | some (f,xs)=>f == ikN q && !ikV q && Rp sc.names f && xx q t && decide (xs.length=ikL q) && Vp es && Vl tp N sc es xs
  | none=>(match Zzo x with
   | some y=>y.1 == ikN q && ikV q && xx q t && Vp es && Vl tp N sc es [y.2]
   | none=>false)
 | tp,N,sc,_,.v i,x=>match asName x with
  | some y=>U5 N sc.names i y
  | none=>false
 | tp,N,sc,_,.pr q es,x=>match view sc.names q x with
  | some xs=>Vp es && quiet q es && Vl tp N sc es xs
  | none=>false
 | tp,N,sc,_,.call f es,x=>match Bi x with
  | some (g,xs)=>f == g && Rp sc.names g && !xs.isEmpty && Vl tp N sc es xs
  | none=>false
 | tp,N,sc,_,.lst es,x=>match Ss x with
  | some xs=>Vp es && Vl tp N sc es xs
  | none=>false
 | tp,N,sc,_,.tup es,x=>match Sd x with
  | some xs=>Vp es && Vl tp N sc es xs
  | none=>false
 | _,_,_,_,_,_=>false
noncomputable def Vl:Bool->ZD->Scope->E->ZC->Bool
 | _,_,_,.nil,[]=>true
 | tp,N,sc,.cons a r,x::xs=>noStar x && (match a with
  | .io i=>(match asName x with
   | some y=>U5 N sc.names i y
   | none=>false)
  | _=>rep tp N sc a x) && Vl tp N sc r xs
 | _,_,_,_,_=>false
end
theorem yq{tp:Bool}{N:ZD}{sc:Scope}{x:Expr}:∀i,rep tp N sc (.v i) x=(match asName x with
  | some y=>U5 N sc.names i y
  | none=>false):=fun _=>rfl
theorem ud{tp:Bool}{N:ZD}{sc:Scope}{x:Expr}:∀i,rep tp N sc (.mv i) x=(match asName x with
  | some y=>U5 N sc.names i y
  | none=>false):=fun _=>rfl
theorem rep_gQ{tp:Bool}{N:ZD}{sc:Scope}{x:Expr}:∀g,rep tp N sc (.g g) x=(match asName x with
  | some y=>g == y && Rp sc.names y
  | none=>false):=fun _=>rfl
theorem yj{tp:Bool}{N:ZD}{sc:Scope}{x:Expr}:∀es,rep tp N sc (.tup es) x=(match Sd x with
  | some xs=>Vp es && Vl tp N sc es xs
  | none=>false):=fun _=>rfl
theorem yw{tp:Bool}{N:ZD}{sc:Scope}{x:Expr}:∀es,rep tp N sc (.lst es) x=(match Ss x with
  | some xs=>Vp es && Vl tp N sc es xs
  | none=>false):=fun _=>rfl
theorem L3{tp:Bool}{N:ZD}{sc:Scope}{x:Expr}:∀q es,rep tp N sc (.pr q es) x=(match view sc.names q x with
  | some xs=>Vp es && quiet q es && Vl tp N sc es xs
  | none=>false):=fun _ _=>rfl
theorem Pf{tp:Bool}{N:ZD}{sc:Scope}{x:Expr}:∀a b,rep tp N sc (.and a b) x=(match Be .And x with
  | some (x0,y,r,pos)=>rep tp N sc a x0 && (if r.isEmpty then rep tp N sc b y else rep tp N sc b (.BoolOp .And (y::r) pos))
  | none=>false):=fun _ _=>rfl
theorem Ag{tp:Bool}{N:ZD}{sc:Scope}{x:Expr}:∀a b,rep tp N sc (.or a b) x=(match Be .Or x with
  | some (x0,y,r,pos)=>rep tp N sc a x0 && (if r.isEmpty then rep tp N sc b y else rep tp N sc b (.BoolOp .Or (y::r) pos))
  | none=>false):=fun _ _=>rfl
theorem Pg{tp:Bool}{N:ZD}{sc:Scope}{x:Expr}:∀a,rep tp N sc (.not a) x=(match Sr x with
  | some y=>rep tp N sc a y
  | none=>false):=fun _=>rfl
theorem yy{tp:Bool}{N:ZD}{sc:Scope}{x:Expr}:∀c a b,rep tp N sc (.ite c a b) x=(match Zze x with
  | some (z,x0,y)=>rep tp N sc c z && Rc c z && rep tp N sc a x0 && rep tp N sc b y
  | none=>false):=fun _ _ _=>rfl
theorem X0{tp:Bool}{N:ZD}{sc:Scope}{x:Expr}:∀f es,rep tp N sc (.call f es) x=(match Bi x with
  | some (g,xs)=>f == g && Rp sc.names g && !xs.isEmpty && Vl tp N sc es xs
  | none=>false):=fun _ _=>rfl
theorem yg{tp:Bool}{N:ZD}{sc:Scope}{x:Expr}:∀i es,rep tp N sc (.cal i es) x=(match Bi x with
  | some (g,xs)=>U5 N sc.names i g && !xs.isEmpty && Vp es && Vl tp N sc es xs
  | none=>false):=fun _ _=>rfl
theorem uc{tp:Bool}{N:ZD}{sc:Scope}{x:Expr}:∀m i es,rep tp N sc (.mt m i es) x=(match I0 x with
  | some (y,n,xs)=>n == mtN m && U5 N sc.names i y && Vp es && Vl tp N sc es xs && (match m with
   | .pop=>xs.isEmpty
   | _=>!xs.isEmpty && decide (xs.length<30))
  | none=>false):=fun _ _ _=>rfl
theorem Wr{tp:Bool}{N:ZD}{sc:Scope}{x:Expr}:∀tg it c el fr ns,rep tp N sc (.comp tg it c el fr ns) x=(match I8 x with
  | some (elt,t,iter,ifs,scope)=>tp && L4 tp N sc t it iter && E2 sc scope && Jc N scope.names ns fr && decide (ns.Nodup/\scope.names≠Cr) && l9 fr tg && Nh iter && Nr ns scope.names tg t
   && (if isNil c then ifs.isEmpty else (match ifs with
    | [z]=>rep false ns scope c z && Rc c z
    | _=>false)) && rep false ns scope el elt
  | none=>false):=fun _ _ _ _ _ _=>rfl
theorem X7{tp:Bool}{N:ZD}{sc:Scope}{t x:Expr}:∀q es,L4 tp N sc t (.itr q es) x=(match Bi x with
  | some (f,xs)=>f == ikN q && !ikV q && Rp sc.names f && xx q t && decide (xs.length=ikL q) && Vp es && Vl tp N sc es xs
  | none=>(match Zzo x with
   | some y=>y.1 == ikN q && ikV q && xx q t && Vp es && Vl tp N sc es [y.2]
   | none=>false)):=fun _ _=>rfl
theorem E3{tp:Bool}{N:ZD}{sc:Scope}{x:Expr}{xs:ZC}:∀a r,Vl tp N sc (.cons a r) (x::xs)=(noStar x && (match a with
  | .io i=>(match asName x with
   | some y=>U5 N sc.names i y
   | none=>false)
  | _=>rep tp N sc a x) && Vl tp N sc r xs):=fun _ _=>rfl
theorem Cq{x:Expr}{env:Env}(h:plainT x=true):∀whole,isTrue x env whole=(do let v <-whole;standAt x.pos;holding [v] (truthy v)):=by
 intro wh;cases x<;>first | rfl | cases h | (rename_i op _ _;cases op<;>first | rfl | cases h)
theorem Gb{x:Expr}{env:Env}(h:Nh x=true):∀v,foldedSetIterable x env v=pure v:=by
 intro v;cases x<;>first | rfl | cases h
theorem Jx{x:Expr}{y:Str}(h:asName x=some y):∃pos,x=.Name y pos:=Ln h
theorem t5{x:Expr}{y:ZC}(h:Sd x=some y):∃j pos,x=.Tuple y j pos:=by
 unfold Sd at h
 split at h
 .rename_i e;cases h;exact Z5 e
 .cases h
theorem t7{x:Expr}{y:ZC}(h:Ss x=some y):∃pos,x=.List y pos:=by
 unfold Ss at h
 split at h
 .rename_i e;cases h;exact Z5 e
 .cases h
theorem Nj{op:BoolOp}{x x0 y:Expr}{r:ZC}{pos:Pos}(h:Be op x=some (x0,y,r,pos)):x=.BoolOp op (x0::y::r) pos:=by
 unfold Be at h
 split at h
 .rename_i e'
  split at h
  .rename_i e;cases h;rw[<-e];exact Z5 e'
  .cases h
 .cases h
theorem Sn{x y:Expr}(h:Sr x=some y):∃pos,x=.UnaryOp .Not y pos:=by
 unfold Sr at h
 split at h
 .rename_i e'
  split at h
  .rename_i e;cases h;rw[<-e];exact Z5 e'
  .cases h
 .cases h
theorem Zzi{x a b c:Expr}(h:Zze x=some (c,a,b)):∃pos,x=.IfExp c a b pos:=by
 unfold Zze at h
 split at h
 .rename_i e;cases h;exact Z5 e
 .cases h
theorem Rv{x:Expr}{f:Str}{xs:ZC}(h:Bi x=some (f,xs)):∃p pos,x=.Call (.Name f p) xs [] pos:=My h
theorem t6{x:Expr}{y m:Str}{xs:ZC}(h:I0 x=some (y,m,xs)):∃p ap cp,x=.Call (.Attribute (.Name y p) m ap) xs [] cp/\(ap.endLine == cp.line)=true:=by
 unfold I0 at h
 split at h
 .rename_i e
  split at h
  .rename_i e'
   obtain⟨p,rfl⟩:=Ln e'
   split at h
   .rename_i z;cases h;exact⟨p,_,_,Z5 e,z⟩
   .cases h
  .cases h
 .cases h
theorem Zza{x:Expr}{y:Str×Expr}(h:Zzo x=some y):∃ap cp,x=.Call (.Attribute y.2 y.1 ap) [] [] cp/\Uq y.2=true/\(ap.endLine == cp.line)=true:=by
 unfold Zzo at h
 split at h
 .rename_i e
  split at h
  .rename_i z
   cases h;obtain⟨z1,z2,z3⟩:=z;have:=Z5 e;cases List.isEmpty_iff.mp z1;exact⟨_,_,this,z2,z3⟩
  .cases h
 .cases h
theorem Su{x elt t iter:Expr}{ifs:ZC}{scope:Scope}(h:I8 x=some (elt,t,iter,ifs,scope)):∃pos,x=.ListComp elt [⟨t,iter,ifs,0⟩] scope pos:=by
 unfold I8 at h
 split at h
 .rename_i e;cases h;exact Z5 e
 .cases h
def Zqy:E->Bool
 | .and _ _=>true
 | .or _ _=>true
 | _=>false
def SE(w:W)(e:E):Prop:=∀(X:Cx) (k:Nat) (N:ZD) (sc:Scope) (tp:Bool) (x:Expr),Ctx X w k N sc.names->(tp=true->X.env.scope.names=sc.names)->rep tp N sc e x=true->PE X x (LE X.K X.mg w e)
def ST(w:W)(e:E):Prop:=∀(X:Cx) (k:Nat) (N:ZD) (sc:Scope) (tp:Bool) (x:Expr),Ctx X w k N sc.names->(tp=true->X.env.scope.names=sc.names)->rep tp N sc e x=true->Rc e x=true->PT X x (LB X.K X.mg w e)/\(Zqy e=true->PW X x (LB X.K X.mg w e))
def SR(w:W)(e:E):Prop:=∀(X:Cx) (k:Nat) (N:ZD) (sc:Scope) (tp m:Bool) (xs:ZC),Ctx X w k N sc.names->(tp=true->X.env.scope.names=sc.names)->Vl tp N sc e xs=true->Hs X w m e xs
def SI(w:W)(e:E):Prop:=∀(X:Cx) (k:Nat) (N:ZD) (sc:Scope) (tp:Bool) (t x:Expr),Ctx X w k N sc.names->(tp=true->X.env.scope.names=sc.names)->L4 tp N sc t e x=true->PI X t x (LI X w e)
section
variable{w:W}
theorem Yk{e:E}(h:SE w e)(ht:∀x,Rc e x=plainT x)(ha:Zqy e=false):ST w e:=fun X k N sc tp x c ct hr ht'=>⟨Zxv (h X k N sc tp x c ct hr) (Cq (by rw[<-ht x];exact ht')),fun z=>by rw[ha]at z;cases z⟩
theorem Y7{e:E}(h:∀tp N sc xs,Vl tp N sc e xs=false):SR w e:=fun X k N sc tp m xs c ct hr=>by rw[h]at hr;cases hr
theorem Ux{e:E}(h:∀tp N sc t x,L4 tp N sc t e x=false):SI w e:=fun X k N sc tp t x c ct hr=>by rw[h]at hr;cases hr
theorem Aq{e:E}(h:∀tp N sc x,rep tp N sc e x=false):SE w e:=fun X k N sc tp x c ct hr=>by rw[h]at hr;cases hr
theorem Ha{e:E}(h:∀tp N sc x,rep tp N sc e x=false):ST w e:=fun X k N sc tp x c ct hr=>by rw[h]at hr;cases hr
theorem Pq{e:E}(h:SE w e)(hr:∀tp N sc t x,L4 tp N sc t e x=rep tp N sc e x):SI w e:=fun X k N sc tp t x c ct h'=>vw (h X k N sc tp x c ct (by rw[<-hr];exact h'))
theorem se_v(i:Nat):SE w (.v i):=fun X k N sc tp x c ct hr=>by
 replace hr:=(yq _).symm.trans hr
 split at hr
 .rename_i y hy;obtain⟨pos,rfl⟩:=Jx hy;exact snd_v c hr
 .cases hr
theorem Zxg(i:Nat):SE w (.mv i):=fun X k N sc tp x c ct hr=>by
 replace hr:=(ud _).symm.trans hr
 split at hr
 .rename_i y hy;obtain⟨pos,rfl⟩:=Jx hy;exact snd_mv c hr
 .cases hr
theorem se_g(g:Str):SE w (.g g):=fun X k N sc tp x c ct hr=>by
 replace hr:=(rep_gQ _).symm.trans hr
 split at hr
 .rename_i y hy;obtain⟨pos,rfl⟩:=Jx hy;exact snd_g c hr
 .cases hr
theorem se_k(t:T):SE w (.k t):=fun X k N sc tp x c ct hr=>snd_k hr
theorem Ee{es:E}(ih:SR w es):SE w (.tup es):=fun X k N sc tp x c ct hr=>by
 replace hr:=(yj _).symm.trans hr
 split at hr
 .rename_i xs hy
  obtain⟨j,pos,rfl⟩:=t5 hy;rw[Ya]at hr;exact su (ih X k N sc tp false xs c ct hr.2) hr.1
 .cases hr
theorem E1{es:E}(ih:SR w es):SE w (.lst es):=fun X k N sc tp x c ct hr=>by
 replace hr:=(yw _).symm.trans hr
 split at hr
 .rename_i xs hy
  obtain⟨pos,rfl⟩:=t7 hy;rw[Ya]at hr;exact pj (ih X k N sc tp false xs c ct hr.2) hr.1
 .cases hr
theorem vp{q:Pr}{es:E}(ih:SR w es):SE w (.pr q es):=fun X k N sc tp x c ct hr=>by
 replace hr:=(L3 _ _).symm.trans hr
 split at hr
 .rename_i xs hy
  simp only[Ya]at hr;exact y4 c hy (ih X k N sc tp true xs c ct hr.2) hr.1.2
 .cases hr
theorem se_and{a b:E}(ha:SE w a)(hb:SE w b):SE w (.and a b):=fun X k N sc tp x c ct hr=>by
 replace hr:=(Pf _ _).symm.trans hr
 split at hr
 .rename_i x0 y r pos hy
  rw[Nj hy];rw[Ya]at hr;obtain⟨h1,h2⟩:=hr;refine snd_and (ha X k N sc tp x0 c ct h1) ?_
  split at h2
  .rename_i hr
   rw[List.isEmpty_iff.mp hr];exact km (hb X k N sc tp y c ct h2)
  .exact hb X k N sc tp _ c ct h2
 .cases hr
theorem se_or{a b:E}(ha:SE w a)(hb:SE w b):SE w (.or a b):=fun X k N sc tp x c ct hr=>by
 replace hr:=(Ag _ _).symm.trans hr
 split at hr
 .rename_i x0 y r pos hy
  rw[Nj hy];rw[Ya]at hr;obtain⟨h1,h2⟩:=hr;refine snd_or (ha X k N sc tp x0 c ct h1) ?_
  split at h2
  .rename_i hr
   rw[List.isEmpty_iff.mp hr];exact km (hb X k N sc tp y c ct h2)
  .exact hb X k N sc tp _ c ct h2
 .cases hr
theorem se_not{a:E}(ha:SE w a):SE w (.not a):=fun X k N sc tp x c ct hr=>by
 replace hr:=(Pg _).symm.trans hr
 split at hr
 .rename_i y hy
  obtain⟨pos,rfl⟩:=Sn hy;exact pq (ha X k N sc tp y c ct hr)
 .cases hr
theorem va{a b d:E}(hd:ST w d)(ha:SE w a)(hb:SE w b):SE w (.ite d a b):=fun X k N sc tp x c ct hr=>by
 replace hr:=(yy _ _ _).symm.trans hr
 split at hr
 .rename_i z x0 y hy
  obtain⟨pos,rfl⟩:=Zzi hy;simp only[Ya]at hr;obtain⟨⟨⟨h1,h2⟩,h3⟩,h4⟩:=hr;exact pf (hd X k N sc tp z c ct h1 h2).1 (ha X k N sc tp x0 c ct h3) (hb X k N sc tp y c ct h4)
 .cases hr
theorem L1{f:Str}{es:E}(ih:SR w es):SE w (.call f es):=fun X k N sc tp x c ct hr=>by
 replace hr:=(X0 _ _).symm.trans hr
 split at hr
 .rename_i g xs hy
  obtain⟨p,pos,rfl⟩:=Rv hy;simp only[Ya,beq_iff_eq]at hr;obtain⟨⟨⟨rfl,h2⟩,h3⟩,h4⟩:=hr;cases xs with
  | nil=>cases h3
  | cons y ys=>exact vg c (ih X k N sc tp false _ c ct h4) h2
 .cases hr
theorem vo{i:Nat}{es:E}(ih:SR w es):SE w (.cal i es):=fun X k N sc tp x c ct hr=>by
 replace hr:=(yg _ _).symm.trans hr
 split at hr
 .rename_i g xs hy
  obtain⟨p,pos,rfl⟩:=Rv hy;simp only[Ya]at hr;obtain⟨⟨⟨h1,h2⟩,h3⟩,h4⟩:=hr;cases xs with
  | nil=>cases h2
  | cons y ys=>exact pb c (ih X k N sc tp false _ c ct h4) h1
 .cases hr
theorem se_tmp{a:E}(ha:SE w a):SE w (.tmp a):=fun X k N sc tp x c ct hr=>px (ha X k N sc tp x c ct hr)
theorem ra{a r:E}(ha:SE w a)(hr':SR w r):SR w (.cons a r):=fun X k N sc tp m xs c ct hr=>by
 cases xs with
 | nil=>cases(show false=true from hr)
 | cons x xs =>
  replace hr:=(E3 _ _).symm.trans hr
  simp only[Ya]at hr;obtain⟨⟨h1,h2⟩,h3⟩:=hr;refine .cons ?_ h1 (hr' X k N sc tp m xs c ct h3)
  split at h2
  .rename_i i
   split at h2
   .rename_i y hy
    obtain⟨pos,rfl⟩:=Jx hy;intro XF s j H Q I ⟨F,G,p,a',p',rel,e,kq⟩;unfold P7 at e;dsimp only at e
    split at e
    .rename_i hd
     cases e;unfold done at hd
     split at hd
     .rename_i t q
      obtain⟨v,h1,h2⟩:=rel.fz i t q;exact c.var ‹_› XF s j H Q I ⟨v,h1,kq F H v (Le.refl F) (Up.refl H) rel h1⟩
     .rename_i t q
      obtain⟨a,h1,_⟩:=rel.ow i t q;exact c.var ‹_› XF s j H Q I ⟨_,h1,kq F H _ (Le.refl F) (Up.refl H) rel h1⟩
     .cases hd
    .cases e
   .cases h2
  .rename_i n1
   by_cases hv:∃i,a=.v i
   .obtain⟨i,rfl⟩:=hv
    replace h2:=(yq _).symm.trans h2
    split at h2
    .rename_i y hy;obtain⟨pos,rfl⟩:=Jx hy;exact snd_hv c h2
    .cases h2
   .exact snd_hd (fun i z=>n1 i z) (fun i z=>hv ⟨i,z⟩) (ha X k N sc tp x c ct h2)
theorem Zxi{X:Cx}{e:E}{j:L2.St}{H:Hp}{R:Bool->Hp->Prop}(h:LB X.K X.mg w e j H R):LE X.K X.mg w e j H fun v H'=>Lh R v H':=by
 obtain⟨F,G,p,r,p',rel,e,kq⟩:=Zxo h;exact⟨F,G,p,r,p',rel,e,fun F' H' v l u Z6 rs=>let ⟨b,e1,h1⟩:=kq F' H' v l u Z6 rs;⟨b,e1,h1⟩⟩
end
section
variable{X:Cx}{w:W}{k:Nat}{N:ZD}{sc:ZK}
theorem cm_rd(c:Ctx X w k N sc){a b:E}{cm:Cm}{j:L2.St}{H:Hp}{Q:VK}(h:LE X.K X.mg w (.pr (.cm cm) (.cons a (.cons b .nil))) j H Q):tOp (rO X (compareOp (Dj cm))) (LH X.K X.mg w true a) (LH X.K X.mg w true b) j H Q:=by
 obtain⟨F,G,p,r,p',rel,e,kq⟩:=h;obtain⟨as,ts,e1,e2,e3⟩:=Ib e;refine Ws e1 e2 rel fun F2 H2 x y t1 t2 et l u Zo s1 s2=>?_;subst et;obtain⟨b,e4,rfl⟩:=Z4.mp e3;exact fun XF s σ' v u' I rx ry=>Bz _ I Zo.b.f c.un rx ry s1 s2 e4 (kq F2 H2 _ l u Zo rfl)
theorem c2_rd(c:Ctx X w k N sc){a b d:E}{cm cm':Cm}{j:L2.St}{H:Hp}{Q:VK}(h3:quiet (.c2 cm cm') (.cons a (.cons b (.cons d .nil)))=true)(h:LE X.K X.mg w (.pr (.c2 cm cm') (.cons a (.cons b (.cons d .nil)))) j H Q) :
  Eu (rO X (compareOp (Dj cm))) (rO X (compareOp (Dj cm'))) (LH X.K X.mg w true a) (LH X.K X.mg w true b) (LH X.K X.mg w true d) j H Q:=by
 obtain⟨F,G,p,r,p',rel,e,kq⟩:=h;obtain⟨as,ts,e1,e2,e3⟩:=Ib e;obtain⟨a',p1,as1,q1,q2,rfl⟩:=Zd e1;obtain⟨b',p2,as2,q3,q4,rfl⟩:=Zd q2;obtain⟨c',p3,as3,q5,q6,rfl⟩:=Zd q4;obtain⟨rfl,rfl⟩:=Yd q6;obtain⟨t1,r1,l1,l2,rfl⟩:=Zk e2;obtain⟨t2,r2,l3,l4,rfl⟩:=Zk l2;obtain⟨t3,r3,l5,l6,rfl⟩:=Zk l4;cases l6;have ep:=D2 _ h3 q4;subst ep;obtain⟨b1,c1,e3⟩:=ZO.mp e3;refine⟨F,G,p,a',p1,rel,q1,fun F1 H1 x P2 u1 Xi Vc=>⟨F1,G,p1,b',_,Xi,q3,fun F2 H2 y Rn u2 Nl Bj=>?_⟩⟩;have s1:=Nl.look l1 (Ar.up u2 Rn Vc);have s2:=Nl.look l3 Bj;refine fun XF s σ' v u' I rx ry=>Bz _ I Nl.b.f c.un rx ry s1 s2 c1 ⟨b1,rfl, ?_⟩;cases b1 with
 | false=>cases e3;exact kq F2 H2 _ (P2.trans Rn) (u1.trans u2) Nl rfl
 | true =>
  obtain⟨b2,c2,rfl⟩:=Z4.mp e3;refine⟨F2,G,_,c',_,Nl,q5,fun F3 H3 z le3 u3 Xo ar3=>?_⟩;exact fun XF s σ' v u' I rx ry=>Bz _ I Xo.b.f c.un rx ry (Xo.look l3 (Ar.up u3 le3 Bj)) (Xo.look l5 ar3) c2 (kq F3 H3 _ ((P2.trans Rn).trans le3) ((u1.trans u2).trans u3) Xo rfl)
end
theorem n4{sc:ZK}{c:Cm}{x:Expr}{xs:ZC}(h:view sc (.cm c) x=some xs):∃a b pos,x=.Compare a [Dj c] [b] pos/\behindInMarks (Dj c) b=false/\xs=[a,b]:=by
 replace h:=wz (show vCm c x=some xs from h)
 obtain⟨a,op,b,p,rfl,h⟩:=h
 split at h
 .rename_i ho
  obtain⟨rfl,hm⟩:=ho;cases h;exact⟨_,_,_,rfl,hm,rfl⟩
 .cases h
theorem n5{sc:ZK}{c d:Cm}{x:Expr}{xs:ZC}(h:view sc (.c2 c d) x=some xs):∃a b e pos,x=.Compare a [Dj c,Dj d] [b,e] pos/\lastMarks [Dj c,Dj d] [b,e]=false/\xs=[a,b,e]:=by
 replace h:=wx (show vC2 c d x=some xs from h)
 obtain⟨a,op,S5,b,e0,p,rfl,h⟩:=h
 split at h
 .rename_i ho
  obtain⟨rfl,rfl,hm⟩:=ho;cases h;exact⟨_,_,_,_,rfl,hm,rfl⟩
 .cases h
section
variable{w:W}
theorem st_pr{q:Pr}{es:E}(ih:SR w es):ST w (.pr q es):=fun X k N sc tp x c ct hr ht=>by
 refine⟨?_,fun z=>by cases z⟩;have hse:=vp (q:=q) ih X k N sc tp x c ct hr;cases q with
 | cm cm =>
  replace hr:=(L3 _ _).symm.trans hr
  split at hr
  .rename_i xs hy
   simp only[Ya]at hr;obtain⟨a,b,pos,rfl,hm,rfl⟩:=n4 hy;have hs:=ih X k N sc tp true _ c ct hr.2;cases hs with | cons ha _ t=>cases t with | cons hb _ t=>cases t with | nil =>
   exact fun XF s j H Q I h=>uo opr ha hb hm XF s j H Q I (cm_rd c (Zxi h))
  .cases hr
 | c2 cm cm' =>
  replace hr:=(L3 _ _).symm.trans hr
  split at hr
  .rename_i xs hy
   simp only[Ya]at hr;obtain⟨a,b,d,pos,rfl,hm,rfl⟩:=n5 hy;have hs:=ih X k N sc tp true _ c ct hr.2;cases hs with | cons ha _ t=>cases t with | cons hb _ t=>cases t with | cons hc _ t=>cases t with | nil =>
   exact fun XF s j H Q I h=>yi opr opr ha hb hc hm XF s j H Q I (c2_rd c hr.1.2 (Zxi h))
  .cases hr
 | _=>exact Zxv hse (Cq ht)
theorem st_and{a b:E}(ha:ST w a)(hb:ST w b):ST w (.and a b):=fun X k N sc tp x c ct hr ht=>by
 have main:PW X x (LB X.K X.mg w (.and a b)):=by
  replace hr:=(Pf _ _).symm.trans hr
  unfold Rc at ht
  split at hr
  .rename_i x0 y r pos hy
   rw[hy]at ht;rw[Nj hy];simp only[Ya]at hr ht;obtain⟨h1,h2⟩:=hr;obtain⟨t1,t2⟩:=ht;refine sj (ha X k N sc tp x0 c ct h1 t1).1 ?_;by_cases hr:r.isEmpty=true
   .rw[if_pos hr]at h2 t2;rw[List.isEmpty_iff.mp hr];exact pw_and1 (hb X k N sc tp y c ct h2 t2).1
   .rw[if_neg hr]at h2 t2;rw[Ya]at t2;exact(hb X k N sc tp _ c ct h2 t2.1).2 (by cases b<;>first | rfl | cases t2.2)
  .cases hr
 exact⟨main.pt,fun _=>main⟩
theorem st_or{a b:E}(ha:ST w a)(hb:ST w b):ST w (.or a b):=fun X k N sc tp x c ct hr ht=>by
 have main:PW X x (LB X.K X.mg w (.or a b)):=by
  replace hr:=(Ag _ _).symm.trans hr
  unfold Rc at ht
  split at hr
  .rename_i x0 y r pos hy
   rw[hy]at ht;rw[Nj hy];simp only[Ya]at hr ht;obtain⟨h1,h2⟩:=hr;obtain⟨t1,t2⟩:=ht;refine snt_or (ha X k N sc tp x0 c ct h1 t1).1 ?_;by_cases hr:r.isEmpty=true
   .rw[if_pos hr]at h2 t2;rw[List.isEmpty_iff.mp hr];exact pw_or1 (hb X k N sc tp y c ct h2 t2).1
   .rw[if_neg hr]at h2 t2;rw[Ya]at t2;exact(hb X k N sc tp _ c ct h2 t2.1).2 (by cases b<;>first | rfl | cases t2.2)
  .cases hr
 exact⟨main.pt,fun _=>main⟩
theorem st_not{a:E}(ha:ST w a):ST w (.not a):=fun X k N sc tp x c ct hr ht=>by
 refine⟨?_,fun z=>by cases z⟩
 replace hr:=(Pg _).symm.trans hr
 unfold Rc at ht
 split at hr
 .rename_i y hy
  rw[hy]at ht;obtain⟨pos,rfl⟩:=Sn hy;exact r9 (ha X k N sc tp y c ct hr ht).1
 .cases hr
theorem st_tmp{a:E}(ha:ST w a):ST w (.tmp a):=fun X k N sc tp x c ct hr ht=>by
 refine⟨?_,fun z=>by cases z⟩;exact r8 (ha X k N sc tp x c ct hr ht).1
theorem Zxf{m:Mt}{i:Nat}{es:E}(ih:SR w es):SE w (.mt m i es):=fun X k N sc tp x c ct hr=>by
 replace hr:=(uc _ _ _).symm.trans hr
 split at hr
 .rename_i y n xs hy
  obtain⟨p0,ap,cp,rfl,Uw⟩:=t6 hy;simp only[Ya,beq_iff_eq]at hr;obtain⟨⟨⟨⟨rfl,h2⟩,h3⟩,h4⟩,h5⟩:=hr;have hs:=ih X k N sc tp false xs c ct h4;have Rr:=hs.star;intro XF s j H Q I ⟨F,G,p,r,p',rel,e,kq⟩
  replace e:=(ev_mtQ _ _ _).symm.trans e
  split at e
  .rename_i ho
   obtain⟨a,e1,e⟩:=ZO.mp e;obtain⟨ts,e2,e⟩:=ZO.mp e
   split at e
   .rename_i t et
    obtain⟨⟨t',z⟩,e3,e⟩:=Z4.mp e;cases e;have nt:=Np es hs e1 h3
    obtain⟨b,ts0,hp⟩:∃b:Addr,∃ts0,p[i]?=some (Sl.o (.lst ts0))/\j[i]?=some (some (V.ref b)):=by
     unfold zb at ho
     split at ho
     .rename_i l q
      obtain⟨b,h1,_⟩:=rel.ow i _ q;exact⟨b,l,q,h1⟩
     .cases ho
    obtain⟨hp,hb⟩:=hp;obtain⟨b',k1,_,_,vs0,k4,_⟩:=rel.ow i _ hp;rw[hb]at k1;cases k1
    have fin:∀{F1 H1:Hp} {vs:ZQ},Le F F1->Up X.K H H1->Rel X.K X.mg F1 G a.2 j H1->Zq X.K X.mg H1 F1 ts vs->rM X (mtI m) (.ref b) vs H1 Q:=fun {F1 H1 vs} l1 u1 Zm at'=>fun XF s σ' v us I rx rs=>by
     cases rx;exact mt_run I Zm et hb rs at' e3 fun F2 H2 v l2 u2=>kq F2 H2 v (l1.trans l2) (u1.trans u2)
    have lA:LA X.K X.mg w false es j H fun vs H1=>rM X (mtI m) (.ref b) vs H1 Q:=⟨F,G,p,a.1,a.2,rel,e1,fun F1 H1 vs l1 u1 Zm ar=>fin l1 u1 Zm (G8 nt e2 ar)⟩;have ty:tyV X.K "list" (.ref b) H:=.inl ⟨rfl,vs0,.inl (.inl k4)⟩;have Ms:attributeBase (.Name y p0) (mtN m) X.env (eval (.Name y p0) X.env)=eval (.Name y p0) X.env:=rfl;cases xs with
    | nil =>
     cases hs;obtain⟨q1,q2⟩:=Yd e1;cases m<;>first | cases h5 | skip
     rw[q1]at e2;cases e2;rw[q2]at fin;exact pe_bm0 PySem.F.plainAttrs_list PySem.F.slot_list_pop PySem.F.type_list_pop mtr (c.var h2) Ms Uw XF s j H Q I ⟨_,hb,ty,fin (Le.refl _) (Up.refl _) rel rfl⟩
    | cons x xr =>
     have hl:(x::xr).length<30:=by
      cases m<;>first | cases h5 | exact S8 (B0z.mp h5).2
     have st:=Z7 (es:=xr) (env:=X.env) (Rr _ Vk);have sa:=Yo xr X.env cp fun e m=>Rr e (Vb _ m);have fw:=Kt (env:=X.env) (cpos:=cp) Rr hl;cases m with
     | append=>exact Pt PySem.F.plainAttrs_list PySem.F.slot_list_append PySem.F.type_list_append mtr (c.var h2) hs.pa Ms fw Uw st sa XF s j H Q I ⟨_,hb,ty,lA⟩
     | extend=>exact Pt PySem.F.plainAttrs_list PySem.F.slot_list_extend PySem.F.type_list_extend mtr (c.var h2) hs.pa Ms fw Uw st sa XF s j H Q I ⟨_,hb,ty,lA⟩
     | insert=>exact Pt PySem.F.plainAttrs_list PySem.F.slot_list_insert PySem.F.type_list_insert mtr (c.var h2) hs.pa Ms fw Uw st sa XF s j H Q I ⟨_,hb,ty,lA⟩
     | popAt=>exact Pt PySem.F.plainAttrs_list PySem.F.slot_list_pop PySem.F.type_list_pop mtr (c.var h2) hs.pa Ms fw Uw st sa XF s j H Q I ⟨_,hb,ty,lA⟩
     | pop=>cases h5
   .cases e
  .cases e
 .cases hr
theorem si_itr{q:Ik}{es:E}(ih:SR w es):SI w (.itr q es):=fun X k N sc tp t x c ct hr=>by
 replace hr:=(X7 _ _).symm.trans hr
 split at hr
 .rename_i f xs hy
  obtain⟨p,pos,rfl⟩:=Rv hy;simp only[Ya]at hr;obtain⟨⟨⟨⟨⟨⟨h1,h0⟩,h2⟩,h3⟩,h4⟩,h5⟩,h6⟩:=hr;exact pw c (ih X k N sc tp false xs c ct h6) h5 (by simp only[Ya];exact⟨⟨⟨h1,h0⟩,h2⟩,h3⟩) (S8 h4)
 .split at hr
  .rename_i y hy
   obtain⟨ap,cp,rfl,hc,hl⟩:=Zza hy;simp only[Ya]at hr;obtain⟨⟨⟨⟨h1,h0⟩,h3⟩,h5⟩,h6⟩:=hr;exact vv c (ih X k N sc tp false _ c ct h6) h5 (by simp only[Ya];exact⟨⟨h1,h0⟩,h3⟩) hc hl
  .cases hr
theorem Ctx.comp{X:Cx}{k:Nat}{N ns:ZD}{sc:ZK}(c:Ctx X w k N sc){scope outer:Scope}(s1:E2 outer scope=true)(nd:ns.Nodup/\scope.names≠Cr)(fp:ZU)(s:Shared)(H:Hp):Ctx (Ze X scope ns fp s H) w k ns scope.names:=by
 refine⟨rfl,nd.1,fun x kd e=>?_,c.calm,c.room,c.bn,c.fn,c.gl,rfl,fun x e=>?_,fun z=>absurd z nd.2⟩
 .have e2:(relabel scope X.env).names.lookup x=some (if (kd == NameKind.free && X.env.scope.kind == .function && X.env.kindOf x == some .cell)=true then NameKind.cell else kd):=by
   rw[Dg,Vr (f:=fun n k=>if (k == NameKind.free && X.env.scope.kind == .function && X.env.kindOf n == some .cell)=true then NameKind.cell else k),e]
   rfl
  show (relabel scope X.env).names.lookup x=some kd\/(kd=NameKind.free/\(relabel scope X.env).names.lookup x=some NameKind.cell);rw[e2]
  split
  .rename_i h
   simp only[Ya,beq_iff_eq]at h;exact .inr ⟨h.1.1,rfl⟩
  .exact .inl rfl
 .have h1:=s1;unfold E2 at h1;simp only[Ya,decide_eq_true_eq,qg,Bool.or_eq_true]at h1;exact absurd rfl (h1.2 (x,.cell) (PySem.mem_of_lookup e)).1.1
theorem Aj{tg it cd el:E}{fr:ZG}{ns:ZD}(hit:SI w it)(P9:ST w cd)(b8:SE w el):SE w (.comp tg it cd el fr ns):=fun X k N sc tp x c ct hr=>by
 replace hr:=(Wr _ _ _ _ _ _).symm.trans hr
 split at hr
 .rename_i elt t iter ifs scope hy
  obtain⟨pos,rfl⟩:=Su hy;simp only[Ya]at hr;obtain⟨⟨⟨⟨⟨⟨⟨⟨⟨h1,h2⟩,h3⟩,h4⟩,h5⟩,h6⟩,h7⟩,h8⟩,h9⟩,ee⟩:=hr;have cn:=S8 h5;have nd:ns.Nodup:=cn.1;have cc:=fun fp s H=>c.comp (outer:=sc) h3 cn fp s H;refine vy c (ct h1) rfl (hit X k N sc tp t iter c ct h2) h3 h4 nd (fun i m=>?_) (fun fp s H=>T5 (cc fp s H) tg h8) (fun fp s H=>?_) (fun fp s H=>b8 _ k ns scope false elt (cc fp s H) (fun z=>by cases z) ee) (Gb h7)
  .unfold l9 at h6;rw[qg]at h6;exact eq_of_beq (h6 i m)
  .unfold LT;by_cases hn:isNil cd=true
   .rw[if_pos hn]at h9 ⊢;rw[List.isEmpty_iff.mp h9];exact Al
   .rw[if_neg hn]at h9 ⊢
    split at h9
    .rw[Ya]at h9;exact An (P9 _ k ns scope false _ (cc fp s H) (fun z=>by cases z) h9.1 h9.2).1
    .cases h9
 .cases hr
theorem sr_nil:SR w .nil:=fun X k N sc tp m xs c ct hr=>by
 cases xs with
 | nil=>exact .nil
 | cons _ _=>cases(show false=true from hr)
theorem Jk:∀e:E,SE w e/\ST w e/\SR w e/\SI w e:=by
 intro e
 induction e with
 | v i=>exact⟨se_v i,Yk (se_v i) (fun _=>rfl) rfl,Y7 fun tp N sc xs=>rfl,Pq (se_v i) fun tp N sc t x=>rfl⟩
 | mv i=>exact⟨Zxg i,Yk (Zxg i) (fun _=>rfl) rfl,Y7 fun tp N sc xs=>rfl,Ux fun tp N sc t x=>rfl⟩
 | io i=>exact⟨Aq fun tp N sc x=>rfl,Ha fun tp N sc x=>rfl,Y7 fun tp N sc xs=>rfl,Ux fun tp N sc t x=>rfl⟩
 | k t=>exact⟨se_k t,Yk (se_k t) (fun _=>rfl) rfl,Y7 fun tp N sc xs=>rfl,Ux fun tp N sc t x=>rfl⟩
 | g x=>exact⟨se_g x,Yk (se_g x) (fun _=>rfl) rfl,Y7 fun tp N sc xs=>rfl,Ux fun tp N sc t x=>rfl⟩
 | nil=>exact⟨Aq fun tp N sc x=>rfl,Ha fun tp N sc x=>rfl,sr_nil,Ux fun tp N sc t x=>rfl⟩
 | cons a r ha hr=>exact⟨Aq fun tp N sc x=>rfl,Ha fun tp N sc x=>rfl,ra ha.1 hr.2.2.1,Ux fun tp N sc t x=>rfl⟩
 | tup es ih=>exact⟨Ee ih.2.2.1,Yk (Ee ih.2.2.1) (fun _=>rfl) rfl,Y7 fun tp N sc xs=>rfl,Pq (Ee ih.2.2.1) fun tp N sc t x=>rfl⟩
 | lst es ih=>exact⟨E1 ih.2.2.1,Yk (E1 ih.2.2.1) (fun _=>rfl) rfl,Y7 fun tp N sc xs=>rfl,Pq (E1 ih.2.2.1) fun tp N sc t x=>rfl⟩
 | pr q es ih=>exact⟨vp ih.2.2.1,st_pr ih.2.2.1,Y7 fun tp N sc xs=>rfl,Pq (vp ih.2.2.1) fun tp N sc t x=>rfl⟩
 | and a b ha hb=>exact⟨se_and ha.1 hb.1,st_and ha.2.1 hb.2.1,Y7 fun tp N sc xs=>rfl,Ux fun tp N sc t x=>rfl⟩
 | or a b ha hb=>exact⟨se_or ha.1 hb.1,st_or ha.2.1 hb.2.1,Y7 fun tp N sc xs=>rfl,Ux fun tp N sc t x=>rfl⟩
 | not a ha=>exact⟨se_not ha.1,st_not ha.2.1,Y7 fun tp N sc xs=>rfl,Ux fun tp N sc t x=>rfl⟩
 | ite d a b hd ha hb=>exact⟨va hd.2.1 ha.1 hb.1,Yk (va hd.2.1 ha.1 hb.1) (fun _=>rfl) rfl,Y7 fun tp N sc xs=>rfl,Ux fun tp N sc t x=>rfl⟩
 | call f es ih=>exact⟨L1 ih.2.2.1,Yk (L1 ih.2.2.1) (fun _=>rfl) rfl,Y7 fun tp N sc xs=>rfl,Pq (L1 ih.2.2.1) fun tp N sc t x=>rfl⟩
 | cal i es ih=>exact⟨vo ih.2.2.1,Yk (vo ih.2.2.1) (fun _=>rfl) rfl,Y7 fun tp N sc xs=>rfl,Ux fun tp N sc t x=>rfl⟩
 | mt m i es ih=>exact⟨Zxf ih.2.2.1,Yk (Zxf ih.2.2.1) (fun _=>rfl) rfl,Y7 fun tp N sc xs=>rfl,Ux fun tp N sc t x=>rfl⟩
 | comp tg it cd el fr ns htg hit P9 b8=>exact⟨Aj hit.2.2.2 P9.2.1 b8.1,Yk (Aj hit.2.2.2 P9.2.1 b8.1) (fun _=>rfl) rfl,Y7 fun tp N sc xs=>rfl,Ux fun tp N sc t x=>rfl⟩
 | itr q es ih=>exact⟨Aq fun tp N sc x=>rfl,Ha fun tp N sc x=>rfl,Y7 fun tp N sc xs=>rfl,si_itr ih.2.2.1⟩
 | tmp a ha=>exact⟨se_tmp ha.1,st_tmp ha.2.1,Y7 fun tp N sc xs=>rfl,Ux fun tp N sc t x=>rfl⟩
end
def Kp(pt:Nat->Bool)(j σ':L2.St):Prop:=σ'.length=j.length/\∀i,pt i=true->σ'[i]?=j[i]?
theorem Kp.refl(pt:Nat->Bool)(j:L2.St):Kp pt j j:=⟨rfl,fun _ _=>rfl⟩
theorem Kp.trans{pt:Nat->Bool}{j σ1 σ2:L2.St}(a:Kp pt j σ1)(b:Kp pt σ1 σ2):Kp pt j σ2:=⟨b.1.trans a.1,fun i h=>(b.2 i h).trans (a.2 i h)⟩
def Fo(K:W.Frag)(mg:ZV)(D:Ends)(F G:Hp)(p:P)(j:L2.St)(H:Hp):Fl->Prop
 | .nx=>D.nx j H
 | .bk=>D.bk j H
 | .ct=>D.ct j H
 | .rt r=>∀v,Res K mg F G p j H r v->D.rt v H
inductive LS_I(K:PySem.W.Frag)(mg:ZV)(w:W)(pt:Nat->Bool)(s:S)(D:Ends)(j:L2.St)(H:Hp):Prop
 | mk(F G p fl p')(Vj:Rel K mg F G p j H)(Vq:ex w pt s p=some (fl,p'))(Jd:∀F' H' σ',Le F F'->Up K H H'->Rel K mg F' G p' σ' H'->Kp pt j σ'->Fo K mg D F' G p' σ' H' fl):LS_I K mg w pt s D j H
def LS(K:PySem.W.Frag)(mg:ZV)(w:W)(pt:Nat->Bool)(s:S):TS:=fun D j H=>LS_I K mg w pt s D j H
section
variable{X:Cx}{w:W}{k:Nat}{N:ZD}{sc:ZK}{pt:Nat->Bool}
theorem sg:Ru X [] (LS X.K X.mg w pt .nil):=fun XF s j H D I ⟨F,G,p,fl,p',rel,e,kq⟩=>by
 cases e;exact ue XF s j H D I (kq F H j (Le.refl F) (Up.refl H) rel (Kp.refl pt j))
theorem vj{a r:S}{st:Stmt}{rest:List Stmt}(ha:PS X st (LS X.K X.mg w pt a))(hr:Ru X rest (LS X.K X.mg w pt r)):Ru X (st::rest) (LS X.K X.mg w pt (.seq a r)):=fun XF s j H D I ⟨F,G,p,fl,p',rel,e,kq⟩=>by
 replace e:=(Zzj _ _).symm.trans e
 obtain⟨⟨f,q⟩,e1,e2⟩:=ZO.mp e;refine ye ha hr XF s j H D I ⟨F,G,p,f,q,rel,e1,fun F1 H1 σ1 l1 u1 Zm k1=>?_⟩;cases f with
 | nx=>exact⟨F1,G,q,fl,p',Zm,e2,fun F2 H2 σ2 l2 u2 Zo k2=>kq F2 H2 σ2 (l1.trans l2) (u1.trans u2) Zo (k1.trans k2)⟩
 | rt t=>cases e2;exact kq F1 H1 σ1 l1 u1 Zm k1
 | bk=>cases e2;exact kq F1 H1 σ1 l1 u1 Zm k1
 | ct=>cases e2;exact kq F1 H1 σ1 l1 u1 Zm k1
theorem sy{a:E}{x:Expr}{pos:Pos}(h:PE X x (LE X.K X.mg w a)):PS X (.Return (some x) pos) (LS X.K X.mg w pt (.ret a)):=fun XF s j H D I ⟨F,G,p,fl,p',rel,e,kq⟩=>by
 replace e:=(Zzw _).symm.trans e
 obtain⟨⟨r,q⟩,e1,e2⟩:=Z4.mp e;cases e2;exact ps_ret h XF s j H D I ⟨F,G,p,r,q,rel,e1,fun F1 H1 v l1 u1 Zm rs=>kq F1 H1 j l1 u1 Zm (Kp.refl pt j) v rs⟩
theorem w8{pos:Pos}:PS X (.Return none pos) (LS X.K X.mg w pt (.ret (.k .non))):=fun XF s j H D I ⟨F,G,p,fl,p',rel,e,kq⟩=>by
 cases e;exact u9 XF s j H D I (kq F H j (Le.refl F) (Up.refl H) rel (Kp.refl pt j) .non rfl)
noncomputable def Gi:Expr->Bool
 | .ListComp _ _ _ _=>false
 | .SetComp _ _ _ _=>false
 | .DictComp _ _ _ _ _=>false
 | _=>true
theorem Hu{x:Expr}{t:Option Expr}{ln:Nat}{env:Env}(h:Gi x=true):swapsWith x t ln env=pure false:=by
 cases x<;>first | rfl | cases h
def notName:Expr->Bool
 | .Name _ _=>false
 | _=>true
theorem Lp{x t:Expr}{ln:Nat}{env:Env}(h:notName t=true):swapsWith x (some t) ln env=pure false:=by
 cases x<;>first | rfl | (cases t<;>first | rfl | cases h)
theorem sns_ex{a:E}{x:Expr}{pos:Pos}(h:PE X x (LE X.K X.mg w a))(hc:Gi x=true):PS X (.Expr x pos) (LS X.K X.mg w pt (.ex a)):=fun XF s j H D I ⟨F,G,p,fl,p',rel,e,kq⟩=>by
 replace e:=(ex_exQ _).symm.trans e
 obtain⟨⟨r,q⟩,e1,e2⟩:=Z4.mp e;cases e2;exact ax h (Hu hc) XF s j H D I ⟨F,G,p,r,q,rel,e1,fun F1 H1 v l1 u1 Zm rs=>kq F1 H1 j l1 u1 Zm (Kp.refl pt j)⟩
theorem kp_set{i:Nat}{Z:L2.St}{v:Option V}(h:¬ pt i=true):Kp pt Z (Z.set i v):=⟨XY ..,fun j hj=>List.getElem?_set_ne fun z=>h (by rw[z];exact hj)⟩
theorem vh{i:Nat}{a:E}{j:L2.St}{H:Hp}{D:Ends}(hi:i<j.length)(h:LS X.K X.mg w pt (.set i a) D j H):LE X.K X.mg w a j H fun v H1=>D.nx (j.set i (some v)) H1:=by
 obtain⟨F,G,p,fl,p',rel,e,kq⟩:=h
 replace e:=(Zzq _ _).symm.trans e
 split at e
 .cases e
 .rename_i hp
  obtain⟨⟨r,q⟩,e1,e2⟩:=Z4.mp e;cases e2;exact⟨F,G,p,r,q,rel,e1,fun F1 H1 v l1 u1 Zm rs=>kq F1 H1 _ l1 u1 (Zm.bind hi rs) (kp_set hp)⟩
theorem He(c:Ctx X w k N sc){i:Nat}{a:E}{x:Expr}{y:Str}{pos pos':Pos}(hr:(N[i]? == some y && locs sc y)=true)(h:PE X x (LE X.K X.mg w a))(hc:swapsWith x (some (.Name y pos')) pos.line X.env=pure false):PS X (.Assign [.Name y pos'] x pos) (LS X.K X.mg w pt (.set i a)):=fun XF s j H D I hs=>by
 rw[Ya,beq_iff_eq]at hr;obtain⟨l1,l2⟩:=c.loc hr.2;have hi:X.N[i]?=some y:=by rw[c.nN];exact hr.1
 exact ps_set (by rw[c.nN];exact c.nd) hi l1 h hc l2 XF s j H D I (vh (by rw[I.len];exact(B3.mp hi).1) hs)
theorem sv(c:Ctx X w k N sc){tg a:E}{x t:Expr}{pos:Pos}(hg:Nr N sc tg t=true)(ht:isTup t=true)(h:PE X x (LE X.K X.mg w a))(hx:isTup x=false):PS X (.Assign [t] x pos) (LS X.K X.mg w pt (.unp tg a)):=fun XF s Z H D I ⟨F,G,p,fl,p',rel,e,kq⟩=>by
 replace e:=(Zzx _ _).symm.trans e
 split at e
 .rename_i hp
  obtain⟨⟨u,q⟩,e1,e⟩:=ZO.mp e;obtain⟨q2,e2,e3⟩:=Z4.mp e;cases e3;obtain⟨r,e4,e5⟩:=T1 e1;obtain⟨ts,j,ps,rfl⟩:=Er ht
  have tn:∀(tg:E) (i:Nat),V3 pt tg=true->i∈Nc tg->pt i=false:=fun tg=>by
   induction tg with
   | v i=>intro j h m;cases U1.mp m;simpa [V3] using h
   | tup es ih=>intro j h m;exact ih j h m
   | cons a r ha hr=>intro j h m;simp only[V3,Ya]at h;rcases Tw.mp m with m | m;exact ha j h.1 m;exact hr j h.2 m
   | _=>intro j h m;exact absurd m Tj
  refine y3 h (T5 c tg hg) (show swapsWith x (some (.Tuple ts j ps)) pos.line X.env=pure false from Lp rfl) ?_ rfl XF s Z H D I ⟨F,G,p,r,q,rel,e4,fun F1 H1 v l1 u1 Zm rs=>?_⟩
  .unfold swappedStores;cases x<;>first | rfl | cases hx
  obtain⟨F2,l2,Zo,hv⟩:=Zm.thaw e5 rs;exact⟨F2,G,q,u,_,Zo,hv,e2,fun σ' Z6 k' n'=>kq F2 H1 σ' (l1.trans l2) u1 Z6 ⟨n',fun i hi=>k' i fun m=>by rw[tn tg i hp m]at hi;cases hi⟩⟩
 .cases e
theorem sf{c:E}{a b:S}{z:Expr}{x y:List Stmt}{pos:Pos}(hc:PT X z (LB X.K X.mg w c))(ha:Ru X x (LS X.K X.mg w pt a))(hb:Ru X y (LS X.K X.mg w pt b)):PS X (.If z x y pos) (LS X.K X.mg w pt (.ite c a b)):=fun XF s j H D I ⟨F,G,p,fl,p',rel,e,kq⟩=>by
 replace e:=(Zzy _ _ _).symm.trans e
 obtain⟨⟨d,q⟩,e1,e2⟩:=ZO.mp e;refine ps_if hc ha hb XF s j H D I ⟨F,G,p,d,q,rel,e1,fun F1 H1 l1 u1 Zm=>?_⟩;cases d with
 | true=>exact i4 (B:=LS X.K X.mg w pt b D j H1) ⟨F1,G,q,fl,p',Zm,e2,fun F2 H2 σ2 l2 u2=>kq F2 H2 σ2 (l1.trans l2) (u1.trans u2)⟩
 | false=>exact iteF (A:=LS X.K X.mg w pt a D j H1) ⟨F1,G,q,fl,p',Zm,e2,fun F2 H2 σ2 l2 u2=>kq F2 H2 σ2 (l1.trans l2) (u1.trans u2)⟩
theorem vz{pos:Pos}:PS X (.Pass pos) (LS X.K X.mg w pt .pass):=fun XF s j H D I ⟨F,G,p,fl,p',rel,e,kq⟩=>by
 cases e;exact az XF s j H D I (kq F H j (Le.refl F) (Up.refl H) rel (Kp.refl pt j))
theorem sd{pos:Pos}:PS X (.Break pos) (LS X.K X.mg w pt .brk):=fun XF s j H D I ⟨F,G,p,fl,p',rel,e,kq⟩=>by
 cases e;exact y2 XF s j H D I (kq F H j (Le.refl F) (Up.refl H) rel (Kp.refl pt j))
theorem vq{pos:Pos}:PS X (.Continue pos) (LS X.K X.mg w pt .cont):=fun XF s j H D I ⟨F,G,p,fl,p',rel,e,kq⟩=>by
 cases e;exact Pd XF s j H D I (kq F H j (Le.refl F) (Up.refl H) rel (Kp.refl pt j))
end
theorem K7{o kx:Expr}{pos:Pos}{env:Env}(h:V5 kx=true):∀v,assign (.Subscript o kx pos) env v=(do
   let ov <-holding [v] (eval o env)
   let iv <-holding [v,ov] (eval kx env)
   standAt pos
   holding [v,ov,iv] (setItem ov iv v)
   release [v,ov,iv] []):=by
 intro v;cases kx<;>first | rfl | cases h
section
variable{X:Cx}{w:W}{k:Nat}{N:ZD}{sc:ZK}{pt:Nat->Bool}
theorem sk(c:Ctx X w k N sc){i:Nat}{kk a:E}{x kx:Expr}{y:Str}{pos pos' U6:Pos}(hr:U5 N sc i y=true)(h:PE X x (LE X.K X.mg w a))(hk:PE X kx (LE X.K X.mg w kk))(hn:V5 kx=true) :
  PS X (.Assign [.Subscript (.Name y pos') kx U6] x pos) (LS X.K X.mg w pt (.put i kk a)):=fun XF s Z H D I ⟨F,G,p,fl,p',rel,e,kq⟩=>by
 replace e:=(Zzv _ _ _).symm.trans e
 obtain⟨⟨t,q⟩,e1,e⟩:=ZO.mp e;dsimp only at e
 split at e
 .rename_i hd
  obtain⟨⟨kt,q2⟩,e2,e⟩:=ZO.mp e;dsimp only at e
  split at e
  .rename_i z ez
   obtain⟨z',e3,e⟩:=Z4.mp e;cases e;obtain⟨r,e4,e5⟩:=T1 e1;obtain⟨r2,e6,e7⟩:=T1 e2
   have slot:∀{F1 H1:Hp},Rel X.K X.mg F1 G q Z H1->∃v,Z[i]?=some (some v):=fun {F1 H1} Zm=>by
    unfold done at hd
    split at hd
    .rename_i u eu;obtain⟨v,h1,_⟩:=Zm.fz i u eu;exact⟨v,h1⟩
    .rename_i u eu;obtain⟨v,h1,_⟩:=Zm.ow i u eu;exact⟨_,h1⟩
    .cases hd
   unfold putAt at e3
   split at e3
   .obtain⟨j,e8,rfl⟩:=Z4.mp e3;refine y3 h (pg_sub (c.var hr) hk set_list (K7 hn)) (show swapsWith x (some (.Subscript (.Name y pos') kx U6)) pos.line X.env=pure false from Lp rfl) ?_ rfl XF s Z H D I ⟨F,G,p,r,q,rel,e4,fun F1 H1 v l1 u1 Zm rs=>?_⟩
    .unfold swappedStores;cases x<;>rfl
    obtain⟨F2,l2,Zo,hv⟩:=Zm.thaw e5 rs;obtain⟨v1,hv1⟩:=slot Zo;refine⟨v1,hv1,F2,G,q,r2,q2,Zo,e6,fun F3 H3 vk l3 u3 Ri rs2=>?_⟩;obtain⟨F4,l4,X9,hvk⟩:=Ri.thaw e7 rs2;obtain⟨b,g1,g2,g3,ys,g4,g5,g6⟩:=X9.ow i _ ez;rw[hv1]at g1;cases g1;cases(show vk=_ from hvk);have hv4:=IsT.up u3 (l3.trans l4) _ _ hv;have u5:Up X.K H3 (upd H3 b (.lst (ys.set j v))):=Em g4;obtain⟨u6,rel6⟩:=X9.mut (o:=.lst (ys.set j v)) (t':=.lst (_root_.List.set _ j t)) ez hv1 ⟨_,Zx,by rw[XY];exact g5,Zq.up u5 (Le.refl _) _ _ (g6.set j hv4)⟩;exact⟨b,ys,_,j,rfl,rfl,g4,by rw[<-g6.length];exact e8,kq F4 _ Z ((l1.trans l2).trans (l3.trans l4)) (u1.trans (u3.trans u6)) rel6 (Kp.refl pt Z)⟩
   .obtain⟨kv,e8,e9⟩:=ZO.mp e3
    split at e9
    .rename_i hz
     cases e9;have hu:X.A.units+1<cLine:=by have:=c.un;omega
     refine aq hu (c.var hr) hk h (Lp rfl) XF s Z H D I ⟨F,G,p,r,q,rel,e4,fun F1 H1 v l1 u1 Zm rs=>?_⟩;obtain⟨F2,l2,Zo,hv⟩:=Zm.thaw e5 rs;obtain⟨v1,hv1⟩:=slot Zo;refine⟨v1,hv1,F2,G,q,r2,q2,Zo,e6,fun F3 H3 vk l3 u3 Ri rs2=>?_⟩;obtain⟨F4,l4,X9,hvk⟩:=Ri.thaw e7 rs2;obtain⟨b,g1,g2,g3,ks,g4,g5,g6⟩:=X9.ow i _ ez;rw[hv1]at g1;cases g1;cases Mc (K:=X.K) (mg:=X.mg) (H:=H3) (F:=F4) e8 (Ei X9.b hvk);have hv4:=IsT.up u3 (l3.trans l4) _ _ hv;have own:Rb X.K X.mg H3 F4 b (.dct _):=⟨ks,g4,g5,g6⟩;have u5:Up X.K H3 (upd H3 b (.dK (putK ks kv v))):=Ed own;have lk:=g6.length;have pl:=Uj ks kv v;obtain⟨u6,rel6⟩:=X9.mut (o:=.dK (putK ks kv v)) (t':=.dct (Yp _ kv t)) ez hv1 ⟨_,Zx,by omega,Zn.up u5 (Le.refl _) _ _ (Zn.put hv4 g6)⟩;exact⟨b,_,rfl,Hk.k g4 (by omega),kq F4 _ Z ((l1.trans l2).trans (l3.trans l4)) (u1.trans (u3.trans u6)) rel6 (Kp.refl pt Z)⟩
    .cases e9
   .cases e3
  .cases e
 .cases e
end
theorem tn_of{pt:Nat->Bool}:∀(tg:E) (i:Nat),V3 pt tg=true->i∈Nc tg->pt i=false:=fun tg=>by
 induction tg with
 | v i=>intro j h m;cases U1.mp m;simpa [V3] using h
 | tup es ih=>intro j h m;exact ih j h m
 | cons a r ha hr=>intro j h m;simp only[V3,Ya]at h;rcases Tw.mp m with m | m;exact ha j h.1 m;exact hr j h.2 m
 | _=>intro j h m;exact absurd m Tj
section
variable{X:Cx}{w:W}{k:Nat}{N:ZD}{sc:ZK}{pt:Nat->Bool}
theorem Frz.fo{F F' G H H' F2 H2:Hp}{p2:P}{σ2:L2.St}{D:Ends}{fl:Fl}(z:Frz X F H F' H')(l:Le F' F2)(r:Rel X.K X.mg F2 G p2 σ2 H2)(kq:∀F3 H3,Le F F3->Up X.K H2 H3->Rel X.K X.mg F3 G p2 σ2 H3->Fo X.K X.mg D F3 G p2 σ2 H3 fl):Fo X.K X.mg (gu X D) F2 G p2 σ2 H2 fl:=by
 obtain⟨F3,H3,l3,r3,ml,u3,lr,n1,n2⟩:=z.back l r;have h:=kq F3 H3 l3 u3 r3;cases fl with
 | nx=>exact⟨H3,ml,h⟩
 | bk=>exact⟨H3,ml,h⟩
 | ct=>exact⟨H3,ml,h⟩
 | rt rr =>
  intro v rs;refine⟨H3,ml,h v ?_⟩;cases rr with
  | no=>exact rs
  | f t=>exact IsT.upR u3 lr t v rs
  | o t =>
   obtain⟨a,rfl,g1,g2,g3,g4⟩:=rs;refine⟨a,rfl,n1 a g1,g2, ?_,g4⟩;cases t with
   | lst ts=>obtain⟨vs,k1,k2,k3⟩:=g3;exact⟨vs,(n2 a g1).trans k1,k2,Zq.upR u3 lr _ _ k3⟩
   | dct ts=>obtain⟨vs,k1,k2,k3⟩:=g3;exact⟨vs,(n2 a g1).trans k1,k2,Zn.upR u3 lr _ _ k3⟩
   | _=>exact g3.elim
theorem vx(c:Ctx X w k N sc){tg it:E}{b:S}{t iter:Expr}{body:List Stmt}{pos:Pos}(hi:PI X t iter (LI X w it))(hg:Nr N sc tg t=true)(hb:Ru X body (LS X.K X.mg w pt b))(hs:Nh iter=true):PS X (.For t iter body [] pos) (LS X.K X.mg w pt (.loop tg it b)):=fun XF s Z H D I ⟨F,G,p,fl,p',rel,e,kq⟩=>by
 replace e:=(m6 _ _ _).symm.trans e
 split at e
 .rename_i hp
  obtain⟨⟨xs,p1⟩,e1,e2⟩:=ZO.mp e;dsimp only at e2;refine PS.mel (ps_for (by rw[c.xe];exact PassesOwn.never) c.calm hi (T5 c tg hg) hb (Gb hs)) XF s Z H D I ⟨F,G,p,xs,p1,rel,e1,fun F1 H1 F' H' J l u Zm fz zl walk=>?_⟩;obtain⟨Z6,u',lr⟩:=fz.rel Zm
  let Wt:Nat->Nat->L2.St->Hp->Prop:=fun i m σ2 H2=>m=xs.length - i/\i<=xs.length/\∃F2 q,Le F' F2/\Up X.K H' H2/\Rel X.K X.mg F2 G q σ2 H2/\Kp pt Z σ2/\Bs (fun x s=>(asg tg x s).bind fun s1=>ex w pt b s1) (xs.drop i) q=some (fl,p')
  refine⟨Wt,⟨xs.length,rfl,B2 _,F',p1,Le.refl _,Up.refl _,Z6,Kp.refl pt Z,e2⟩, ?_⟩;rintro i m σ2 H2 ⟨rfl,c9,F2,q,l2,u2,r2,kp,e3⟩;obtain⟨wk1,wk2⟩:=walk i F2 H2 l2 u2 r2.b.f;by_cases Qc:i<xs.length
  .have et:xs[i]?=some xs[i]:=Mz Qc;rw[List.drop_eq_getElem_cons Qc]at e3;unfold Bs at e3;obtain⟨⟨f,q1⟩,e4,e5⟩:=ZO.mp e3;obtain⟨s3,e6,e7⟩:=ZO.mp (show (asg tg xs[i] q).bind _=some (f,q1) from e4);obtain⟨g1,g2⟩:=wk1 _ et;refine .inr ⟨g1,fun σ' H'=>Wt (i+1) (xs.length - (i+1)) σ' H',fun σ' H' h=>⟨_,by omega,h⟩,fun x H3 yd=>?_⟩;obtain⟨sm,ix⟩:=g2 x H3 yd;refine⟨F2,G,q,xs[i],s3,r2.same sm,ix,e6,fun σ3 r3 k3 n3=>?_⟩;have kp3:Kp pt σ2 σ3:=⟨n3,fun j hj=>k3 j fun m=>by rw[tn_of tg j hp m]at hj;cases hj⟩;refine⟨F2,G,s3,f,q1,r3,e7,fun F4 H4 σ4 l4 u4 r4 k4=>?_⟩;have kk:=kp.trans (kp3.trans k4);have uu:=u2.trans (sm.up.trans u4)
   have out:∀{fl':Fl},fl=fl'->q1=p'->Fo X.K X.mg (gu X D) F4 G q1 σ4 H4 fl':=fun {fl'} ef ep=>by
    subst ef ep;exact fz.fo (l2.trans l4) r4 fun F5 H5 l5 u5 r5=>kq F5 H5 σ4 (l.trans l5) (u.trans (u'.trans (uu.trans u5))) r5 kk
   cases f with
   | nx=>exact⟨rfl,Qc,F4,q1,l2.trans l4,uu,r4,kk,e5⟩
   | ct=>exact⟨rfl,Qc,F4,q1,l2.trans l4,uu,r4,kk,e5⟩
   | bk=>cases e5;exact out rfl rfl
   | rt r=>cases e5;exact out rfl rfl
  .have ei:i=xs.length:=by omega
   subst ei;rw[List.drop_length]at e3;cases e3;exact .inl ⟨wk2 rfl,fz.fo (fl:=.nx) l2 r2 fun F5 H5 l5 u5 r5=>kq F5 H5 σ2 (l.trans l5) (u.trans (u'.trans (u2.trans u5))) r5 kp⟩
 .cases e
theorem sns_wh(c:Ctx X w k N sc){cd:E}{b:S}{z:Expr}{body:List Stmt}{pos:Pos}(hc:PT X z (LB X.K X.mg w cd))(hb:Ru X body (LS X.K X.mg w pt b)):PS X (.While z body [] pos) (LS X.K X.mg w pt (.wh cd b)):=fun XF s j H D I ⟨F,G,p,fl,p',rel,e,kq⟩=>by
 replace e:=(ex_whQ _ _).symm.trans e
 refine y0 (by rw[c.xe];exact PassesOwn.never) hc hb XF s j H D I ?_
 let Wt:Nat->L2.St->Hp->Prop:=fun m σ2 H2=>∃F2 q,Le F F2/\Up X.K H H2/\Rel X.K X.mg F2 G q σ2 H2/\Kp pt j σ2/\Br (fun s=>Gj (ev w cd s)) (fun s=>ex w pt b s) m q=some (fl,p')
 refine⟨Wt,⟨1000000,F,p,Le.refl _,Up.refl _,rel,Kp.refl pt j,e⟩, ?_⟩;rintro m σ2 H2 ⟨F2,q,l2,u2,r2,kp,e3⟩;cases m with
 | zero=>cases e3
 | succ m =>
  unfold Br at e3;obtain⟨⟨d,q1⟩,e4,e5⟩:=ZO.mp e3;refine⟨F2,G,q,d,q1,r2,e4,fun F3 H3 l3 u3 r3=>?_⟩;cases d with
  | false =>
   cases e5;exact iteF (kq F3 H3 σ2 (l2.trans l3) (u2.trans u3) r3 kp)
  | true =>
   obtain⟨⟨f,q2⟩,e6,e7⟩:=ZO.mp (show (ex w pt b q1).bind _=some (fl,p') from e5);refine i4 (B:=D.nx σ2 H3) ⟨fun σ' H'=>Wt m σ' H',fun σ' H' h=>⟨m,Nat.lt_succ_self m,h⟩,F3,G,q1,f,q2,r3,e6,fun F4 H4 σ4 l4 u4 r4 k4=>?_⟩;have kk:=kp.trans k4;have uu:=u2.trans (u3.trans u4);have ll:=l2.trans (l3.trans l4);cases f with
   | nx=>exact⟨F4,q2,ll,uu,r4,kk,e7⟩
   | ct=>exact⟨F4,q2,ll,uu,r4,kk,e7⟩
   | bk=>cases e7;exact kq F4 H4 σ4 ll uu r4 kk
   | rt r=>cases e7;exact kq F4 H4 σ4 ll uu r4 kk
end
def A6:E->Bool
 | .comp _ _ _ _ _ _=>true
 | _=>false
inductive ShS where
 | ret(x:Option Expr) | ex(x:Expr) | asg(t x:Expr) | ite(z:Expr)(a b:List Stmt) | loop(t it:Expr)(b:List Stmt) | wh(z:Expr)(b:List Stmt) | pass | brk | cont | non
noncomputable def shA:ZC->Expr->ShS
 | [],_=>.non
 | t::r,x=>match r with
  | []=>.asg t x
  | _::_=>.non
def shL(t it:Expr)(b:List Stmt):List Stmt->ShS
 | []=>.loop t it b
 | _::_=>.non
def shW(z:Expr)(b:List Stmt):List Stmt->ShS
 | []=>.wh z b
 | _::_=>.non
noncomputable def Td:Stmt->ShS
 | .Return x _=>.ret x
 | .Expr x _=>.ex x
 | .Assign ts x _=>shA ts x
 | .If z a b _=>.ite z a b
 | .For t it b e _=>shL t it b e
 | .While z b e _=>shW z b e
 | .Pass _=>.pass
 | .Break _=>.brk
 | .Continue _=>.cont
 | _=>.non
def ShSI:ShS->Stmt->Prop
 | .ret x,s=>∃p,s=.Return x p
 | .ex x,s=>∃p,s=.Expr x p
 | .asg t x,s=>∃p,s=.Assign [t] x p
 | .ite z a b,s=>∃p,s=.If z a b p
 | .loop t it b,s=>∃p,s=.For t it b [] p
 | .wh z b,s=>∃p,s=.While z b [] p
 | .pass,s=>∃p,s=.Pass p
 | .brk,s=>∃p,s=.Break p
 | .cont,s=>∃p,s=.Continue p
 | .non,_=>True
theorem ux(s:Stmt):ShSI (Td s) s:=by
 cases s
 case Assign ts x p=>cases ts with
  | nil=>trivial
  | cons t r=>cases r with
   | nil=>exact⟨_,rfl⟩
   | cons _ _=>trivial
 case For t it b e p=>cases e with
  | nil=>exact⟨_,rfl⟩
  | cons _ _=>trivial
 case While z b e p=>cases e with
  | nil=>exact⟨_,rfl⟩
  | cons _ _=>trivial
 all_goals first | exact⟨_,rfl⟩ | exact True.intro
theorem V4{s:Stmt}{h:ShS}(e:Td s=h):ShSI h s:=e ▸ ux s
def Kk:E->Bool
 | .k t=>match t with
  | .non=>true
  | _=>false
 | _=>false
theorem ze{a:E}(h:Kk a=true):a=.k .non:=by
 cases a with
 | k t=>cases t with
  | non=>rfl
  | _=>cases h
 | _=>cases h
noncomputable def gr(t:Expr):Option Str:=match T8 t with
 | .name y=>some y
 | _=>none
theorem A0{t:Expr}{y:Str}(h:gr t=some y):∃p,t=.Name y p:=by
 unfold gr at h
 split at h
 .rename_i e
  cases h;exact Z5 e
 .cases h
noncomputable def uy(t:Expr):Option (Str×Expr):=match T8 t with
 | .sub o k=>(gr o).map (·,k)
 | _=>none
theorem uv{t k:Expr}{y:Str}(h:uy t=some (y,k)):∃q p,t=.Subscript (.Name y q) k p:=by
 unfold uy at h
 split at h
 .rename_i e
  obtain⟨p,rfl⟩:=Z5 e;obtain⟨z,e1,e2⟩:=Z4.mp h;cases e2;obtain⟨q,rfl⟩:=A0 e1;exact⟨q,p,rfl⟩
 .cases h
mutual
noncomputable def repS(N:ZD)(sc:Scope):S->Stmt->Bool
 | .ret a,st=>match Td st with
  | .ret x=>(match x with
   | some x=>rep true N sc a x
   | none=>Kk a)
  | _=>false
 | .ex a,st=>match Td st with
  | .ex x=>rep true N sc a x && Gi x
  | _=>false
 | .set i a,st=>match Td st with
  | .asg t x=>(match gr t with
   | some y=>N[i]? == some y && locs sc.names y && rep true N sc a x && (Gi x || A6 a)
   | none=>false)
  | _=>false
 | .unp tg a,st=>match Td st with
  | .asg t x=>Nr N sc.names tg t && isTup t && rep true N sc a x && !isTup x
  | _=>false
 | .put i k a,st=>match Td st with
  | .asg t x=>(match uy t with
   | some q=>U5 N sc.names i q.1 && rep true N sc a x && rep true N sc k q.2 && V5 q.2
   | none=>false)
  | _=>false
 | .ite c a b,st=>match Td st with
  | .ite z x y=>rep true N sc c z && Rc c z && Gz N sc a x && Gz N sc b y
  | _=>false
 | .loop tg it b,st=>match Td st with
  | .loop t iter body=>L4 true N sc t it iter && Nr N sc.names tg t && Gz N sc b body && Nh iter
  | _=>false
 | .wh c b,st=>match Td st with
  | .wh z body=>rep true N sc c z && Rc c z && Gz N sc b body
  | _=>false
 | .pass,st=>match Td st with
  | .pass=>true
  | _=>false
 | .brk,st=>match Td st with
  | .brk=>true
  | _=>false
 | .cont,st=>match Td st with
  | .cont=>true
  | _=>false
 | _,_=>false
noncomputable def Gz(N:ZD)(sc:Scope):S->List Stmt->Bool
 | .nil,[]=>true
 | .seq a r,st::rest=>repS N sc a st && Gz N sc r rest
 | _,_=>false
end
theorem X3{N:ZD}{sc:Scope}{st:Stmt}:∀a,repS N sc (.ret a) st=(match Td st with
  | .ret x=>(match x with
   | some x=>rep true N sc a x
   | none=>Kk a)
  | _=>false):=fun _=>rfl
theorem ym{N:ZD}{sc:Scope}{st:Stmt}:∀a,repS N sc (.ex a) st=(match Td st with
  | .ex x=>rep true N sc a x && Gi x
  | _=>false):=fun _=>rfl
theorem X2{N:ZD}{sc:Scope}{st:Stmt}:∀i a,repS N sc (.set i a) st=(match Td st with
  | .asg t x=>(match gr t with
   | some y=>N[i]? == some y && locs sc.names y && rep true N sc a x && (Gi x || A6 a)
   | none=>false)
  | _=>false):=fun _ _=>rfl
theorem X1{N:ZD}{sc:Scope}{st:Stmt}:∀tg a,repS N sc (.unp tg a) st=(match Td st with
  | .asg t x=>Nr N sc.names tg t && isTup t && rep true N sc a x && !isTup x
  | _=>false):=fun _ _=>rfl
theorem X4{N:ZD}{sc:Scope}{st:Stmt}:∀i k a,repS N sc (.put i k a) st=(match Td st with
  | .asg t x=>(match uy t with
   | some q=>U5 N sc.names i q.1 && rep true N sc a x && rep true N sc k q.2 && V5 q.2
   | none=>false)
  | _=>false):=fun _ _ _=>rfl
theorem X5{N:ZD}{sc:Scope}{st:Stmt}:∀c a b,repS N sc (.ite c a b) st=(match Td st with
  | .ite z x y=>rep true N sc c z && Rc c z && Gz N sc a x && Gz N sc b y
  | _=>false):=fun _ _ _=>rfl
theorem E5{N:ZD}{sc:Scope}{st:Stmt}:∀tg it b,repS N sc (.loop tg it b) st=(match Td st with
  | .loop t iter body=>L4 true N sc t it iter && Nr N sc.names tg t && Gz N sc b body && Nh iter
  | _=>false):=fun _ _ _=>rfl
theorem yf{N:ZD}{sc:Scope}{st:Stmt}:∀c b,repS N sc (.wh c b) st=(match Td st with
  | .wh z body=>rep true N sc c z && Rc c z && Gz N sc b body
  | _=>false):=fun _ _=>rfl
theorem E4{N:ZD}{sc:Scope}{st:Stmt}:repS N sc (.pass ) st=(match Td st with
  | .pass=>true
  | _=>false):=rfl
theorem X6{N:ZD}{sc:Scope}{st:Stmt}:repS N sc (.brk ) st=(match Td st with
  | .brk=>true
  | _=>false):=rfl
theorem E6{N:ZD}{sc:Scope}{st:Stmt}:repS N sc (.cont ) st=(match Td st with
  | .cont=>true
  | _=>false):=rfl
theorem X8{N:ZD}{sc:Scope}{st:Stmt}{rest:List Stmt}:∀a r,Gz N sc (.seq a r) (st::rest)=(repS N sc a st && Gz N sc r rest):=fun _ _=>rfl
section
variable{X:Cx}{w:W}{k:Nat}{N:ZD}{sc:Scope}{pt:Nat->Bool}
theorem Xt{elt:Expr}{gs:List Comprehension}{scope:Scope}{pos p:Pos}{t:Str}{ln:Nat}{env:Env}:swapsWith (.ListComp elt gs scope pos) (some (.Name t p)) ln env=pure (env.blockKind == .function && env.kindOf t == some .local && p.line == pos.line && !(scope.names.any fun(n,k)=>n == t && (k == .local || k == .cell))):=rfl
theorem w6(c:Ctx X w k N sc.names)(ct:X.env.scope.names=sc.names){i:Nat}{tg it cd el:E}{fr:ZG}{ns:ZD}{x:Expr}{y:Str}{pos pos':Pos}(hr:(N[i]? == some y && locs sc.names y)=true)(hx:rep true N sc (.comp tg it cd el fr ns) x=true):PS X (.Assign [.Name y pos'] x pos) (LS X.K X.mg w pt (.set i (.comp tg it cd el fr ns))):=by
 have hse:=(Jk (w:=w) (.comp tg it cd el fr ns)).1 X k N sc true x c (fun _=>ct) hx
 have hsw:swapsWith x (some (.Name y pos')) pos.line X.env=pure false\/swapsWith x (some (.Name y pos')) pos.line X.env=pure true:=by
  cases x<;>first | exact .inl rfl | skip
  all_goals (first | (rw[Xt];rename_i sc' pp;cases(X.env.blockKind == .function && X.env.kindOf y == some .local && pos'.line == pp.line && !(sc'.names.any fun(n,k)=>n == y && (k == .local || k == .cell)))<;>first | exact .inl rfl | exact .inr rfl) | skip)
  all_goals cases(show false=true from hx)
 rcases hsw with hsw | hsw
 .exact He c hr hse hsw
 .replace hx:=(Wr _ _ _ _ _ _).symm.trans hx
  split at hx
  .rename_i elt t iter ifs scope hy
   obtain⟨pos3,rfl⟩:=Su hy;simp only[Ya]at hx;obtain⟨⟨⟨⟨⟨⟨⟨⟨⟨h1,h2⟩,h3⟩,h4⟩,h5⟩,h6⟩,h7⟩,h8⟩,h9⟩,ee⟩:=hx;have cn:=S8 h5;have nd:ns.Nodup:=cn.1;have cc:=fun fp s H=>c.comp (outer:=sc) h3 cn fp s H
   have ht:∀i∈Nc tg,fr[i]?=some none:=fun i m=>by
    unfold l9 at h6;rw[qg]at h6;exact eq_of_beq (h6 i m)
   have hc:∀fp s H,PTs (Ze X scope ns fp s H) ifs (LT X.K X.mg w cd):=fun fp s H=>by
    unfold LT;by_cases hn:isNil cd=true
    .rw[if_pos hn]at h9 ⊢;rw[List.isEmpty_iff.mp h9];exact Al
    .rw[if_neg hn]at h9 ⊢
     split at h9
     .rw[Ya]at h9;exact An ((Jk (w:=w) cd).2.1 _ k ns scope false _ (cc fp s H) (fun z=>by cases z) h9.1 h9.2).1
     .cases h9
   rw[Ya,beq_iff_eq]at hr;obtain⟨l1,l2⟩:=c.loc hr.2;have hi:X.N[i]?=some y:=by rw[c.nN];exact hr.1
   intro XF s j H D I hs;have hl:i<j.length:=by rw[I.len];exact(B3.mp hi).1
   exact PS.mel (E8 (te:=fun _ _ _=>LE X.K X.mg w el) (tt:=fun _ _ _=>LT X.K X.mg w cd) (g:=fun _ _ _=>LG X.K X.mg tg) (by rw[c.nN];exact c.nd) hi l1 c.calm ((Jk (w:=w) it).2.2.2 X k N sc true t iter c (fun _=>ct) h2) (NX:=N) (outer:=sc) ⟨c.nN,ct,h3,h4⟩ (fun fp s H=>T5 (cc fp s H) tg h8) hc (fun fp s H=>(Jk (w:=w) el).1 _ k ns scope false elt (cc fp s H) (fun z=>by cases z) ee) hsw (Gb h7) l2) XF s j H D I
    (Io c h4 nd ht (by rw[I.len,c.nN]) (vh hl hs))
  .cases hx
theorem sr(c:Ctx X w k N sc.names)(ct:X.env.scope.names=sc.names):∀s:S,(∀st,repS N sc s st=true->PS X st (LS X.K X.mg w pt s))/\∀sts,Gz N sc s sts=true->Ru X sts (LS X.K X.mg w pt s):=by
 have E:=fun(e:E) (x:Expr) (h:rep true N sc e x=true)=>(Jk (w:=w) e).1 X k N sc true x c (fun _=>ct) h;have Tt:=fun(e:PV.E) (x:Expr) (h:rep true N sc e x=true) (t:Rc e x=true)=>((Jk (w:=w) e).2.1 X k N sc true x c (fun _=>ct) h t).1;have It:=fun(e:PV.E) (t x:Expr) (h:L4 true N sc t e x=true)=>(Jk (w:=w) e).2.2.2 X k N sc true t x c (fun _=>ct) h;have nb:∀{s:S},(∀sts,Gz N sc s sts=false)->∀sts,Gz N sc s sts=true->Ru X sts (LS X.K X.mg w pt s):=fun h sts z=>by rw[h]at z;cases z
 have ns:∀{s:S},(∀st,repS N sc s st=false)->∀st,repS N sc s st=true->PS X st (LS X.K X.mg w pt s):=fun h sts z=>by rw[h]at z;cases z
 intro s
 induction s with
 | nil =>
  refine⟨ns fun st=>rfl,fun sts h=>?_⟩;cases sts with
  | nil=>exact sg
  | cons _ _=>cases(show false=true from h)
 | seq a r ha hr =>
  refine⟨ns fun st=>rfl,fun sts h=>?_⟩;cases sts with
  | nil=>cases(show false=true from h)
  | cons st rest =>
   replace h:=(X8 _ _).symm.trans h
   rw[Ya]at h;exact vj (ha.1 st h.1) (hr.2 rest h.2)
 | ret a =>
  refine⟨fun st h=>?_,nb fun sts=>rfl⟩
  replace h:=(X3 _).symm.trans h
  split at h
  .rename_i e
   obtain⟨p,rfl⟩:=V4 e
   split at h
   .exact sy (E a _ h)
   .rw[ze h];exact w8
  .cases h
 | ex a =>
  refine⟨fun st h=>?_,nb fun sts=>rfl⟩
  replace h:=(ym _).symm.trans h
  split at h
  .rename_i e
   obtain⟨p,rfl⟩:=V4 e;rw[Ya]at h;exact sns_ex (E a _ h.1) h.2
  .cases h
 | set i a =>
  refine⟨fun st h=>?_,nb fun sts=>rfl⟩
  replace h:=(X2 _ _).symm.trans h
  split at h
  .rename_i e
   obtain⟨p,rfl⟩:=V4 e
   split at h
   .rename_i e
    obtain⟨p,rfl⟩:=A0 e;simp only[Ya]at h;obtain⟨⟨⟨h1,h2⟩,h3⟩,h4⟩:=h;have h12:=B0z.mpr ⟨h1,h2⟩;rw[Bool.or_eq_true]at h4;rcases h4 with h4 | h4
    .exact He c h12 (E a _ h3) (Hu h4)
    .cases a<;>first | exact w6 c ct h12 h3 | cases h4
   .cases h
  .cases h
 | unp tg a =>
  refine⟨fun st h=>?_,nb fun sts=>rfl⟩
  replace h:=(X1 _ _).symm.trans h
  split at h
  .rename_i e
   obtain⟨p,rfl⟩:=V4 e;simp only[Ya]at h;obtain⟨⟨⟨h1,h2⟩,h3⟩,h4⟩:=h;exact sv c h1 h2 (E a _ h3) (by simpa using h4)
  .cases h
 | put i kk a =>
  refine⟨fun st h=>?_,nb fun sts=>rfl⟩
  replace h:=(X4 _ _ _).symm.trans h
  split at h
  .rename_i e
   obtain⟨p,rfl⟩:=V4 e
   split at h
   .rename_i e
    obtain⟨q,p,rfl⟩:=uv e;simp only[Ya]at h;obtain⟨⟨⟨h1,h2⟩,h3⟩,h4⟩:=h;exact sk c h1 (E a _ h2) (E kk _ h3) h4
   .cases h
  .cases h
 | ite cd a b ha hb =>
  refine⟨fun st h=>?_,nb fun sts=>rfl⟩
  replace h:=(X5 _ _ _).symm.trans h
  split at h
  .rename_i e
   obtain⟨p,rfl⟩:=V4 e;simp only[Ya]at h;obtain⟨⟨⟨h1,h2⟩,h3⟩,h4⟩:=h;exact sf (Tt cd _ h1 h2) (ha.2 _ h3) (hb.2 _ h4)
  .cases h
 | loop tg it b hb =>
  refine⟨fun st h=>?_,nb fun sts=>rfl⟩
  replace h:=(E5 _ _ _).symm.trans h
  split at h
  .rename_i e
   obtain⟨p,rfl⟩:=V4 e;simp only[Ya]at h;obtain⟨⟨⟨h1,h2⟩,h3⟩,h4⟩:=h;exact vx c (It it _ _ h1) h2 (hb.2 _ h3) h4
  .cases h
 | wh cd b hb =>
  refine⟨fun st h=>?_,nb fun sts=>rfl⟩
  replace h:=(yf _ _).symm.trans h
  split at h
  .rename_i e
   obtain⟨p,rfl⟩:=V4 e;simp only[Ya]at h;obtain⟨⟨h1,h2⟩,h3⟩:=h;exact sns_wh c (Tt cd _ h1 h2) (hb.2 _ h3)
  .cases h
 | pass =>
  refine⟨fun st h=>?_,nb fun sts=>rfl⟩
  replace h:=(E4).symm.trans h
  split at h
  .rename_i e
   obtain⟨p,rfl⟩:=V4 e;exact vz
  .cases h
 | brk =>
  refine⟨fun st h=>?_,nb fun sts=>rfl⟩
  replace h:=(X6).symm.trans h
  split at h
  .rename_i e
   obtain⟨p,rfl⟩:=V4 e;exact sd
  .cases h
 | cont =>
  refine⟨fun st h=>?_,nb fun sts=>rfl⟩
  replace h:=(E6).symm.trans h
  split at h
  .rename_i e
   obtain⟨p,rfl⟩:=V4 e;exact vq
  .cases h
end
noncomputable def Vx(as:List Sl)(i:Nat):Bool:=match as[i]? with
 | some (.o _)=>true
 | _=>false
noncomputable def leftT:Sl->T
 | .o t=>t
 | _=>.fn ""
noncomputable def Ue:List Sl->P->Option (ZZ)
 | [],_=>some []
 | .o _::r,x::q=>(Ue r q).map (leftT x::·)
 | .f _::r,_::q=>Ue r q
 | .no::r,_::q=>Ue r q
 | _,_=>none
noncomputable def fin(as:List Sl)(r:Sl)(p:P):Option (Sl×ZZ):=(Ue as p).map fun ts=>(r,ts)
structure Df where
 n:Nat
 ar:Nat
 code:S
noncomputable def Pw(d:Df)(w:W)(as:List Sl):Option (Sl×ZZ):=if as.length=d.ar then (ex w (Vx as) d.code (as++List.replicate (d.n - d.ar) .no)).bind fun q=>match q.1 with
  | .rt r=>fin as r q.2
  | .nx=>fin as (.f .non) q.2
  | _=>none
 else none
theorem k8{as:List Sl}:∀{p:P} {ts:ZZ},Ue as p=some ts->(∀(j:Nat) (s:Sl),(Rt as ts)[j]?=some s->(as[j]?=some s/\∀u,s≠.o u)\/(∃t u,s=.o t/\as[j]?=some (.o u)/\p[j]?=some (.o t))\/s=.no)/\(Rt as ts).length=as.length:=by
  induction as with
  | nil=>intro p ts e;cases e;exact⟨fun j s h=>by simp[Rt]at h,rfl⟩
  | cons a r ih =>
    intro p ts e;cases p with
    | nil=>cases a<;>cases e
    | cons x q =>
      have same:∀{b:Sl} {us:ZZ},Ue r q=some us->(∀u,b≠.o u)->(∀(j:Nat) (s:Sl),(b::Rt r us)[j]?=some s->((b::r)[j]?=some s/\∀u,s≠.o u)\/(∃t u,s=.o t/\(b::r)[j]?=some (.o u)/\(x::q)[j]?=some (.o t))\/s=.no)/\(b::Rt r us).length=(b::r).length:=fun {b us} e nb=>by
        obtain⟨h2,h3⟩:=ih e;refine⟨fun j s h=>?_,by rw[D9,D9,h3]⟩;cases j with
        | zero=>cases(Dp h);exact .inl ⟨rfl,nb⟩
        | succ j=>exact h2 j s h
      cases a with
      | no => have eu : Rt (.no :: r) ts = .no :: Rt r ts := by cases ts<;>rfl
              rw[eu];exact same e fun u z=>nomatch z
      | f y => have eu : Rt (.f y :: r) ts = .f y :: Rt r ts := by cases ts<;>rfl
               rw[eu];exact same e fun u z=>nomatch z
      | o y =>
        obtain⟨ts',e1,rfl⟩:=Z4.mp (show (Ue r q).map _=some ts from e);obtain⟨h2,h3⟩:=ih e1;refine⟨fun j s h=>?_,by show (Rt r ts').length+1=r.length+1;rw[h3]⟩;cases j with
        | succ j=>exact h2 j s h
        | zero =>
          have h:s=mkO (leftT x):=(Dp h).symm;subst h;cases x with
          | no=>exact .inr (.inr rfl)
          | f t=>exact .inr (.inr rfl)
          | o t=>cases t with
            | fn z=>exact .inr (.inr rfl)
            | _=>exact .inr (.inl ⟨_,y,rfl,rfl,rfl⟩)
section
variable{K:W.Frag}{mg:ZV}{F G H:Hp}
theorem Xn{as:List Sl}{vs:ZQ}{n:Nat}{N:ZD}(r:Rel K mg F G as (vs.map some) H)(hn:N.length=n)(hl:vs.length<=n):Rel K mg F G (as++List.replicate (n - as.length) Sl.no) (L2.start N vs) H:=by
 have al:as.length=vs.length:=by have:=r.ln;rw[Z0]at this;exact this
 have old:∀{i:Nat} {s:Sl},(as++List.replicate (n - as.length) Sl.no)[i]?=some s->s≠.no->as[i]?=some s/\i<vs.length:=fun {i s} h ne=>by
  rw[List.getElem?_append]at h
  split at h
  .rename_i hi;exact⟨h,by omega⟩
  .rw[List.getElem?_replicate]at h
   split at h
   .cases h;exact absurd rfl ne
   .cases h
 have st:∀{i:Nat},i<vs.length->(L2.start N vs)[i]?=(vs.map some)[i]?:=fun {i} h=>by
  unfold L2.start;rw[G0l (by rw[Z0];exact h)]
 refine⟨r.b,fun i t e=>?_,fun i t e=>?_,fun i j t u a e1 e2 h1 h2=>?_, ?_⟩
 .obtain⟨e,hi⟩:=old e fun z=>nomatch z;rw[st hi];exact r.fz i t e
 .obtain⟨e,hi⟩:=old e fun z=>nomatch z;rw[st hi];exact r.ow i t e
 .obtain⟨e1,i1⟩:=old e1 fun z=>nomatch z;obtain⟨e2,i2⟩:=old e2 fun z=>nomatch z;rw[st i1]at h1;rw[st i2]at h2;exact r.ap i j t u a e1 e2 h1 h2
 .unfold L2.start;rw[D7,D7,List.length_replicate,List.length_replicate,Z0,al,hn]
theorem Iu{F' H':Hp}{as:List Sl}{vs:ZQ}{ts:ZZ}{p':P}{σ0 σ':L2.St}{rr:Sl}{v:V}(r:Rel K mg F G as (vs.map some) H)(hσ:∀i:Nat,i<vs.length->σ0[i]?=(vs.map some)[i]?)(eo:Ue as p'=some ts)(l:Le F F')(u:Up K H H')(r':Rel K mg F' G p' σ' H')(kp:Kp (Vx as) σ0 σ')(rs:Res K mg F' G p' σ' H' rr v) :
  Rel K mg F' G (Rt as ts) (vs.map some) H'/\Res K mg F' G (Rt as ts) (vs.map some) H' rr v:=by
 obtain⟨o2,o3⟩:=k8 eo;have al:as.length=vs.length:=by have:=r.ln;rw[Z0]at this;exact this
 have own:∀{j:Nat} {t:T},(Rt as ts)[j]?=some (Sl.o t)->p'[j]?=some (Sl.o t)/\σ'[j]?=(vs.map some)[j]?/\∃u,as[j]?=some (Sl.o u):=fun {j t} h=>by
  rcases o2 j _ h with ⟨_,a2⟩ | ⟨t',u',a1,a2,a3⟩ | z
  .exact absurd rfl (a2 t)
  .cases a1;have hj:j<vs.length:=by rw[<-al];exact(B3.mp a2).1
   exact⟨a3,(kp.2 j (by unfold Vx;rw[a2])).trans (hσ j hj),u',a2⟩
  .cases z
 refine⟨⟨r'.b,fun j t e=>?_,fun j t e=>?_,fun i j t t' a e1 e2 h1 h2=>?_,by rw[o3];exact r.ln⟩, ?_⟩
 .rcases o2 j _ e with ⟨a1,_⟩ | ⟨_,_,z,_⟩ | z
  .obtain⟨v,h1,h2⟩:=r.fz j t a1;exact⟨v,h1,IsT.up u l t v h2⟩
  .cases z
  .cases z
 .obtain⟨a1,a2,_⟩:=own e;rw[<-a2];exact r'.ow j t a1
 .obtain⟨a1,a2,_⟩:=own e1;obtain⟨b1,b2,_⟩:=own e2;rw[<-a2]at h1;rw[<-b2]at h2;exact r'.ap i j t t' a a1 b1 h1 h2
 .cases rr with
  | no=>exact rs
  | f t=>exact rs
  | o t =>
   obtain⟨a,rfl,h1,h2,h3,h4⟩:=rs;refine⟨a,rfl,h1,h2,h3,fun j u e z=>?_⟩;obtain⟨a1,a2,_⟩:=own e;rw[<-a2]at z;exact h4 j u a1 z
end
structure LamW(K:W.Frag)(mg:ZV)(c T:Addr):Prop where
 c:∀h,K.In h->W.CodeHd h c T
 bi:∀h,K.In h->h.BuiltinsAt mg T
 ne:mainGlobals≠T
structure cw(K:W.Frag)(x qual:Str)(st:Stmt)(f:Addr)(fd:FuncData)(R:Value->Prop):Prop where
 ex:∃(oc:Value) (od:ZP) (kV doc pm:Value) (an:ZP) (cdv ct:Value) (osl:ZF),R cdv /\
  fd=W.fnOf x qual (Uy st) (Yw st) (Zj st) .none kV doc pm an cdv ct/\K.lookup f=some ⟨oc,od,.func fd,osl⟩/\W.codeIn K cdv qual=true
 kp:W.keepIn K (.ref f)=true
theorem cw.ok{P:Program}{w:World}{K:W.Frag}{mg:ZV}{base:Heap}{R:Value->Prop}{x qual:Str}{st:Stmt}{f:Addr}{fd:FuncData}{N ps:ZD}{k:Nat}{sp:Sp}(F:cw K x qual st f fd R)(S:J0 N ps (Zj st))(len:∀vs H Q E,sp vs H Q E->vs.length=ps.length)
  (Oz:∀(cdv:Value) (A:Around) (outer:List Env) (s:Shared) (H:Hp) (vs:ZQ) (Q:VK) (E:XK),R cdv->V8 k (A.deeper (envOfC qual (Zj st) s.heap.objs.size f cdv))->sp vs H Q E ->
   ∃t,Ru (O1 qp P w K mg base N qual (Zj st) f cdv A outer s H E).nox (Yw st) t/\t { nx:=fun _ H'=>Q .non H',rt:=Q } (start N vs) H):Gq P w K mg base qp (k+1) f fd ps sp:=by
 obtain⟨oc,od,kV,doc,pm,an,cdv,ct,osl,rc,rfl,lk,P9⟩:=F.ex;refine Zx8 lk P9 S len fun A outer s H vs Q E hr c6=>?_;obtain⟨t,h,q⟩:=Oz cdv A outer s H vs Q E rc hr c6;exact⟨t,h.nox,q⟩
def LamF(K:W.Frag)(mg:ZV)(qual:Str)(sc:Scope)(R:Value->Prop):Prop:=sc.names=Cr->∀T,wm=some T->(∀(L f:Addr) (v:Value),(envOfC qual sc L f v).qual++Str.ofString "<lambda>" = T.q)/\∀v,R v->∃c,v=.ref c/\LamW K mg c T.P
theorem Oj{P:Program}{wd:World}{K:PySem.W.Frag}{mg:ZV}{base:Heap}{w:W}{x qual:Str}{st:Stmt}{f:Addr}{fd:FuncData}{N ps:ZD}{k:Nat}{d:Df}{R:Value->Prop}(F:cw K x qual st f fd R)(lm:LamF K mg qual (Zj st) R)(S:J0 N ps (Zj st))(hn:N.length=d.n)(ha:ps.length=d.ar)(hle:ps.length<=N.length)(hrep:Gz N (Zj st) d.code (Yw st)=true)
  (bn:∀x∈Jz,mg x=none) (fn:∀f as r,w.C f as=some r->∃ps,as.length=ps.length/\Fn P wd K mg base k f ps (spC K mg ps.length (w.C f))) (gl:∀x t,w.gl x=some t->∃v u,mg x=some u/\RelV v u/\∀H F,IsT K mg H F t v) :
  Gq P wd K mg base qp (k+1) f fd ps (spC K mg ps.length (Pw d w)):=by
 refine F.ok S (fun vs H Q E h=>h.1) fun cdv A outer s H vs Q E rc hr h=>?_;obtain⟨hv,F0,G,as,r,ec,rel,kq⟩:=h;unfold Pw at ec
 split at ec
 .rename_i hal
  obtain⟨⟨fl,p'⟩,e1,e2⟩:=ZO.mp ec;have c:Ctx (O1 qp P wd K mg base N qual (Zj st) f cdv A outer s H E).nox w k N (Zj st).names:=⟨rfl,S.nd,fun y kd e=>.inl e,rfl,hr,bn,fn,gl,rfl,fun _ _=>rfl,fun z T e=>let ⟨a1,a2⟩:=lm z T e;let ⟨c1,ec,lw⟩:=a2 cdv rc;⟨⟨⟨c1,ec,lw.c⟩,lw.bi,lw.ne⟩,a1 _ _ _⟩⟩;refine⟨LS K mg w (Vx as) d.code,(sr (sc:=Zj st) (pt:=Vx as) c rfl d.code).2 _ hrep,F0,G,_,fl,p',Xn rel hn (by rw[hv];omega),by rw[hal];exact e1,fun F' H' σ' l u Z6 kp=>?_⟩
  have hσ:∀i:Nat,i<vs.length->(L2.start N vs)[i]?=(vs.map some)[i]?:=fun i h=>by
   unfold L2.start;rw[G0l (by rw[Z0];exact h)]
  cases fl with
  | nx =>
   obtain⟨ts,e3,e4⟩:=Z4.mp (show (Ue as p').map _=some r from e2);cases e4;obtain⟨g1,g2⟩:=Iu (v:=.non) (rr:=.f .non) rel hσ e3 l u Z6 kp rfl;exact kq F' H' .non l u g1 g2
  | rt rr =>
   obtain⟨ts,e3,e4⟩:=Z4.mp (show (Ue as p').map _=some r from e2);cases e4;intro v rs;obtain⟨g1,g2⟩:=Iu rel hσ e3 l u Z6 kp rs;exact kq F' H' v l u g1 g2
  | bk=>cases e2
  | ct=>cases e2
 .cases ec
def wF(d:Df)(w:W)(as:List Sl)(Q:Sl×ZZ->Prop):Prop:=if as.length=d.ar then wS w (Vx as) d.code (as++List.replicate (d.n - d.ar) .no) ⟨fun p=>on (fin as (.f .non) p) Q,fun r p=>on (fin as r p) Q,fun _=>False,fun _=>False⟩ else False
theorem jt{d:Df}{w:W}{as:List Sl}{Q:Sl×ZZ->Prop}(h:wF d w as Q):∃x,Pw d w as=some x/\Q x:=by
 unfold wF at h
 split at h
 .rename_i ha
  obtain⟨f,p',e,h⟩:=wS_ex w (Vx as) d.code _ _ h;unfold Pw;rw[if_pos ha,e];cases f with
  | nx=>exact Z9 h
  | rt r=>exact Z9 h
  | bk=>exact h.elim
  | ct=>exact h.elim
 .exact h.elim
noncomputable def Cn(tab:Str->Option Df)(gl:Str->Option T):Nat->Cs
 | 0=>fun _ _=>none
 | n+1=>fun f as=>(tab f).bind fun d=>Pw d ⟨Cn tab gl n,gl⟩ as
structure Gh(K:W.Frag)(mg:ZV)(f:Str)(d:Df):Prop where
 ex:∃st a fd N ps R,cw K f f st a fd R/\LamF K mg f (Zj st) R/\mg f=some (.ref a)/\J0 N ps (Zj st)/\N.length=d.n/\ps.length=d.ar/\ps.length<=N.length/\Gz N (Zj st) d.code (Yw st)=true/\Binds K fd ps []
theorem knot{P:Program}{wd:World}{K:W.Frag}{mg:ZV}{base:Heap}{tab:Str->Option Df}{gl:Str->Option T}(bn:∀x∈Jz,mg x=none)(ft:∀f d,tab f=some d->Gh K mg f d)(hg:∀x t,gl x=some t->∃v u,mg x=some u/\RelV v u/\∀H F,IsT K mg H F t v) :
  ∀n f as r,Cn tab gl n f as=some r->∃ps,as.length=ps.length/\Fn P wd K mg base n f ps (spC K mg ps.length (Cn tab gl n f))
 | 0,f,as,r,h=>by cases h
 | n+1,f,as,r,h=>by
  obtain⟨d,e1,e2⟩:=ZO.mp (show (tab f).bind _=some r from h);obtain⟨st,a,fd,N,ps,R,F,lm,hm,S,hn,ha,hle,hrep,hb⟩:=(ft f d e1).ex
  have ec:Cn tab gl (n+1) f=Pw d ⟨Cn tab gl n,gl⟩:=by
   funext as
   show (tab f).bind _=_;rw[e1]
   rfl
  refine⟨ps, ?_,a,fd, ?_,hb,F.kp,hm⟩
  .unfold Pw at e2
   split at e2
   .rename_i q;rw[ha];exact q
   .cases e2
  .rw[ec];exact Oj F lm S hn ha hle hrep bn (knot bn ft hg n) hg
end PV
namespace PV
open PySem
abbrev Zp(a:E):E:=.cons a .nil
abbrev Zv(a b:E):E:=.cons a (.cons b .nil)
abbrev Dk(a b c:E):E:=.cons a (.cons b (.cons c .nil))
abbrev ro4(a b c d:E):E:=.cons a (.cons b (.cons c (.cons d .nil)))
abbrev ki(i:Int):E:=.k (.int i)
abbrev ks(x:Str):E:=.k (.str x)
abbrev Zt(a b:E):E:=.pr .ix (.cons a (.cons b .nil))
noncomputable abbrev Vg(a b:E):E:=.pr (.cm .eq) (.cons a (.cons b .nil))
abbrev M0(a b:E):E:=.pr (.op .add) (.cons a (.cons b .nil))
abbrev G0(a:E):E:=.pr .len (.cons a .nil)
abbrev sq2(a b:S):S:=.seq a (.seq b .nil)
abbrev Z8(a:S):S:=.seq a .nil
end PV
namespace PV
open PySem PySem.Spec PyProof.Rows L2
theorem oh{j:Type}{o:Option j}{Q Q':j->Prop}(h:on o Q)(q:∀x,Q x->Q' x):on o Q':=by
 obtain⟨a,e,h⟩:=Z9 h;rw[e];exact q a h
theorem Eg{body:T->P->(Option T->P->Prop)->Prop}(I:ZZ->ZZ->P->Prop)(st:∀x r acc p K,I (x::r) acc p->(∀y p',I r (acc++[y]) p'->K (some y) p')->(∀p',I r acc p'->K none p')->body x p K) :
  ∀(xs acc:ZZ) (p:P) (Q:ZZ->P->Prop),I xs acc p->(∀acc p,I [] acc p->Q acc p)->Vs body xs acc p Q
 | [],acc,p,Q,h,q=>q acc p h
 | x::r,acc,p,Q,h,q=>st x r acc p _ h (fun y p' h'=>Eg I st r (acc++[y]) p' Q h' q) fun p' h'=>Eg I st r acc p' Q h' q
theorem jd{body:T->P->En->Prop}(I:ZZ->P->Prop)(B:P->Prop)(R:Sl->P->Prop)
  (st:∀x r p (D:En),I (x::r) p->(∀q,I r q->D.nx q)->(∀q,I r q->D.ct q)->(∀q,B q->D.bk q)->(∀s q,R s q->D.rt s q)->body x p D) :
  ∀(xs:ZZ) (p:P) (D:En),I xs p->(∀q,I [] q->D.nx q)->(∀q,B q->D.nx q)->(∀s q,R s q->D.rt s q)->Xy body xs p D
 | [],p,D,h,q,_,_=>q p h
 | x::r,p,D,h,q,b,t=>st x r p _ h (fun p' h'=>jd I B R st r p' D h' q b t) (fun p' h'=>jd I B R st r p' D h' q b t) b t
theorem Te{body:T->P->(Option T->P->Prop)->Prop}{xs:ZZ}{p:P}{Q:ZZ->P->Prop}(I:ZZ->ZZ->P->Prop)(h:I xs [] p)(st:∀x r acc p K,I (x::r) acc p->(∀y p',I r (acc++[y]) p'->K (some y) p')->(∀p',I r acc p'->K none p')->body x p K)(q:∀acc p,I [] acc p->Q acc p):Vs body xs [] p Q :=
 Eg I st xs [] p Q h q
theorem callW{tab:Str->Option Df}{gl:Str->Option T}{n:Nat}{f:Str}{as:List Sl}{Q:Sl×ZZ->Prop}{d:Df}(e:tab f=some d)(h:wF d ⟨Cn tab gl n,gl⟩ as Q):on (Cn tab gl (n+1) f as) Q:=by
 obtain⟨x,h1,h2⟩:=jt h;exact Z2 (a:=x) (by show (tab f).bind _=_;rw[e];exact h1) h2
theorem Ry(a:Int):∀zs:ZL,B0 (.int a) (zs.map .int)=some (zs.any fun z=>decide (z=a))
 | []=>rfl
 | z::zs=>by
  show (B0 (.int a) (zs.map .int)).map (decide (z=a) || ·)=_;rw[Ry a zs];rfl
theorem Fj(a:Int)(zs:ZL):bf (.int a) (.lst (zs.map .int))=some (zs.any fun z=>decide (z=a)):=Ry a zs
theorem strs_map:∀ss:ZD,Bb (ss.map .str)=some ss
 | []=>rfl
 | s::ss=>by show (Bb (ss.map .str)).map (s::·)=_;rw[strs_map ss];rfl
theorem ints_map:∀ss:ZL,Dn (ss.map .int)=some ss
 | []=>rfl
 | s::ss=>by show (Dn (ss.map .int)).map (s::·)=_;rw[ints_map ss];rfl
theorem z8(s:Str)(ss:ZD):Dn ((s::ss).map .str)=none:=rfl
theorem srt_ints(zs:ZL)(h:zs.length<64):T4 (zs.map .int)=some ((SRT.Nn zs).map .int):=by
 unfold T4;rw[if_pos (by rw[Z0];exact h),ints_map]
theorem srt_strs(ss:ZD)(h:ss.length<64):T4 (ss.map .str)=some ((SRT.Uo ss).map .str):=by
 unfold T4;rw[if_pos (by rw[Z0];exact h)];cases ss with
 | nil=>rfl
 | cons s ss=>rw[z8,strs_map];rfl
theorem K6{j:Type}{xs:List j}{i:Int}(h0:0<=i)(h1:i<xs.length):∃x,Bq xs i=some x/\xs[i.toNat]?=some x/\x∈xs:=by
 have hj:i.toNat<xs.length:=by omega
 refine⟨xs[i.toNat], ?_,Mz hj,G0e hj⟩;unfold Bq qm;rw[if_pos h0,if_pos h1];exact Mz hj
theorem ixP{ts:ZZ}{r:Int}{Q:Sl->Prop}(h0:0<=r)(h1:r<ts.length)(q:∀x,ts[r.toNat]?=some x->x∈ts->Q (.f x)):on ((Qt (.lst ts) (.int r)).map Sl.f) Q:=by
 obtain⟨x,hx,e,mx⟩:=K6 h0 h1;exact Z2 (a:=Sl.f x) (by show (Bq _ _).map _=_;rw[hx];rfl) (q x e mx)
theorem vi{n:Nat}{d:Nat}{i:Int}(h0:0<=i)(h1:i<=n):HT.Ym n d (some i)=i.toNat:=by
 obtain⟨k,rfl⟩:=Int.eq_ofNat_of_zero_le h0;rw[HT.uk,XG];omega
theorem cut_to{ts:ZZ}{i:Int}(h0:0<=i)(h1:i<=ts.length):Y4 ts none (some i)=ts.take i.toNat:=by
 unfold Y4;rw[vi h0 h1];show (ts.drop 0).take (i.toNat - 0)=_;simp
theorem O2{ts:ZZ}{i:Int}(h0:0<=i)(h1:i<=ts.length):Y4 ts (some i) none=ts.drop i.toNat:=by
 unfold Y4;rw[vi h0 h1];show (ts.drop i.toNat).take (ts.length - i.toNat)=_;rw[List.take_of_length_le (by rw[List.length_drop];omega)]
theorem ia{a:T}{l:ZZ}:(Qt (.tup (a::l)) (.int 0)).map Sl.f=some (.f a):=by
 show (Bq _ _).map _=_;unfold Bq qm;rw[if_pos (by omega),if_pos (by rw[D9];omega)]
 rfl
theorem ix_snd{a b:T}{l:ZZ}:(Qt (.tup (a::b::l)) (.int 1)).map Sl.f=some (.f b):=by
 show (Bq _ _).map _=_;unfold Bq qm;rw[if_pos (by omega),if_pos (by rw[D9,D9];omega)]
 rfl
theorem ixE{ts:ZZ}{r:Int}{x:T}(e:Bq ts r=some x):(Qt (.lst ts) (.int r)).map Sl.f=some (.f x):=by show (Bq ts r).map _=_;rw[e];rfl
theorem ixTE{ts:ZZ}{r:Int}{x:T}(e:Bq ts r=some x):(Qt (.tup ts) (.int r)).map Sl.f=some (.f x):=by show (Bq ts r).map _=_;rw[e];rfl
theorem ixDE{XB:ZX}{k:Str}{x:T}(e:Zr XB (.inr k)=some x):(Qt (.dct XB) (.str k)).map Sl.f=some (.f x):=by show (Zr XB (.inr k)).map _=_;rw[e];rfl
theorem notinP{a:Int}{zs:ZL}{Q:Sl->Prop}(q:Q (.f (.bl (!(zs.any fun z=>decide (z=a)))))):on ((Wz .notin (.int a) (.lst (zs.map .int))).map fun r=>Sl.f (.bl r)) Q:=Z2 (by show ((bf _ _).map not).map _=_;rw[Fj];rfl) q
theorem R0{a:T}{l:ZZ}{Q:Sl->Prop}(q:Q (.f a)):on ((Qt (.tup (a::l)) (.int 0)).map Sl.f) Q:=Z2 ia q
theorem ixSn{a b:T}{l:ZZ}{Q:Sl->Prop}(q:Q (.f b)):on ((Qt (.tup (a::b::l)) (.int 1)).map Sl.f) Q:=Z2 ix_snd q
theorem ixLP{ts:ZZ}{r:Int}{x:T}{Q:Sl->Prop}(e:Bq ts r=some x)(q:Q (.f x)):on ((Qt (.lst ts) (.int r)).map Sl.f) Q:=Z2 (ixE e) q
theorem ie{ts:ZZ}{r:Int}{x:T}{Q:Sl->Prop}(e:Bq ts r=some x)(q:Q (.f x)):on ((Qt (.tup ts) (.int r)).map Sl.f) Q:=Z2 (ixTE e) q
theorem Kv{XB:ZX}{k:Str}{x:T}{Q:Sl->Prop}(e:Zr XB (.inr k)=some x)(q:Q (.f x)):on ((Qt (.dct XB) (.str k)).map Sl.f) Q:=Z2 (ixDE e) q
theorem Z1{d:Df}{w:W}{as:List Sl}{Q:Sl×ZZ->Prop}(ha:as.length=d.ar)(h:∀D:En,(∀r p,on (fin as r p) Q->D.rt r p)->(∀p,on (fin as (.f .non) p) Q->D.nx p)->wS w (Vx as) d.code (as++List.replicate (d.n - d.ar) .no) D):wF d w as Q:=by
 unfold wF;rw[if_pos ha];exact h _ (fun _ _ z=>z) fun _ z=>z
theorem w4{ts us:ZZ}{Q:Sl->Prop}(e:T4 ts=some us)(q:Q (.o (.lst us))):on ((T4 ts).map fun us=>Sl.o (.lst us)) Q:=Z2 (by rw[e];rfl) q
theorem rngP{m:Int}{Q:ZZ->Prop}(h0:-1000000<=m)(h1:m<=1000000)(q:Q ((List.range m.toNat).map fun k=>T.int (k:Nat))):on (rngT (.int m)) Q:=by
 refine Z2 (a:=(List.range m.toNat).map fun k=>T.int (k:Nat)) ?_ q;show (if -1000000<=m/\m<=1000000 then some ((List.range m.toNat).map fun k=>T.int (k:Nat)) else none)=_;rw[if_pos ⟨h0,h1⟩]
theorem Y8{C:Cs}{f:Str}{as:List Sl}{Q Q':Sl×ZZ->Prop}(h:on (C f as) Q)(q:∀x,Q x->Q' x):on (C f as) Q':=oh h q
theorem ifS{c:Prop}[Decidable c]{j:Type}{a:j}{o:Option j}{Q:j->Prop}(h:c)(q:Q a):on (if c then some a else o) Q:=by rw[if_pos h];exact q
theorem Zqk{a b:ZZ}{Q:Sl->Prop}(h:a.length+b.length<=sizeLine)(q:Q (.o (.lst (a++b)))):on (cf .add (.lst a) (.lst b)) Q:=ifS h q
theorem Se{a b:ZZ}{Q:Sl->Prop}(h:a.length+b.length<=sizeLine)(q:Q (.f (.tup (a++b)))):on (cf .add (.tup a) (.tup b)) Q:=ifS h q
theorem addSP{a b:Str}{Q:Sl->Prop}(h:a.length+b.length<=sizeLine)(q:Q (.f (.str (a++b)))):on (cf .add (.str a) (.str b)) Q:=ifS h q
theorem yt{p:P}{i:Nat}{t:T}(h:p[i]?=some (.o t)\/p[i]?=some (.f t)):read p i=some (t,p.set i (.f t)):=by
 rcases h with h | h
 .unfold read;rw[h]
 .have e:p.set i (.f t)=p:=by
   refine List.ext_getElem? fun j=>?_;by_cases z:i=j
   .subst z;rw[List.getElem?_set_self (B3.mp h).1,h]
   .rw[List.getElem?_set_ne z]
  unfold read;rw[h,e]
def OF(s:Sl)(t:T):Prop:=s=.o t\/s=.f t
theorem Pb{p:P}{i:Nat}{s:Sl}{t:T}{Q:T×P->Prop}(h:OF s t)(e:p[i]?=some s)(q:Q (t,p.set i (.f t))):on (read p i) Q:=by
 refine Z2 (yt ?_) q;rcases h with rfl | rfl
 .exact .inl e
 .exact .inr e
theorem Yy{body:T->P->(Option T->P->Prop)->Prop}{xs:ZZ}{p:P}{Q:ZZ->P->Prop}(g:T->T)(St:P->Prop)(h0:St p)(st:∀x∈xs,∀p K,St p->(∀p',St p'->K (some (g x)) p')->body x p K)(q:∀p,St p->Q (xs.map g) p):Vs body xs [] p Q:=by
 refine Te (fun r acc p=>St p/\(∀x∈r,x∈xs)/\acc++r.map g=xs.map g) ⟨h0,fun _ m=>m,rfl⟩ (fun x r acc p K hi ky _=>?_) fun acc p hi=>?_
 .obtain⟨h1,h2,h3⟩:=hi;exact st x (h2 x Vk) p K h1 fun p' h'=>ky _ p' ⟨h',fun y m=>h2 y (Vb _ m),by rw[XX];exact h3⟩
 .obtain⟨h1,_,h3⟩:=hi;rw[List.map_nil,XQ]at h3;rw[h3];exact q p h1
theorem wCompF{body:T->P->(Option T->P->Prop)->Prop}{xs:ZZ}{p:P}{Q:ZZ->P->Prop}(g:T->Option T)(St:P->Prop)(h0:St p)(st:∀x∈xs,∀p K,St p->(∀p',St p'->K (g x) p')->body x p K)(q:∀p,St p->Q (xs.filterMap g) p):Vs body xs [] p Q:=by
 refine Te (fun r acc p=>St p/\(∀x∈r,x∈xs)/\acc++r.filterMap g=xs.filterMap g) ⟨h0,fun _ m=>m,rfl⟩ (fun x r acc p K hi ky kn=>?_) fun acc p hi=>?_
 .obtain⟨h1,h2,h3⟩:=hi;refine st x (h2 x Vk) p K h1 fun p' h'=>?_;cases e:g x with
  | some y=>exact ky y p' ⟨h',fun y m=>h2 y (Vb _ m),by rw[XX];rw[List.filterMap_cons_some e]at h3;exact h3⟩
  | none=>exact kn p' ⟨h',fun y m=>h2 y (Vb _ m),by rw[List.filterMap_cons_none e]at h3;exact h3⟩
 .obtain⟨h1,_,h3⟩:=hi;rw[List.filterMap_nil,XQ]at h3;rw[h3];exact q p h1
theorem Rk(f:T->Bool):∀xs:ZZ,allB (xs.map fun x=>.bl (f x))=some (xs.map f)
 | []=>rfl
 | x::xs=>by show (allB (xs.map fun x=>.bl (f x))).map (f x::·)=_;rw[Rk f xs];rfl
theorem Hz{f:T->Bool}{xs:ZZ}{Q:Sl->Prop}(q:Q (.f (.bl (xs.all f)))):on ((allB (xs.map fun x=>.bl (f x))).map fun bs=>Sl.f (.bl (bs.all id))) Q:=Z2 (by rw[Rk];show some (Sl.f (.bl ((xs.map f).all id)))=_;rw[List.all_map];rfl) q
theorem anyP{f:T->Bool}{xs:ZZ}{Q:Sl->Prop}(q:Q (.f (.bl (xs.any f)))):on ((allB (xs.map fun x=>.bl (f x))).map fun bs=>Sl.f (.bl (bs.any id))) Q:=Z2 (by rw[Rk];show some (Sl.f (.bl ((xs.map f).any id)))=_;rw[List.any_map];rfl) q
def okK:Key->Prop
 | .inl i=>i.natAbs<=10 ^ 19
 | .inr x=>∀c∈x.cps.toList,c<16 ^ 8
def wtK:Key->Nat
 | .inl _=>70
 | .inr x=>x.length
mutual
def okT(n:Nat):T->Prop
 | .int i=>i.natAbs<=10 ^ 19
 | .str x=>∀c∈x.cps.toList,c<16 ^ 8
 | .tup ts=>ts.length<=n/\gj n ts
 | .lst ts=>ts.length<=n/\gj n ts
 | .dct XB=>ou n XB
 | .fn _=>False
 | .non=>True
 | .bl _=>True
def gj(n:Nat):ZZ->Prop
 | []=>True
 | t::r=>okT n t/\gj n r
def ou(n:Nat):ZX->Prop
 | []=>True
 | (k,t)::r=>okK k/\okT n t/\ou n r
end
mutual
noncomputable def cy:T->Nat
 | .int _=>70
 | .str x=>x.length
 | .tup ts=>Ey ts
 | .lst ts=>Ey ts
 | .dct XB=>Xq XB
 | .fn _=>0
 | .non=>0
 | .bl _=>0
noncomputable def Ey:ZZ->Nat
 | []=>0
 | t::r=>cy t+1+Ey r
noncomputable def Xq:ZX->Nat
 | []=>0
 | (k,t)::r=>wtK k+cy t+2+Xq r
end
mutual
noncomputable def dpT:T->Nat
 | .tup ts=>xf ts+1
 | .lst ts=>xf ts+1
 | .dct XB=>dg XB+1
 | _=>0
noncomputable def xf:ZZ->Nat
 | []=>0
 | t::r=>max (dpT t) (xf r)
noncomputable def dg:ZX->Nat
 | []=>0
 | (_,t)::r=>max (dpT t) (dg r)
end
theorem Tp{i:Int}(h:i.natAbs<=10 ^ 19):(if i == 0 then 0 else i.natAbs.log2+1)<=70/\i.natAbs.log2<1920:=by
 have:i.natAbs.log2<64:=by
  by_cases z:i.natAbs=0
  .rw[z];decide
  .exact(Nat.log2_lt z).mpr (Nat.lt_of_le_of_lt h (by decide))
 exact⟨by split<;>omega,by omega⟩
theorem lenS(s:String):(Str.ofString s).length=s.toList.length:=by
 rw[Str.ofString_eq_toList];simp[Str.length]
theorem W5{i:Int}(h:i.natAbs<=10 ^ 19):(PyData.shown (.int i)).length<=30:=by
 show (Str.ofString (toString i)).length<=30;have hb:i.natAbs<10 ^ 20:=Nat.lt_of_le_of_lt h (by decide);rw[lenS];have hd:(Nat.toDigits 10 i.natAbs).length<=20:=(Nat.length_toDigits_le_iff (by decide) (by decide)).mpr hb;cases i with
 | ofNat n =>
  show (Nat.repr n).toList.length<=30;rw[Nat.toList_repr];exact Uu hd (by decide)
 | negSucc n =>
  show ("-" ++ Nat.repr (n+1)).toList.length<=30;rw[String.toList_append,D7,Nat.toList_repr];have hd:(Nat.toDigits 10 (n+1)).length<=20:=hd;show 1+_<=30;omega
structure Shn(n:Nat)(t:T)(x:PyData):Prop where
 e:toPy t=some x
 s:x.showable=true
 l:x.leavesShort 30=true
 w:x.weight<=cy t
 d:x.depth=dpT t
theorem ir{k:Key}(h:okK k):(Ac k).showable=true/\(Ac k).leavesShort 30=true/\(Ac k).weight<=wtK k/\(Ac k).depth=0:=by
 cases k with
 | inl i=>exact⟨Bk (Tp h).2,Bk (W5 h),(Tp h).1,rfl⟩
 | inr x=>exact⟨rfl,qg.mpr fun c m=>Bk (h c m),Yz _,rfl⟩
mutual
theorem L7(n:Nat):∀t:T,okT n t->∃x,Shn n t x
 | .int i,h=>⟨.int i,rfl,Bk (Tp h).2,Bk (W5 h),(Tp h).1,rfl⟩
 | .str x,h=>⟨.str x,rfl,rfl,qg.mpr fun c m=>Bk (h c m),Yz _,rfl⟩
 | .non,_=>⟨.none,rfl,rfl,rfl,Yz _,rfl⟩
 | .bl b,_=>⟨.bool b,rfl,rfl,rfl,Yz _,rfl⟩
 | .fn _,h=>h.elim
 | .tup ts,h=>by
  obtain⟨xs,a,b,c,d,e⟩:=Cb n ts h.2;exact⟨.tuple xs,by show (V9 ts).map _=_;rw[a];rfl,b,c,d,by show PyData.depthAll xs+1=_;rw[e];rfl⟩
 | .lst ts,h=>by
  obtain⟨xs,a,b,c,d,e⟩:=Cb n ts h.2;exact⟨.list xs,by show (V9 ts).map _=_;rw[a];rfl,b,c,d,by show PyData.depthAll xs+1=_;rw[e];rfl⟩
 | .dct XB,h=>by
  obtain⟨xs,a,b,c,d,e⟩:=Pn n XB h;exact⟨.dict xs,by show (Dy XB).map _=_;rw[a];rfl,b,c,d,by show PyData.depthKv xs+1=_;rw[e];rfl⟩
theorem Cb(n:Nat):∀ts:ZZ,gj n ts->∃xs,V9 ts=some xs/\PyData.showableAll xs=true/\PyData.leavesShortAll 30 xs=true/\PyData.weightAll xs<=Ey ts/\PyData.depthAll xs=xf ts
 | [],_=>⟨[],rfl,rfl,rfl,Yz _,rfl⟩
 | t::ts,h=>by
  obtain⟨x,a1,b1,c1,d1,e1⟩:=L7 n t h.1;obtain⟨xs,a,b,c,d,e⟩:=Cb n ts h.2;refine⟨x::xs,by show (toPy t).bind _=_;rw[a1];show (V9 ts).map _=_;rw[a];rfl,by show (x.showable && _)=true;rw[b1,b];rfl,by show (x.leavesShort 30 && _)=true;rw[c1,c];rfl, ?_, ?_⟩
  .show x.weight+1+PyData.weightAll xs<=cy t+1+Ey ts;omega
  .show max x.depth (PyData.depthAll xs)=max (dpT t) (xf ts);rw[e1,e]
theorem Pn(n:Nat):∀ts:ZX,ou n ts->∃xs,Dy ts=some xs/\PyData.showableKv xs=true/\PyData.leavesShortKv 30 xs=true/\PyData.weightKv xs<=Xq ts/\PyData.depthKv xs=dg ts
 | [],_=>⟨[],rfl,rfl,rfl,Yz _,rfl⟩
 | (k,t)::ts,h=>by
  obtain⟨x,a1,b1,c1,d1,e1⟩:=L7 n t h.2.1;obtain⟨xs,a,b,c,d,e⟩:=Pn n ts h.2.2;obtain⟨k1,k2,k3,k4⟩:=ir h.1;refine⟨(Ac k,x)::xs,by show (toPy t).bind _=_;rw[a1];show (Dy ts).map _=_;rw[a];rfl,by show ((Ac k).showable && x.showable && _)=true;rw[k1,b1,b];rfl,by show ((Ac k).leavesShort 30 && x.leavesShort 30 && _)=true;rw[k2,c1,c];rfl, ?_, ?_⟩
  .show (Ac k).weight+x.weight+2+PyData.weightKv xs<=wtK k+cy t+2+Xq ts;omega
  .show max (max (Ac k).depth x.depth) (PyData.depthKv xs)=max (dpT t) (dg ts);rw[e1,e,k4,Nat.zero_max]
end
theorem rpT_ok{n:Nat}{t:T}(h:okT n t)(hw:cy t<=400000)(hd:dpT t<=100):∃z,rpT t=some z:=by
 obtain⟨x,e,s,l,w,d⟩:=L7 n t h;have:=PyData.shown_le 30 (by decide) x l;refine⟨x.shown, ?_⟩;unfold rpT;rw[e];show (if _ then _ else _)=_;rw[if_pos ⟨s,by rw[sizeLine_eq];omega,by rw[d];exact hd⟩]
theorem G7{a:ZZ}{lo hi:ZR}{t:T}(m:t∈Y4 a lo hi):t∈a:=List.mem_of_mem_drop (List.mem_of_mem_take m)
theorem Vv{ts:ZZ}{lo hi:ZR}:(Y4 ts lo hi).length<=ts.length:=by
 unfold Y4;rw[L0t,List.length_drop];omega
end PV
namespace PV
open PySem PySem.Spec PyProof.Rows L2 SRT
theorem le_int{a b:Int}:(!decide (b<a))=decide (a<=b):=by
 by_cases h:a<=b
 .rw[Bk h,Nf (by omega)];rfl
 .rw[Nf h,Bk (by omega)];rfl
theorem dh(a b:Int):Wz .le (.int a) (.int b)=some (decide (a<=b)):=by
 show some (!decide (b<a))=_;rw[le_int]
theorem c2P{a b c:Int}{Q:Sl->Prop}(q:Q (.f (.bl (decide (a<=b) && decide (b<=c))))):on (As (.c2 .le .le) [.int a,.int b,.int c]) Q:=by
 refine Z2 ?_ q;show ((Wz .le (.int a) (.int b)).bind fun r=>if r=true then (Wz .le (.int b) (.int c)).map fun r=>Sl.f (.bl r) else some (Sl.f (.bl false)))=_;rw[dh,dh];show (if decide (a<=b)=true then some (Sl.f (.bl (decide (b<=c)))) else _)=_;by_cases h:a<=b
 .rw[Bk h];rfl
 .rw[Nf h];rfl
theorem lenP{x:Str}{Q:Sl->Prop}(h:x.length<=sizeLine)(q:Q (.f (.int x.length))):on (As .len [.str x]) Q:=by
 have e:ib (.str x)=some x.length:=if_pos h;refine Z2 ?_ q;show ((ib (.str x)).bind fun a=>some (a:Int)).map (fun n=>Sl.f (.int n))=_;rw[e]
 rfl
theorem Zz8{x:Str}{Q:ZZ->Prop}(h:x.length<=sizeLine)(q:Q (x.cps.toList.map fun c=>.str ⟨#[c]⟩)):on (Mq (.str x)) Q:=Z2 (by show (if x.length<=sizeLine then some _ else none)=_;rw[if_pos h]) q
theorem ql{gl:Str->Option T}{x:Str}{t:T}{Q:T->Prop}(e:gl x=some t)(q:Q t):on (gl x) Q:=Z2 e q
theorem gf{b:Bool}(h:(!b)=true):b=false:=by
 cases b with
 | true=>cases h
 | false=>rfl
theorem Ph{b:Bool}(h:(!b)=false):b=true:=by
 cases b with
 | true=>rfl
 | false=>cases h
end PV
namespace PV
open PySem PySem.Spec PyProof.Rows L2
def Hi(K:W.Frag):Sp:=fun vs H Q _=>∃(a:Addr) (ns:ZL),vs=[.ref a]/\Jj K H a (ns.map V.int)/\ns.length<=63/\(∀T,wm=some T->Tb T H)/\∀H',Q (.bl true) H'
noncomputable def notList:Value->Bool
 | .type n=>!decide (n = "list")
 | _=>true
noncomputable def Kq(K:W.Frag):Bool:=K.all fun p=>notList p.2.cls
theorem lookup_mem{j:Type}{a:Addr}{o:j}:∀{K:List (Addr×j)},K.lookup a=some o->∃b,(b,o)∈K
 | [],h=>by cases h
 | (b,o')::K,h=>by
  rw[List.lookup_cons]at h
  split at h
  .cases h;exact⟨b,Vk⟩
  .obtain⟨c,m⟩:=lookup_mem h;exact⟨c,Vb _ m⟩
theorem rd_of{K:W.Frag}{H:Hp}{a:Addr}{vs:ZQ}(hK:Kq K=true)(h:Jj K H a vs):Rd H a (.lst vs):=by
 rcases h with h | ⟨o,its,n,lk,hc,_⟩
 .exact h
 .obtain⟨b,m⟩:=lookup_mem lk;have:=qg.mp hK _ m;rw[show ((b,o):Addr×Obj).2.cls=.type "list" from hc]at this;cases this
theorem Lj{K:W.Frag}{mg:ZV}{H F:Hp}:∀zs:ZL,Zq K mg H F (zs.map .int) (zs.map .int)
 | []=>rfl
 | z::zs=>⟨_,_,rfl,rfl,Lj zs⟩
theorem ic{K:W.Frag}{mg:ZV}{c:List Sl->Option (Sl×ZZ)}(hK:Kq K=true)(hc:∀zs:ZL,zs.length<=63->c [.f (.lst (zs.map .int))]=some (.f (.bl true),[])):∀vs H Q E,Hi K vs H Q E->spC K mg 1 c vs H Q E:=by
 intro vs H Q E h;obtain⟨a,ns,rfl,hS,hl,ht,hq⟩:=h;have rd:=rd_of hK hS;have sl:=sizeLine_eq;refine⟨rfl,fun b=>if b=a then H a else none,fun _=>none,_,_,hc ns hl,⟨⟨fun b o e=>?_,fun _ _ z=>(nomatch z),fun _ _=>rfl,fun T e=>⟨if_neg fun z=>?_,rfl,ht T e⟩⟩,fun i t e=>?_,fun i t e=>?_,fun i j t u b e _ _ _=>?_,rfl⟩,fun F' H' v l u r rs=>?_⟩
 .split at e
  .rename_i z;rw[z];exact e
  .cases e
 .obtain⟨ps,hp,_⟩:=ht T e;rw[z]at hp;rcases rd with r | ⟨o,r⟩<;>rw[hp]at r<;>cases r
 .match i,e with
  | 0,e =>
   cases e;refine⟨.ref a,rfl,a,ns.map .int,rfl, ?_,by rw[Z0];omega,Lj ns⟩;rcases rd with h | ⟨o,h⟩
   .exact .inl (by show (if a=a then H a else none)=_;rw[if_pos rfl];exact h)
   .exact .inr ⟨o,by show (if a=a then H a else none)=_;rw[if_pos rfl];exact h⟩
  | i+1,e=>simp at e
 .match i,e with
  | 0,e=>cases e
  | i+1,e=>simp at e
 .match i,e with
  | 0,e=>cases e
  | i+1,e=>simp at e
 .have:v=.bl true:=rs;rw[this];exact hq H'
theorem walkP'(no:∀T,wm≠some T){l:W.OpenLaw}{q:Program}{loose:ZD}{XP:(ZV)->Heap->Prop}{YP:World->Heap->Prop}{d:DefRec}{K:Params->W.Frag}{k:Nat}(hn:l.most=some 63)(hdf:d.params.defaults=[])(hr:V8 k callerA)
  (hY:∀(w:World) (h:Heap),YP w h->(K w.params).In h)
  (F:∀(w:World) (mg:ZV) (fa:Addr) (h:Heap),(K w.params).In h->h.Ns mainGlobals mg->mg d.name=some (.ref fa) ->
   ∃fd:FuncData,(∀(s:Shared) (u:Value),BindsTo s fd ⟨[u],[]⟩ [("_law_script",u)])/\∀base:Heap,(K w.params).In base->base.Ns mainGlobals mg->Gq l.prog w (K w.params) mg base qp k fa fd ["_law_script"] (Hi (K w.params))) :
  W.WalkO q loose XP YP l.row.toRowW d [] (fun f vs=>PySem.call f vs) :=
 L2.nu (n:=63) (k:=k) (x:="_law_script") (CX:=fun _=>qp) (sp:=fun w=>Hi (K w.params)) hn (by decide) hdf hr hY F (fun _ _ a ns hl _ hS=>⟨a,ns,rfl,hS,hl,fun T e=>absurd e (no T),fun _=>rfl⟩) fun _ _ _ _ _ z=>z
theorem funR{K:W.Frag}{x qual:Str}{st:Stmt}{f:Addr}{fd:FuncData}(F:Fun K x qual st f fd):cw K x qual st f fd fun _=>True:=let ⟨oc,od,kV,doc,pm,an,cdv,ct,osl,h⟩:=F.ex;⟨⟨oc,od,kV,doc,pm,an,cdv,ct,osl,trivial,h⟩,F.kp⟩
structure FA(K:W.Frag)(x:Str)(st:Stmt)(f:Addr)(fd:FuncData):Prop where
 a:W.nsIn K mainGlobals x=some (some (.ref f))
 F:Fun K x x st f fd
noncomputable def chk(N:ZD)(d:Df)(st:Stmt):Bool :=
 (match (Zj st).kind with | .function=>true | _=>false) && (!(Zj st).isCoroutine && (!(Zj st).isGenerator && (decide N.Nodup && (decide (N.take (N.take d.ar).length=N.take d.ar) && (((N.take d.ar).all fun x=>decide ((Zj st).names.lookup x=some .local) || decide ((Zj st).names.lookup x=some .cell)) && (((Zj st).names.all fun y=>!decide (y.2=.free)) && (decide (N.length=d.n) && (decide ((N.take d.ar).length=d.ar) && (decide ((N.take d.ar).length<=N.length) && Gz N (Zj st) d.code (Yw st))))))))))
theorem du{N:ZD}{d:Df}{st:Stmt}(h:chk N d st=true):J0 N (N.take d.ar) (Zj st)/\N.length=d.n/\(N.take d.ar).length=d.ar/\(N.take d.ar).length<=N.length/\Gz N (Zj st) d.code (Yw st)=true:=by
 unfold chk at h;simp only[Ya,decide_eq_true_eq]at h;obtain⟨h1,h2,h3,h4,h5,h6,h7,h8,h9,ee,h11⟩:=h;refine⟨⟨?_,by simpa using h2,by simpa using h3,h4,h5,fun x m=>?_,fun y m=>?_⟩,h8,h9,ee,h11⟩
 .split at h1
  .assumption
  .cases h1
 .have:=qg.mp h6 x m;simpa using this
 .have:=qg.mp h7 y m;simpa using this
theorem FA.fc{K:W.Frag}{mg:ZV}{h:Heap}{x:Str}{st:Stmt}{f:Addr}{fd:FuncData}{d:Df}{N:ZD}(A:FA K x st f fd)(X:K.In h)(G:h.Ns mainGlobals mg)(hc:chk N d st=true)(hx:(Zj st).names≠Cr)
  (hb:∀(kV doc pm:Value) (an:ZP) (cdv ct:Value) (us:ZM),us.length=(N.take d.ar).length->bindArgs (W.fnOf x x (Uy st) (Yw st) (Zj st) .none kV doc pm an cdv ct) ⟨us,[]⟩=pure ((N.take d.ar).zip us)):Gh K mg x d :=
 let ⟨S,hn,ha,hl,hr⟩:=du hc
 ⟨⟨st,f,fd,N,N.take d.ar,fun _=>True,(funR A.F),fun z=>absurd z hx,W.mg_of X G A.a,S,hn,ha,hl,hr,A.F.binds hb⟩⟩
def FC(x:Str)(st:Stmt)(d:Df):Prop:=∀{K:W.Frag} {mg:ZV} {h:Heap} {f:Addr} {fd:FuncData},K.In h->h.Ns mainGlobals mg->FA K x st f fd->Gh K mg x d
theorem tab_of{K:W.Frag}{mg:ZV}{L:List (Str×Df)}(h:∀p∈L,Gh K mg p.1 p.2)(f:Str)(d:Df)(e:((L.find? fun p=>decide (p.1=f)).map (·.2))=some d):Gh K mg f d:=by
 obtain⟨p,hp,rfl⟩:=Z4.mp e;have t:=List.find?_some hp;have this:p.1=f:=S8 t;have q:=h p (List.mem_of_find?_eq_some hp);rw[this]at q;exact q
theorem usS{n:Nat}{us:ZM}(h:us.length=n+1):∃a r,us=a::r/\r.length=n:=by
 cases us with
 | nil=>cases h
 | cons a r=>exact⟨a,r,rfl,Nat.succ.inj h⟩
theorem us0{us:ZM}(h:us.length=0):us=[]:=List.eq_nil_of_length_eq_zero h
theorem Qa{us:ZM}(h:us.length=1):∃a,us=[a]:=by
 obtain⟨a,r,rfl,g⟩:=usS h;cases us0 g;exact⟨a,rfl⟩
theorem Eb{us:ZM}(h:us.length=2):∃a b,us=[a,b]:=by
 obtain⟨a,r,rfl,g⟩:=usS h;obtain⟨b,rfl⟩:=Qa g;exact⟨a,b,rfl⟩
theorem l7{us:ZM}(h:us.length=3):∃a b c,us=[a,b,c]:=by
 obtain⟨a,r,rfl,g⟩:=usS h;obtain⟨b,c,rfl⟩:=Eb g;exact⟨a,b,c,rfl⟩
theorem us4{us:ZM}(h:us.length=4):∃a b c d,us=[a,b,c,d]:=by
 obtain⟨a,r,rfl,g⟩:=usS h;obtain⟨b,c,d,rfl⟩:=l7 g;exact⟨a,b,c,d,rfl⟩
theorem us5{us:ZM}(h:us.length=5):∃a b c d e,us=[a,b,c,d,e]:=by
 obtain⟨a,r,rfl,g⟩:=usS h;obtain⟨b,c,d,e,rfl⟩:=us4 g;exact⟨a,b,c,d,e,rfl⟩
end PV
namespace K56
open PySem PySem.Spec PyProof.Rows L2 PV
def K3:S:=(Z8 (.ret (.and (.pr (.isi .int) (Zp (.v 0))) (.and (.not (.pr (.isi .bool) (Zp (.v 0)))) (.pr (.c2 .le .le) (Dk (.v 1) (.v 0) (.v 2)))))))
def Vw:Df:=⟨3,3,K3⟩
def Tz:S:=(Z8 (.ret (.call "is_whole" (Dk (.v 0) (.pr .neg (Zp (.g "GREATEST_WHOLE"))) (.g "GREATEST_WHOLE")))))
def Yh:Df:=⟨1,1,Tz⟩
def Sy:S:=(Z8 (.ret (.call "is_whole" (Dk (.v 0) (ki 1) (.g "GREATEST_NUMBER")))))
def Ul:Df:=⟨1,1,Sy⟩
noncomputable def x5:S:=(Z8 (.ret (.and (.pr (.isi .str) (Zp (.v 0))) (.and (.pr (.cm .le) (Zv (G0 (.v 0)) (.v 1))) (.pr .all (Zp (.comp (.v 0) (.v 0) .nil (.pr (.cm .isin) (Zv (.v 0) (.g "SIGNS"))) [none] ["sign"])))))))
def G1:Df:=⟨2,2,x5⟩
noncomputable def x6:S:=(.seq (.ite (.or (.not (.pr (.isi .str) (Zp (.v 0)))) (.not (.pr (.c2 .le .le) (Dk (ki 1) (G0 (.v 0)) (.g "LONGEST_NAME")))))
    (Z8 (.ret (.k (.bl false))))
    .nil)
   (.seq (.ret (.pr .all (Zp (.comp (.v 0) (.v 0) .nil (.pr (.cm .isin) (Zv (.v 0) (.g "LETTERS"))) [none] ["sign"]))))
   .nil))
def G2:Df:=⟨1,1,x6⟩
noncomputable def Zzr:S:=(Z8 (.ret (.pr .all (Zp (.comp (.tup (Zv (.v 0) (.v 1))) (.itr .zip (Zv (.v 0) (.pr (.sl true false) (Zv (.v 0) (ki 1))))) .nil (.pr (.cm .lt) (Zv (.v 0) (.v 1))) [none,none] ["one","other"])))))
def M6:Df:=⟨1,1,Zzr⟩
noncomputable def K4:S:=(.seq (.ite (.or (.not (.pr (.isi .tuple) (Zp (.v 0)))) (Vg (G0 (.v 0)) (ki 0)))
    (Z8 (.ret (.k (.bl false))))
    .nil)
   (.seq (.set 1 (Zt (.v 0) (ki 0)))
   (.seq (.ite (Vg (.v 1) (ks "whole"))
    (Z8 (.ret (.and (Vg (G0 (.v 0)) (ki 3)) (.call "are_bounds" (Zv (Zt (.v 0) (ki 1)) (Zt (.v 0) (ki 2)))))))
    .nil)
   (.seq (.ite (Vg (.v 1) (ks "truth"))
    (Z8 (.ret (Vg (G0 (.v 0)) (ki 1))))
    .nil)
   (.seq (.ite (Vg (.v 1) (ks "text"))
    (Z8 (.ret (.and (Vg (G0 (.v 0)) (ki 2)) (.call "is_whole" (Dk (Zt (.v 0) (ki 1)) (ki 0) (.g "LONGEST_TEXT"))))))
    .nil)
   (.seq (.ite (.or (Vg (.v 1) (ks "row")) (Vg (.v 1) (ks "map")))
    (Z8 (.ret (.and (Vg (G0 (.v 0)) (ki 3)) (.and (.call "is_name" (Zp (Zt (.v 0) (ki 1)))) (.call "is_whole" (Dk (Zt (.v 0) (ki 2)) (ki 0) (.g "MOST_PARTS")))))))
    .nil)
   (.seq (.ite (Vg (.v 1) (ks "record"))
    (Z8 (.ret (.and (Vg (G0 (.v 0)) (ki 3)) (.call "are_members" (Dk (Zt (.v 0) (ki 1)) (Zt (.v 0) (ki 2)) (.g "is_field"))))))
    .nil)
   (.seq (.ite (Vg (.v 1) (ks "choice"))
    (Z8 (.ret (.and (Vg (G0 (.v 0)) (ki 4)) (.and (.call "are_members" (Dk (Zt (.v 0) (ki 1)) (Zt (.v 0) (ki 2)) (.g "is_arm"))) (.pr (.isi .bool) (Zp (Zt (.v 0) (ki 3))))))))
    .nil)
   (.seq (.ret (.k (.bl false)))
   .nil)))))))))
def Ja:Df:=⟨2,1,K4⟩
def Qy:S:=(Z8 (.ret (.and (.call "is_item_whole" (Zp (.v 0))) (.and (.call "is_item_whole" (Zp (.v 1))) (.pr (.cm .le) (Zv (.v 0) (.v 1)))))))
def Ve:Df:=⟨2,2,Qy⟩
noncomputable def Ww:S:=(.seq (.ite (.or (.not (.call "is_short_tuple" (Zp (.v 0)))) (.not (.pr .all (Zp (.comp (.v 0) (.v 0) .nil (.cal 1 (Zp (.v 0))) [none,some 2] ["member","is_member"])))))
    (Z8 (.ret (.k (.bl false))))
    .nil)
   (.seq (.set 3 (.comp (.v 0) (.v 0) .nil (Zt (.v 0) (ki 0)) [none] ["member"]))
   (.seq (.set 4 (.comp (.v 0) (.v 0) .nil (Zt (.v 0) (ki 1)) [none] ["member"]))
   (.seq (.ret (.and (.call "rises" (Zp (.v 3))) (.and (Vg (.pr .lset (Zp (.v 4))) (G0 (.v 4))) (.call "is_struck" (Zv (.v 1) (.v 3))))))
   .nil))))
def Yl:Df:=⟨5,3,Ww⟩
noncomputable def Sv:S:=(.seq (.ite (.or (.not (.call "is_short_tuple" (Zp (.v 0)))) (.not (.pr .all (Zp (.comp (.v 0) (.v 0) .nil (.call "is_number" (Zp (.v 0))) [none] ["number"])))))
    (Z8 (.ret (.k (.bl false))))
    .nil)
   (.seq (.ret (.and (.call "rises" (Zp (.v 0))) (.not (.pr .any (Zp (.comp (.v 0) (.v 0) .nil (.pr (.cm .isin) (Zv (.v 0) (.v 1))) [none,some 1] ["number","taken"]))))))
   .nil))
def Uc:Df:=⟨2,2,Sv⟩
def Bx:S:=(Z8 (.ret (.and (.pr (.isi .tuple) (Zp (.v 0))) (.pr (.cm .le) (Zv (G0 (.v 0)) (.g "MOST_FIELDS"))))))
def Yt:Df:=⟨1,1,Bx⟩
noncomputable def K5:S:=(Z8 (.ret (.and (.pr (.isi .tuple) (Zp (.v 0))) (.and (Vg (G0 (.v 0)) (ki 4)) (.and (.call "is_arm" (Zp (.pr (.sl false true) (Zv (.v 0) (ki 3))))) (.call "is_default" (Zp (Zt (.v 0) (ki 3)))))))))
def Jo:Df:=⟨1,1,K5⟩
def Qv:S:=(Z8 (.ret (.and (.pr (.isi .tuple) (Zp (.v 0))) (.pr (.cm .le) (Zv (G0 (.v 0)) (ki 1))))))
def Vi:Df:=⟨1,1,Qv⟩
noncomputable def t4:S:=(.seq (.ite (.or (.not (.pr (.isi .tuple) (Zp (.v 0)))) (.pr (.cm .ne) (Zv (G0 (.v 0)) (ki 3))))
    (Z8 (.ret (.k (.bl false))))
    .nil)
   (.seq (.ret (.and (.call "is_number" (Zp (Zt (.v 0) (ki 0)))) (.and (.call "is_name" (Zp (Zt (.v 0) (ki 1)))) (.call "is_name" (Zp (Zt (.v 0) (ki 2)))))))
   .nil))
def M8:Df:=⟨1,1,t4⟩
noncomputable def Nq:S:=(.seq (.ite (Vg (Zt (.v 0) (ki 0)) (ks "whole"))
    (Z8 (.ret (.call "is_whole" (Dk (.v 1) (Zt (.v 0) (ki 1)) (Zt (.v 0) (ki 2))))))
    .nil)
   (.seq (.ite (Vg (Zt (.v 0) (ki 0)) (ks "truth"))
    (Z8 (.ret (.pr (.isi .bool) (Zp (.v 1)))))
    .nil)
   (.seq (.ret (.and (Vg (Zt (.v 0) (ki 0)) (ks "text")) (.call "is_text" (Zv (.v 1) (Zt (.v 0) (ki 1))))))
   .nil)))
def Yv:Df:=⟨2,2,Nq⟩
noncomputable def O9:S:=(.seq (.loop (.v 2) (Zt (.v 0) (ki 1))
    (Z8 (.ite (Vg (Zt (.v 2) (ki 0)) (.v 1))
    (Z8 (.ret (.mv 2)))
    .nil)))
   (.seq (.ret (.k .non))
   .nil))
def Uk:Df:=⟨3,2,O9⟩
noncomputable def x8:S:=(.seq (.ite (.or (.not (.pr (.isi .tuple) (Zp (.v 0)))) (.pr (.cm .ne) (Zv (G0 (.v 0)) (ki 2))))
    (Z8 (.ret (.k (.bl false))))
    .nil)
   (.seq (.set 1 (Zt (.v 0) (ki 0)))
   (.seq (.set 2 (Zt (.v 0) (ki 1)))
   (.seq (.ite (.or (.not (.call "are_forms" (Zp (.v 2)))) (.or (.not (.call "is_name" (Zp (.v 1)))) (.pr (.cm .notin) (Zv (.v 1) (.v 2)))))
    (Z8 (.ret (.k (.bl false))))
    .nil)
   (.seq (.ret (.pr .all (Zp (.comp (.v 0) (.itr .vls (Zp (.v 2))) .nil (.call "fits_in" (Zv (.v 0) (.v 1))) [none,some 2] ["shape","forms"]))))
   .nil)))))
def G3:Df:=⟨3,1,x8⟩
def qz:S:=(Z8 (.ret (.pr .get1 (Zv (Zt (.v 0) (ki 1)) (.v 1)))))
def G5:Df:=⟨2,2,qz⟩
noncomputable def Sk:S:=(.seq (.ite (.or (.not (.pr (.isi .dict) (Zp (.v 0)))) (.not (.pr (.c2 .le .le) (Dk (ki 1) (G0 (.v 0)) (.g "MOST_FORMS")))))
    (Z8 (.ret (.k (.bl false))))
    .nil)
   (.seq (.ret (.pr .all (Zp (.comp (.tup (Zv (.v 0) (.v 1))) (.itr .its (Zp (.v 0))) .nil (.and (.call "is_name" (Zp (.v 0))) (.call "is_shape" (Zp (.v 1)))) [none,none] ["name","shape"]))))
   .nil))
def Ur:Df:=⟨1,1,Sk⟩
noncomputable def qx:S:=(.seq (.ite (.not (.pr .all (Zp (.comp (.v 0) (.call "ofs_of" (Zp (.v 0))) .nil (.pr (.cm .isin) (Zv (.v 0) (.v 1))) [none,some 1] ["of","forms"]))))
    (Z8 (.ret (.k (.bl false))))
    .nil)
   (.seq (.ret (.or (.pr (.cm .ne) (Zv (Zt (.v 0) (ki 0)) (ks "record"))) (.pr .all (Zp (.comp (.v 0) (Zt (.v 0) (ki 1)) .nil (.call "fits_default" (Zv (.v 0) (.v 1))) [none,some 1] ["field","forms"])))))
   .nil))
def G6:Df:=⟨2,2,qx⟩
noncomputable def tu:S:=(.seq (.ite (.or (Vg (Zt (.v 0) (ki 0)) (ks "row")) (Vg (Zt (.v 0) (ki 0)) (ks "map")))
    (Z8 (.ret (.lst (Zp (Zt (.v 0) (ki 1))))))
    .nil)
   (.seq (.ite (.or (Vg (Zt (.v 0) (ki 0)) (ks "record")) (Vg (Zt (.v 0) (ki 0)) (ks "choice")))
    (Z8 (.ret (.comp (.v 0) (Zt (.v 0) (ki 1)) .nil (Zt (.v 0) (ki 2)) [none] ["member"])))
    .nil)
   (.seq (.ret (.lst .nil))
   .nil)))
def M7:Df:=⟨1,1,tu⟩
noncomputable def Rq:S:=(.seq (.set 2 (Zt (.v 0) (ki 3)))
   (.seq (.set 3 (Zt (.v 1) (Zt (.v 0) (ki 2))))
   (.seq (.ite (Vg (.v 2) (.tup .nil))
    (Z8 (.ret (.k (.bl true))))
    .nil)
   (.seq (.ite (.or (Vg (Zt (.v 3) (ki 0)) (ks "row")) (Vg (Zt (.v 3) (ki 0)) (ks "map")))
    (Z8 (.ret (Vg (.v 2) (.tup (Zp (.tup .nil))))))
    .nil)
   (.seq (.ret (.call "is_single_value" (Zv (.v 3) (Zt (.v 2) (ki 0)))))
   .nil)))))
def Y3:Df:=⟨4,2,Rq⟩
noncomputable def Sw:S:=(Z8 (.ret (.pr .all (Zp (.comp (.tup (Zv (.v 0) (.v 1))) (Zt (.v 2) (ki 0)) .nil (.call "has_all" (Zv (.call "form_of" (Zv (.v 2) (.v 0))) (.call "form_of" (Zv (.v 3) (.v 1))))) [none,none,some 0,some 1] ["w","m","make","other"])))))
def Ut:Df:=⟨3,3,Sw⟩
noncomputable def x9:S:=(.seq (.ite (.or (.pr (.cm .ne) (Zv (Zt (.v 0) (ki 0)) (Zt (.v 1) (ki 0)))) (.pr (.cm .notin) (Zv (Zt (.v 0) (ki 0)) (.tup (Zv (ks "record") (ks "choice"))))))
    (Z8 (.ret (.k (.bl true))))
    .nil)
   (.seq (.ret (.pr .all (Zp (.comp (.v 0) (Zt (.v 0) (ki 1)) .nil (.pr (.cm .isnt) (Zv (.call "member_of" (Zv (.v 1) (Zt (.v 0) (ki 0)))) (.k .non))) [none,some 1] ["member","other_shape"]))))
   .nil))
def G4:Df:=⟨2,2,x9⟩
def K0:S:=(Z8 (.ret (.lst (Dk (.v 0) (ki 0) (ki 0)))))
def Jl:Df:=⟨1,1,K0⟩
noncomputable def Yu:S:=(.seq (.ite (Vg (Zt (.v 0) (ki 2)) (ki 0))
    (.seq (.set 2 (Zt (.v 0) (ki 1)))
   (.seq (.put 0 (ki 1) (M0 (.v 2) (ki 1)))
   (.seq (.set 3 (.v 2))
   (.seq (.ite (.pr (.cm .gt) (Zv (G0 (Zt (.v 0) (ki 0))) (ki 0)))
    (Z8 (.set 3 (Zt (Zt (.v 0) (ki 0)) (.pr (.op .mod) (Zv (.v 2) (G0 (Zt (.v 0) (ki 0))))))))
    .nil)
   (.seq (.ite (.or (.pr (.cm .lt) (Zv (.v 3) (.pr (.op .pow) (Zv (ki 10) (ki 18))))) (.pr (.cm .ge) (Zv (.v 2) (G0 (Zt (.v 0) (ki 0))))))
    (.seq (.set 4 (.pr (.op .mod) (Zv (.pr (.op .mul) (Zv (M0 (.pr (.op .mod) (Zv (.v 3) (ki 1000003))) (ki 1)) (M0 (ki 48271) (.pr (.op .mul) (Zv (ki 2) (.pr (.op .mod) (Zv (.v 2) (ki 997)))))))) (ki 2147483647))))
   (.seq (.ret (.pr (.op .mod) (Zv (.pr (.op .fdiv) (Zv (.pr (.op .mod) (Zv (.pr (.op .mul) (Zv (M0 (.v 4) (.pr (.op .mul) (Zv (ki 104729) (.v 2)))) (ki 69621))) (ki 2147483629))) (ki 7))) (.v 1))))
   .nil))
    .nil)
   (.seq (.put 0 (ki 2) (.v 3))
   .nil))))))
    .nil)
   (.seq (.set 5 (.pr (.op .mod) (Zv (Zt (.v 0) (ki 2)) (.v 1))))
   (.seq (.put 0 (ki 2) (.pr (.op .fdiv) (Zv (Zt (.v 0) (ki 2)) (.v 1))))
   (.seq (.ret (.mv 5))
   .nil))))
def Ju:Df:=⟨6,2,Yu⟩
noncomputable def Sx:S:=(.seq (.ite (Vg (.v 1) (ks "whole"))
    (.seq (.set 3 (Zt (.lst (.cons (ki 0) (.cons (ki 0) (.cons (.pr .neg (Zp (ki 1))) (.cons (ki 5) (.cons (.pr .neg (Zp (.pr (.op .pow) (Zv (ki 10) (ki 18))))) (.cons (.pr (.op .sub) (Zv (.pr (.op .pow) (Zv (ki 10) (ki 18))) (ki 1))) .nil))))))) (.call "_law_draw" (Zv (.io 0) (ki 6)))))
   (.seq (.ret (.tup (Dk (ks "whole") (.v 3) (.pr .min (Zv (.pr (.op .pow) (Zv (ki 10) (ki 18))) (M0 (.v 3) (Zt (.lst (ro4 (ki 0) (ki 1) (ki 9) (.pr (.op .pow) (Zv (ki 10) (ki 18))))) (.call "_law_draw" (Zv (.io 0) (ki 4))))))))))
   .nil))
    .nil)
   (.seq (.ite (Vg (.v 1) (ks "truth"))
    (Z8 (.ret (.tup (Zp (ks "truth")))))
    .nil)
   (.seq (.ite (Vg (.v 1) (ks "text"))
    (Z8 (.ret (.tup (Zv (ks "text") (Zt (.lst (ro4 (ki 0) (ki 1) (ki 2) (ki 200))) (.call "_law_draw" (Zv (.io 0) (ki 4))))))))
    .nil)
   (.seq (.ret (.tup (Dk (.v 1) (Zt (.v 2) (.call "_law_draw" (Zv (.io 0) (G0 (.v 2))))) (Zt (.lst (ro4 (ki 0) (ki 1) (ki 2) (ki 20))) (.call "_law_draw" (Zv (.io 0) (ki 4)))))))
   .nil))))
def Ub:Df:=⟨4,3,Sx⟩
noncomputable def Wj:S:=(.seq (.ite (Vg (Zt (.v 1) (ki 0)) (ks "whole"))
    (Z8 (.ret (M0 (Zt (.v 1) (ki 1)) (.call "_law_draw" (Zv (.io 0) (.pr .min (Zv (ki 3) (M0 (.pr (.op .sub) (Zv (Zt (.v 1) (ki 2)) (Zt (.v 1) (ki 1)))) (ki 1)))))))))
    .nil)
   (.seq (.ite (Vg (Zt (.v 1) (ki 0)) (ks "truth"))
    (Z8 (.ret (Vg (.call "_law_draw" (Zv (.io 0) (ki 2))) (ki 1))))
    .nil)
   (.seq (.ite (Vg (Zt (.v 1) (ki 0)) (ks "text"))
    (Z8 (.ret (.pr (.op .mul) (Zv (ks "a") (.call "_law_draw" (Zv (.io 0) (.pr .min (Zv (ki 3) (M0 (Zt (.v 1) (ki 1)) (ki 1))))))))))
    .nil)
   (.seq (.ret (.tup .nil))
   .nil))))
def Vf:Df:=⟨2,2,Wj⟩
noncomputable def Rz:S:=(.seq (.set 5 (.lst (.cons (ks "a") (.cons (ks "ab") (.cons (ks "abc") (.cons (ks "form") (.cons (ks "x") (.cons (ks "xx") (.cons (ks "must") (.cons (ks "none") (.cons (ks "rowa") .nil)))))))))))
   (.seq (.set 5 (Zt (.v 5) (.pr .idx (Zv (.lst (.cons (ki 1) (.cons (ki 2) (.cons (ki 3) (.cons (ki 9) (.cons (ki 10) (.cons (ki 99) (.cons (ki 100) (.cons (ki 999) (.cons (ki 500) .nil)))))))))) (.v 2)))))
   (.seq (.set 6 (Zt (.v 4) (.call "_law_draw" (Zv (.io 0) (G0 (.v 4))))))
   (.seq (.ite (Vg (.v 1) (ks "choice"))
    (Z8 (.ret (.tup (Dk (.v 2) (.v 5) (.v 6)))))
    .nil)
   (.seq (.ite (.pr (.cm .gt) (Zv (.v 2) (ki 1)))
    (Z8 (.set 6 (Zt (.pr .sorted (Zp (.v 3))) (.call "_law_draw" (Zv (.io 0) (G0 (.v 3)))))))
    .nil)
   (.seq (.ite (.and (.pr (.cm .isin) (Zv (.v 6) (.v 3))) (.pr (.cm .gt) (Zv (.call "_law_draw" (Zv (.io 0) (ki 4))) (ki 0))))
    (Z8 (.ret (.tup (ro4 (.v 2) (.v 5) (.v 6) (.tup (Zp (.call "_law_default" (Zv (.io 0) (Zt (.v 3) (.v 6))))))))))
    .nil)
   (.seq (.ret (.tup (ro4 (.v 2) (.v 5) (.v 6) (.tup .nil))))
   .nil)))))))
def Jr:Df:=⟨7,5,Rz⟩
noncomputable def Ji:S:=(.seq (.set 4 (.lst (.cons (ki 1) (.cons (ki 2) (.cons (ki 3) (.cons (ki 9) (.cons (ki 10) (.cons (ki 99) (.cons (ki 100) (.cons (ki 999) .nil))))))))))
   (.seq (.set 5 (.call "_law_draw" (Zv (.io 0) (ki 8))))
   (.seq (.set 4 (.pr (.sl false true) (Zv (M0 (.pr (.sl true false) (Zv (.v 4) (.v 5))) (.pr (.sl false true) (Zv (.v 4) (.v 5)))) (.call "_law_draw" (Zv (.io 0) (ki 8))))))
   (.seq (.set 6 (.pr .max (Zv (ki 0) (.pr (.op .sub) (Zv (G0 (.v 4)) (Zt (.lst (ro4 (ki 0) (ki 0) (ki 1) (ki 2))) (.call "_law_draw" (Zv (.io 0) (ki 4)))))))))
   (.seq (.set 7 (.comp (.v 0) (.pr .sorted (Zp (.pr (.sl false true) (Zv (.v 4) (.v 6))))) .nil (.call "_law_part" (.cons (.io 1) (.cons (.v 2) (.cons (.v 0) (.cons (.v 3) (.cons (.v 4) .nil)))))) [none,some 0,some 1,some 2,some 3] ["_law_number","_law_tape_here","_law_sort","_law_plain_here","_law_names"]))
   (.seq (.set 8 (.tup (Dk (.v 1) (.pr .tuple (Zp (.v 7))) (.pr .tuple (Zp (.pr .sorted (Zp (.pr (.sl true false) (Zv (.v 4) (.v 6))))))))))
   (.seq (.ret (.ite (Vg (.v 1) (ks "record")) (.v 8) (M0 (.v 8) (.tup (Zp (Vg (.call "_law_draw" (Zv (.io 0) (ki 2))) (ki 0)))))))
   .nil)))))))
def Vo:Df:=⟨9,4,Ji⟩
noncomputable def Qw:S:=(.seq (.set 1 (.pr .dnew .nil))
   (.seq (.loop (.v 2) (.v 0)
    (Z8 (.ite (.pr (.cm .notin) (Zv (Zt (Zt (.v 0) (.v 2)) (ki 0)) (.lst (Zv (ks "record") (ks "choice")))))
    (Z8 (.put 1 (.v 2) (Zt (.v 0) (.v 2))))
    .nil)))
   (.seq (.ret (.mv 1))
   .nil)))
def Va:Df:=⟨3,1,Qw⟩
noncomputable def Rx:S:=(.seq (.set 1 (.lst (.cons (ks "a") (.cons (ks "ab") (.cons (ks "b") (.cons (ks "make") (.cons (ks "form") (.cons (ks "row") (.cons (ks "rows") (.cons (ks "text") (.cons (ks "must") (.cons (ks "none") (.cons (ks "abcdefgh") (.cons (ks "x") (.cons (ks "xx") (.cons (ks "arm") .nil))))))))))))))))
   (.seq (.set 2 (.call "_law_draw" (Zv (.io 0) (ki 14))))
   (.seq (.set 3 (.pr (.sl false true) (Zv (M0 (.pr (.sl true false) (Zv (.v 1) (.v 2))) (.pr (.sl false true) (Zv (.v 1) (.v 2)))) (M0 (ki 2) (.call "_law_draw" (Zv (.io 0) (ki 5)))))))
   (.seq (.set 4 (.lst (.cons (ks "record") (.cons (ks "choice") (.cons (ks "whole") (.cons (ks "record") (.cons (ks "choice") (.cons (ks "truth") (.cons (ks "text") (.cons (ks "row") (.cons (ks "map") .nil)))))))))))
   (.seq (.set 5 (.pr .dct1 (Zv (Zt (.v 3) (ki 0)) (.call "_law_plain" (Dk (.io 0) (Zt (.lst (ro4 (ks "whole") (ks "truth") (ks "text") (ks "row"))) (.call "_law_draw" (Zv (.io 0) (ki 4)))) (.v 3))))))
   (.seq (.set 6 (.lst .nil))
   (.seq (.loop (.v 7) (.pr (.sl true false) (Zv (.v 3) (ki 1)))
    (.seq (.set 8 (Zt (.v 4) (.call "_law_draw" (Zv (.io 0) (ki 9)))))
   (.seq (.ite (.or (Vg (.v 8) (ks "record")) (Vg (.v 8) (ks "choice")))
    (Z8 (.ex (.mt .append 6 (Zp (.tup (Zv (.v 7) (.v 8)))))))
    (Z8 (.put 5 (.v 7) (.call "_law_plain" (Dk (.io 0) (.v 8) (.v 3))))))
   .nil)))
   (.seq (.set 9 (.pr .dict (Zp (.v 5))))
   (.seq (.loop (.tup (Zv (.v 7) (.v 8))) (.v 6)
    (Z8 (.put 5 (.v 7) (.call "_law_parted" (ro4 (.io 0) (.v 8) (.v 9) (.v 3))))))
   (.seq (.ret (.tup (Zv (Zt (.v 3) (.call "_law_draw" (Zv (.io 0) (G0 (.v 3))))) (.v 5))))
   .nil))))))))))
def Jp:Df:=⟨10,1,Rx⟩
noncomputable def Sj:S:=(.seq (.ite (.or (.pr (.isi .tuple) (Zp (.v 0))) (.pr (.isi .list) (Zp (.v 0))))
    (.seq (.ite (.pr (.cm .ne) (Zv (.pr (.isi .tuple) (Zp (.v 0))) (.pr (.isi .tuple) (Zp (.v 1)))))
    (Z8 (.ret (.k (.bl false))))
    .nil)
   (.seq (.ite (.pr (.cm .ne) (Zv (.pr (.isi .list) (Zp (.v 0))) (.pr (.isi .list) (Zp (.v 1)))))
    (Z8 (.ret (.k (.bl false))))
    .nil)
   (.seq (.ite (.pr (.cm .ne) (Zv (G0 (.v 0)) (G0 (.v 1))))
    (Z8 (.ret (.k (.bl false))))
    .nil)
   (.seq (.ret (.pr .all (Zp (.comp (.v 0) (.itr .rng (Zp (G0 (.v 0)))) .nil (.call "_law_alike" (Zv (Zt (.v 1) (.v 0)) (Zt (.v 2) (.v 0)))) [none,some 0,some 1] ["_law_k","_law_due","_law_found"]))))
   .nil))))
    .nil)
   (.seq (.ite (.pr (.cm .is) (Zv (.v 0) (.k .non)))
    (Z8 (.ret (.pr (.cm .is) (Zv (.v 1) (.k .non)))))
    .nil)
   (.seq (.ite (.pr (.isi .str) (Zp (.v 0)))
    (Z8 (.ret (.and (.pr (.isi .str) (Zp (.v 1))) (Vg (.v 1) (.v 0)))))
    .nil)
   (.seq (.ite (.pr (.isi .bool) (Zp (.v 0)))
    (Z8 (.ret (.and (.pr (.isi .bool) (Zp (.v 1))) (Vg (.v 1) (.v 0)))))
    .nil)
   (.seq (.ret (.and (.pr (.isi .int) (Zp (.v 1))) (.and (.not (.pr (.isi .bool) (Zp (.v 1)))) (Vg (.v 1) (.v 0)))))
   .nil)))))
def Ud:Df:=⟨2,2,Sj⟩
noncomputable def K2:S:=(.seq (.set 2 (.pr (.op .sub) (Zv (.call "_law_draw" (Zv (.io 0) (ki 4))) (ki 1))))
   (.seq (.ite (Vg (Zt (.v 1) (ki 0)) (ks "truth"))
    (Z8 (.ret (.tup (Dk (ks "whole") (ki 0) (M0 (ki 1) (.v 2))))))
    .nil)
   (.seq (.ite (Vg (Zt (.v 1) (ki 0)) (ks "whole"))
    (Z8 (.ret (.tup (Dk (ks "whole") (.pr (.op .sub) (Zv (Zt (.v 1) (ki 1)) (.v 2))) (.pr (.op .sub) (Zv (M0 (Zt (.v 1) (ki 2)) (.call "_law_draw" (Zv (.io 0) (ki 4)))) (ki 1)))))))
    .nil)
   (.seq (.ret (M0 (.pr (.sl false true) (Zv (.v 1) (.pr .neg (Zp (ki 1))))) (.tup (Zp (M0 (Zt (.v 1) (.pr .neg (Zp (ki 1)))) (.v 2))))))
   .nil))))
def Jh:Df:=⟨3,2,K2⟩
noncomputable def Yc:S:=(.seq (.set 2 (.pr .sorted (Zp (Zt (.v 1) (ki 1)))))
   (.seq (.set 3 (Zt (.v 2) (.call "_law_draw" (Zv (.io 0) (G0 (.v 2))))))
   (.seq (.set 4 (Zt (Zt (.v 1) (ki 1)) (.v 3)))
   (.seq (.set 5 (.pr .dict (Zp (Zt (.v 1) (ki 1)))))
   (.seq (.set 6 (.tmp (.call "_law_plains" (Zp (.v 5)))))
   (.seq (.set 7 (.call "_law_draw" (Zv (.io 0) (ki 8))))
   (.seq (.ite (.pr (.cm .isin) (Zv (.v 3) (.v 6)))
    (Z8 (.put 5 (.v 3) (.ite (.pr (.cm .gt) (Zv (.v 7) (ki 1))) (.call "_law_near" (Zv (.io 0) (.v 4))) (.call "_law_plain" (Dk (.io 0) (Zt (.v 4) (ki 0)) (.v 2))))))
    (.seq (.unp (.tup (Zv (.v 8) (.v 9))) (.pr (.sl true true) (Dk (.v 4) (ki 1) (ki 3))))
   (.seq (.set 10 (.pr (.sl true false) (Zv (.v 4) (ki 3))))
   (.seq (.set 11 (.call "_law_draw" (Zv (.io 0) (M0 (G0 (.v 8)) (ki 1)))))
   (.seq (.ite (.and (Vg (.v 7) (ki 0)) (.pr (.cm .gt) (Zv (G0 (.v 10)) (ki 0))))
    (Z8 (.set 10 (.tup (Zp (.not (Zt (.v 10) (ki 0)))))))
    (Z8 (.ite (Vg (.v 7) (ki 1))
    (Z8 (.set 9 (.pr (.sl true false) (Zv (.v 9) (ki 1)))))
    (Z8 (.ite (.pr (.cm .lt) (Zv (.v 7) (ki 4)))
    (.seq (.set 12 (.comp (.v 0) (.pr (.sl true true) (Dk (.v 8) (.v 11) (M0 (.v 11) (ki 1)))) .nil (Zt (.v 0) (ki 0)) [none] ["_law_part_here"]))
   (.seq (.set 8 (M0 (.pr (.sl false true) (Zv (.v 8) (.v 11))) (.pr (.sl true false) (Zv (.v 8) (M0 (.v 11) (ki 1))))))
   (.seq (.set 9 (.pr .tuple (Zp (.pr .sorted (Zp (M0 (.pr .list (Zp (.v 9))) (.pr (.op .mul) (Zv (.v 12) (.pr (.op .sub) (Zv (.v 7) (ki 2)))))))))))
   .nil)))
    (Z8 (.ite (Vg (.v 7) (ki 4))
    (Z8 (.set 8 (.pr .tuple (Zp (.pr .srtP (Zp (M0 (.v 8) (.tup (Zp (.call "_law_part" (.cons (.io 0) (.cons (Zt (.v 4) (ki 0)) (.cons (ki 500) (.cons (.v 6) (.cons (.v 2) .nil)))))))))))))))
    (Z8 (.ite (.pr (.cm .lt) (Zv (.v 11) (G0 (.v 8))))
    (.seq (.set 13 (.call "_law_part" (.cons (.io 0) (.cons (Zt (.v 4) (ki 0)) (.cons (Zt (Zt (.v 8) (.v 11)) (ki 0)) (.cons (.v 6) (.cons (.v 2) .nil)))))))
   (.seq (.ite (Vg (.v 7) (ki 7))
    (Z8 (.set 13 (M0 (.tup (Zv (Zt (Zt (.v 8) (.v 11)) (ki 0)) (M0 (ks "q") (.pr (.sl false true) (Zv (Zt (Zt (.v 8) (.v 11)) (ki 1)) (ki 6)))))) (.pr (.sl true false) (Zv (Zt (.v 8) (.v 11)) (ki 2))))))
    .nil)
   (.seq (.set 8 (M0 (M0 (.pr (.sl false true) (Zv (.v 8) (.v 11))) (.tup (Zp (.v 13)))) (.pr (.sl true false) (Zv (.v 8) (M0 (.v 11) (ki 1))))))
   .nil)))
    .nil)))))))))
   (.seq (.put 5 (.v 3) (M0 (.tup (Dk (Zt (.v 4) (ki 0)) (.v 8) (.v 9))) (.v 10)))
   .nil))))))
   (.seq (.set 14 (.tup (Zv (Zt (.lst (Zv (Zt (.v 1) (ki 0)) (.v 3))) (.pr .int (Zp (Vg (.call "_law_draw" (Zv (.io 0) (ki 16))) (ki 0))))) (.v 5))))
   (.seq (.ret (.ite (.call "is_make" (Zp (.v 14))) (.v 14) (.v 1)))
   .nil)))))))))
def Vu:Df:=⟨15,2,Yc⟩
noncomputable def K1:S:=(.seq (.loop (.v 3) (.itr .rng (Zp (.call "_law_draw" (Zv (.io 0) (M0 (.v 2) (ki 1))))))
    (Z8 (.set 1 (.call "_law_turned" (Zv (.io 0) (.v 1))))))
   (.seq (.ret (.mv 1))
   .nil))
def Js:Df:=⟨4,3,K1⟩
noncomputable def B9:S:=(.seq (.loop (.tup (Zv (.v 3) (.v 4))) (Zt (.v 2) (ki 0))
    (.seq (.set 5 (Zt (Zt (.v 0) (ki 1)) (.v 3)))
   (.seq (.set 6 (Zt (Zt (.v 1) (ki 1)) (.v 4)))
   (.seq (.ite (.and (Vg (Zt (.v 5) (ki 0)) (Zt (.v 6) (ki 0))) (.pr (.cm .isin) (Zv (Zt (.v 5) (ki 0)) (.lst (Zv (ks "record") (ks "choice"))))))
    (.seq (.set 7 (.comp (.v 0) (Zt (.v 6) (ki 1)) .nil (Zt (.v 0) (ki 0)) [none] ["_law_part_here"]))
   (.seq (.ite (.pr (.cm .gt) (Zv (G0 (.comp (.v 0) (Zt (.v 5) (ki 1)) (.pr (.cm .notin) (Zv (Zt (.v 0) (ki 0)) (.v 1))) (.v 0) [none,some 7] ["_law_part_here","_law_known"])) (ki 0)))
    (Z8 (.ret (.k (.bl false))))
    .nil)
   .nil))
    .nil)
   .nil))))
   (.seq (.ret (.k (.bl true)))
   .nil))
def Ys:Df:=⟨8,3,B9⟩
noncomputable def Sq:S:=(.seq (.set 3 (.comp (.v 0) (.pr .sorted (Zp (Zt (.v 1) (ki 1)))) (.and (.pr (.cm .isin) (Zv (.v 0) (Zt (.v 1) (ki 1)))) (.pr (.cm .gt) (Zv (.call "_law_draw" (Zv (.io 2) (ki 3))) (ki 0)))) (.tup (Zv (.v 0) (.v 0))) [none,some 2,some 0] ["_law_name","_law_other","_law_tape_here"]))
   (.seq (.set 4 (.pr .sorted (Zp (Zt (.v 1) (ki 1)))))
   (.seq (.set 5 (.pr .sorted (Zp (Zt (.v 2) (ki 1)))))
   (.seq (.loop (.v 6) (.itr .rng (Zp (.call "_law_draw" (Zv (.io 0) (ki 7)))))
    (Z8 (.ex (.mt .append 3 (Zp (.tup (Zv (Zt (.v 4) (.call "_law_draw" (Zv (.io 0) (G0 (.v 4))))) (Zt (.v 5) (.call "_law_draw" (Zv (.io 0) (G0 (.v 5))))))))))))
   (.seq (.ret (.tup (Zv (.pr .tuple (Zp (.v 3))) (.pr .tuple (Zp (.pr (.sl false true) (Zv (.v 4) (.call "_law_draw" (Zv (.io 0) (ki 2))))))))))
   .nil)))))
def Um:Df:=⟨7,3,Sq⟩
noncomputable def Sz:S:=(.seq (.set 3 (.pr .repr (Zp (.tup (Dk (.v 0) (.v 1) (.v 2))))))
   (.seq (.ite (.not (.call "_law_alike" (Zv (.call "_law_all_known" (Dk (.v 0) (.v 1) (.v 2))) (.call "knows_all" (Dk (.v 0) (.v 1) (.v 2))))))
    (Z8 (.ret (.k (.bl false))))
    .nil)
   (.seq (.ret (Vg (.pr .repr (Zp (.tup (Dk (.v 0) (.v 1) (.v 2))))) (.v 3)))
   .nil)))
def Ug:Df:=⟨4,3,Sz⟩
noncomputable def Zqq:S:=(.seq (.set 1 (.call "_law_tape" (Zp (.v 0))))
   (.seq (.loop (.v 2) (.itr .rng (Zp (ki 6)))
    (.seq (.set 3 (.call "_law_make" (Zp (.io 1))))
   (.seq (.set 4 (.call "_law_next" (Dk (.io 1) (.v 3) (ki 6))))
   (.seq (.ite (Vg (.call "_law_draw" (Zv (.io 1) (ki 5))) (ki 0))
    (Z8 (.set 4 (.call "_law_make" (Zp (.io 1)))))
    .nil)
   (.seq (.set 5 (.call "_law_drawn" (Dk (.io 1) (.v 3) (.v 4))))
   (.seq (.set 6 (.tup (Zv (.pr .tuple (Zp (.comp (.tup (Zv (.v 0) (.v 1))) (Zt (.v 5) (ki 0)) .nil (.tup (Zv (.v 1) (.v 0))) [none,none] ["_law_one","_law_there"]))) (.tup .nil))))
   (.seq (.ite (.or (.not (.call "_law_right" (Dk (.v 3) (.v 4) (.v 5)))) (.not (.call "_law_right" (Dk (.v 4) (.v 3) (.v 6)))))
    (Z8 (.ret (.k (.bl false))))
    .nil)
   (.seq (.ite (.pr (.cm .isin) (Zv (.k (.bl false)) (.comp (.v 0) (Zt (.v 5) (ki 0)) .nil (.call "_law_right" (Dk (.v 1) (.v 2) (.tup (Zv (.tup (Zp (.v 0))) (.tup .nil))))) [none,some 3,some 4] ["_law_pair","_law_make_here","_law_other"])))
    (Z8 (.ret (.k (.bl false))))
    .nil)
   .nil))))))))
   (.seq (.ret (.k (.bl true)))
   .nil)))
def C1:Df:=⟨7,1,Zqq⟩
theorem Pc{c:Prop}[Decidable c]{j:Type}{a:j}{o:Option j}{Q:j->Prop}(h:c)(q:Q a):on (if c then some a else o) Q:=by rw[if_pos h];exact q
theorem Zf{b:Bool}{A B:Prop}(h:b=true->A)(h':b=false->B):if b=true then A else B:=by
 cases b with
 | true=>exact h rfl
 | false=>exact h' rfl
theorem mulP{a b:Int}{Q:Sl->Prop}(h:0<=a/\a<2 ^ 64)(q:Q (.f (.int (a * b)))):on (cf .mul (.int a) (.int b)) Q:=Pc (.inl ⟨by omega,h.2⟩) q
theorem mulR{a b:Int}{Q:Sl->Prop}(h:0<=b/\b<2 ^ 64)(q:Q (.f (.int (a * b)))):on (cf .mul (.int a) (.int b)) Q:=Pc (.inr ⟨by omega,h.2⟩) q
theorem modP{a b:Int}{Q:Sl->Prop}(h:0<b)(q:Q (.f (.int (a % b)))):on (cf .mod (.int a) (.int b)) Q:=Pc h q
theorem divP{a b:Int}{Q:Sl->Prop}(h:0<b/\b<1073741824)(q:Q (.f (.int (a / b)))):on (cf .fdiv (.int a) (.int b)) Q:=Pc h q
theorem appP{ts:ZZ}{x:T}{Q:T×T->Prop}(h:ts.length<sizeLine)(q:Q (.lst (ts++[x]),.non)):on (iq .append (.lst ts) [x]) Q:=Pc h q
theorem Bg{body:T->P->En->Prop}{xs:ZZ}{p:P}{D:En}(I:ZZ->P->Prop)(h:I xs p)(st:∀x r p (D':En),I (x::r) p->(∀q,I r q->D'.nx q)->(∀s q,D.rt s q->D'.rt s q)->body x p D')(q:∀q,I [] q->D.nx q):Xy body xs p D :=
 jd I (fun _=>False) D.rt (fun x r p D' h n _ _ r'=>st x r p D' h n r') xs p D h q (fun _ z=>z.elim) fun _ _ z=>z
noncomputable def Yj:Nat->S->S
 | 0,s=>s
 | n+1,.seq _ r=>Yj n r
 | _,s=>s
def Xd:S->S
 | .seq (.ite _ a _) _=>a
 | s=>s
def dv:S->S
 | .seq (.ite _ _ a) _=>a
 | s=>s
def lpB:S->S
 | .seq (.loop _ _ b) _=>b
 | s=>s
noncomputable def Zc(zs:ZL)(i k:Int):T:=.lst [.lst (zs.map .int),.int i,.int k]
def Uh(C:Cs):Prop:=∀{zs:ZL} {i k m:Int},0<m->m<1000000->on (C "_law_draw" [.o (Zc zs i k),.f (.int m)]) fun x=>∃r i' k',0<=r/\r<m/\x=(.f (.int r),[Zc zs i' k'])
theorem Zu{C:Cs}(h:Uh C){zs:ZL}{i k m:Int}{Q:Sl×ZZ->Prop}(m0:0<m)(m1:m<1000000)(q:∀r i' k',0<=r->r<m->Q (.f (.int r),[Zc zs i' k'])):on (C "_law_draw" [.o (Zc zs i k),.f (.int m)]) Q :=
 Y8 (h m0 m1) fun x ⟨r,i',k',h1,h2,e⟩=>by rw[e];exact q r i' k' h1 h2
theorem rg{w:W}(zs:ZL):wF Jl w [.f (.lst (zs.map .int))] fun x=>x=(.o (Zc zs 0 0),[]):=by
 refine Z1 rfl fun D rt _=>?_;exact rt _ _ rfl
theorem Zzd{w:W}{zs:ZL}{i k m:Int}(m0:0<m)(m1:m<1000000):wF Ju w [.o (Zc zs i k),.f (.int m)] fun x=>∃r i' k',0<=r/\r<m/\x=(.f (.int r),[Zc zs i' k']):=by
 refine Z1 rfl fun D rt _=>?_
 have fin:∀(i' k':Int) (s2 s3 s4:Sl),wS w (Vx [.o (Zc zs i k),.f (.int m)]) (Yj 1 Yu) [.o (Zc zs i' k'),.f (.int m),s2,s3,s4,.no] D:=fun i' k' s2 s3 s4=>by
  refine modP m0 ?_;refine divP ⟨m0,by omega⟩ ?_;exact rt _ _ ⟨k' % m,i',k' / m,Int.emod_nonneg _ (by omega),Int.emod_lt_of_pos _ m0,rfl⟩
 refine Zf (b:=decide (k=0)) (fun _=>?_) fun _=>fin i k _ _ _
 have fin2:∀c:Int,wS w (Vx [.o (Zc zs i k),.f (.int m)]) (Yj 4 (Xd Yu)) [.o (Zc zs (i+1) k),.f (.int m),.f (.int i),.f (.int c),.no,.no] ⟨fun q=>wS w (Vx [.o (Zc zs i k),.f (.int m)]) (Yj 1 Yu) q D,D.rt,D.bk,D.ct⟩:=fun c=>by
  have out:wS w (Vx [.o (Zc zs i k),.f (.int m)]) (Xd (Yj 4 (Xd Yu))) [.o (Zc zs (i+1) k),.f (.int m),.f (.int i),.f (.int c),.no,.no] ⟨fun q=>wS w (Vx [.o (Zc zs i k),.f (.int m)]) (Yj 5 (Xd Yu)) q ⟨fun q=>wS w (Vx [.o (Zc zs i k),.f (.int m)]) (Yj 1 Yu) q D,D.rt,D.bk,D.ct⟩,D.rt,D.bk,D.ct⟩:=by
   have a0:=Int.emod_nonneg c (show (1000003:Int)≠0 by omega);have a1:=Int.emod_lt_of_pos c (show (0:Int)<1000003 by omega);refine mulP (a:=c % 1000003+1) ⟨by omega,by omega⟩ ?_;refine mulR ⟨by omega,by omega⟩ ?_;refine modP m0 ?_;exact rt _ _ ⟨_,_,_,Int.emod_nonneg _ (by omega),Int.emod_lt_of_pos _ m0,rfl⟩
  refine Zf (b:=decide (c<(10:Int) ^ 18)) (fun _=>out) fun _=>?_;refine Zf (b:=decide ((((zs.map T.int).length:Nat):Int)<=i)) (fun _=>out) fun _=>?_;exact fin _ _ _ _ _
 refine Zf (b:=decide ((0:Int)<((zs.map T.int).length:Nat))) (fun g=>?_) fun _=>fin2 i;have g:=S8 g;refine modP g ?_;obtain⟨x,hx,_,mx⟩:=K6 (xs:=zs.map T.int) (Int.emod_nonneg i (show (((zs.map T.int).length:Nat):Int)≠0 by omega)) (Int.emod_lt_of_pos i g);obtain⟨z,_,rfl⟩:=D6.mp mx;refine ixLP hx ?_;exact fin2 z
abbrev Kn:=List Sl->(Sl×ZZ->Prop)->Prop
abbrev cl(C:Cs)(f:Str):Kn:=fun as Q=>on (C f as) Q
def Tl(P:Prop)(x:Sl×ZZ):Prop:=∃b:Bool,(b=true->P)/\x=(.f (.bl b),[])
theorem Gw{C:Cs}{f:Str}{as:List Sl}{P:Prop}{Q:Sl×ZZ->Prop}(h:on (C f as) (Tl P))(q:∀b:Bool,(b=true->P)->Q (.f (.bl b),[])):on (C f as) Q:=Y8 h fun x ⟨b,hb,e⟩=>by rw[e];exact q b hb
theorem Tl.no{P:Prop}:Tl P (.f (.bl false),[]):=⟨false,(fun z=>nomatch z),rfl⟩
noncomputable def LET:Str:="abcdefghijklmnopqrstuvwxyz"
def SIG : Str := " !\"#$&'()*+,-./0123456789:;<=>?@ABCDEFGHIJKLMNOPQRSTUVWXYZ[\\]^_`abcdefghijklmnopqrstuvwxyz{|}~"
structure GL(g:Str->Option T):Prop where
 gw:g "GREATEST_WHOLE" = some (.int 1000000000000000000)
 gn:g "GREATEST_NUMBER" = some (.int 999)
 lt:g "LONGEST_TEXT" = some (.int 200)
 ln:g "LONGEST_NAME" = some (.int 8)
 mp:g "MOST_PARTS" = some (.int 20)
 mf:g "MOST_FIELDS" = some (.int 8)
 mm:g "MOST_FORMS" = some (.int 8)
 le:g "LETTERS" = some (.str LET)
 si:g "SIGNS" = some (.str SIG)
 fi:g "is_field" = some (.fn "is_field")
 ar:g "is_arm" = some (.fn "is_arm")
noncomputable def Hw:ZL:=[1,2,3,9,10,99,100,999,500]
def qh(i:Int):Prop:=-1000000000000000000<=i/\i<=1000000000000000000
def Sm(x:Str):Prop:=x.length<=8/\okK (.inr x)
theorem Sm.z{x:Str}(h:Sm x):x.length<=sizeLine:=by have:=sizeLine_eq;have:=h.1;omega
inductive Dx:T->Prop
 | int{i:Int}(h:qh i):Dx (.int i)
 | bl {b:Bool}:Dx (.bl b)
 | str {x:Str} (h:Sm x):Dx (.str x)
 | nil:Dx (.tup [])
inductive Dfl:ZZ->Prop
 | no:Dfl []
 | is {x:T} (h:Dx x):Dfl [x]
inductive Dfs:Bool->ZZ->Prop
 | arm:Dfs false []
 | fld {ds:ZZ} (h:Dfl ds):Dfs true [.tup ds]
inductive Lw(ns:ZD)(k:Bool):T->Prop
 | mk{n:Int}{x o:Str}{ds:ZZ}(hn:n∈Hw)(hx:Sm x)(ho:o∈ns)(hd:Dfs k ds):Lw ns k (.tup (.int n::.str x::.str o::ds))
noncomputable def Uv:T->Int
 | .tup (.int i::_)=>i
 | _=>0
structure D4(ns:ZD)(k:Bool)(ps:ZZ):Prop where
 l:ps.length<=20
 p:∀p∈ps,Lw ns k p
inductive Raw(ns:ZD):T->Prop
 | whole{a b:Int}:Raw ns (.tup [.str "whole",.int a,.int b])
 | truth:Raw ns (.tup [.str "truth"])
 | text {n:Int}:Raw ns (.tup [.str "text",.int n])
 | row {o:Str} {n:Int} (ho:o∈ns):Raw ns (.tup [.str "row",.str o,.int n])
 | map {o:Str} {n:Int} (ho:o∈ns):Raw ns (.tup [.str "map",.str o,.int n])
 | record {ps:ZZ} {zs:ZL} (hp:D4 ns true ps) (hs:zs.length<=20):Raw ns (.tup [.str "record",.tup ps,.tup (zs.map .int)])
 | choice {ps:ZZ} {zs:ZL} {b:Bool} (hp:D4 ns false ps) (hs:zs.length<=20):Raw ns (.tup [.str "choice",.tup ps,.tup (zs.map .int),.bl b])
def Ris(zs:ZL):Prop:=zs.Pairwise (· < ·)
structure Mem(ps:ZZ)(zs:ZL):Prop where
 l:ps.length<=8
 sl:zs.length<=8
 sb:∀z∈zs,qh z
inductive Qm:T->Prop
 | whole{a b:Int}(ha:qh a)(hb:qh b)(le:a<=b):Qm (.tup [.str "whole",.int a,.int b])
 | truth:Qm (.tup [.str "truth"])
 | text {n:Int} (h0:0<=n) (h1:n<=200):Qm (.tup [.str "text",.int n])
 | row {o:Str} {n:Int} (h0:0<=n) (h1:n<=20):Qm (.tup [.str "row",.str o,.int n])
 | map {o:Str} {n:Int} (h0:0<=n) (h1:n<=20):Qm (.tup [.str "map",.str o,.int n])
 | record {ps:ZZ} {zs:ZL} (h:Mem ps zs):Qm (.tup [.str "record",.tup ps,.tup (zs.map .int)])
 | choice {ps:ZZ} {zs:ZL} {b:Bool} (h:Mem ps zs):Qm (.tup [.str "choice",.tup ps,.tup (zs.map .int),.bl b])
def Hj(K:Kn):Prop:=∀{t:T} {lo hi:Int},Dx t->K [.f t,.f (.int lo),.f (.int hi)] (Tl (∃i,t=.int i/\lo<=i/\i<=hi))
def Ny(K:Kn):Prop:=∀{i lo hi:Int},K [.f (.int i),.f (.int lo),.f (.int hi)] (Tl (lo<=i/\i<=hi))
theorem Xj{w:W}:Ny (wF Vw w):=fun {i lo hi}=>by
 refine Z1 rfl fun D rt _=>?_;refine c2P ?_;exact rt _ _ ⟨_,(fun z=>by simpa using z),rfl⟩
theorem jy{w:W}:Hj (wF Vw w):=fun {t lo hi} h=>by
 cases h with
 | int h =>
  refine Z1 rfl fun D rt _=>?_;refine c2P ?_;exact rt _ _ ⟨_,(fun z=>⟨_,rfl,by simpa using z⟩),rfl⟩
 | bl=>refine Z1 rfl fun D rt _=>?_;exact rt _ _ .no
 | str h=>refine Z1 rfl fun D rt _=>?_;exact rt _ _ .no
 | nil=>refine Z1 rfl fun D rt _=>?_;exact rt _ _ .no
def PItW(K:Kn):Prop:=∀{i:Int},K [.f (.int i)] (Tl (qh i))
theorem Fx{w:W}(g:GL w.gl)(hW:Ny (cl w.C "is_whole")):PItW (wF Yh w):=fun {i}=>by
 refine Z1 rfl fun D rt _=>?_;refine ql g.gw ?_;refine ql g.gw ?_;refine Gw hW fun b hb=>?_;exact rt _ _ ⟨b,hb,rfl⟩
def Zz3(K:Kn):Prop:=∀{i:Int},K [.f (.int i)] (Tl (1<=i/\i<=999))
theorem zr{w:W}(g:GL w.gl)(hW:Ny (cl w.C "is_whole")):Zz3 (wF Ul w):=fun {i}=>by
 refine Z1 rfl fun D rt _=>?_;refine ql g.gn ?_;refine Gw hW fun b hb=>?_;exact rt _ _ ⟨b,hb,rfl⟩
theorem Wl{w:W}{x:Str}{g:Str}{s:Str}(hg:w.gl g=some (.str s))(hz:x.length<=sizeLine){Q:ZZ->P->Prop}(q:∀s0,Q ((x.cps.toList.map fun c=>T.str ⟨#[c]⟩).map fun t=>.bl ((bf t (.str s)).getD false)) [s0]) :
  Vs (fun t p K=>on (asg (.v 0) t p) fun s1=>if isNil .nil=true then wE w (.pr (.cm .isin) (Zv (.v 0) (.g g))) s1 fun r s2=>Bn r fun y=>K (some y) s2
   else wE w .nil s1 fun r s2=>S6 r fun b=>if b=true then wE w (.pr (.cm .isin) (Zv (.v 0) (.g g))) s2 fun r s3=>Bn r fun y=>K (some y) s3 else K none s2) (x.cps.toList.map fun c=>T.str ⟨#[c]⟩) [] [.no] Q:=by
 refine Yy (fun t=>.bl ((bf t (.str s)).getD false)) (fun p=>∃s0,p=[s0]) ⟨_,rfl⟩ (fun t mt p K hp hk=>?_) fun p hp=>by obtain⟨s0,rfl⟩:=hp;exact q s0
 obtain⟨s0,rfl⟩:=hp;obtain⟨c,_,rfl⟩:=D6.mp mt;refine ql hg ?_;exact hk _ ⟨_,rfl⟩
def cx(K:Kn):Prop:=∀{t:T} {n:Int},Dx t->K [.f t,.f (.int n)] (Tl (∃x,t=.str x/\(x.length:Int)<=n))
theorem rq{w:W}(g:GL w.gl):cx (wF G1 w):=fun {t n} h=>by
 cases h with
 | int h=>refine Z1 rfl fun D rt _=>?_;exact rt _ _ .no
 | bl=>refine Z1 rfl fun D rt _=>?_;exact rt _ _ .no
 | nil=>refine Z1 rfl fun D rt _=>?_;exact rt _ _ .no
 | @str x h =>
  refine Z1 rfl fun D rt _=>?_;refine lenP h.z ?_;refine Zf (b:=!decide (n<(x.length:Int))) (fun z=>?_) fun z=>rt _ _ .no;refine Zz8 h.z ?_;refine Wl g.si h.z fun p=>?_;refine Hz ?_;exact rt _ _ ⟨_,fun _=>⟨x,rfl,by simpa using z⟩,rfl⟩
def Lg(K:Kn):Prop:=∀{x:Str},x.length<=sizeLine->K [.f (.str x)] (Tl True)
theorem iz{w:W}(g:GL w.gl):Lg (wF G2 w):=fun {x} h=>by
 refine Z1 rfl fun D rt _=>?_;refine lenP h ?_;refine ql g.ln ?_;refine c2P ?_;refine Zf (b:=!(decide (1<=(x.length:Int)) && decide ((x.length:Int)<=8))) (fun _=>rt _ _ .no) fun _=>?_;refine Zz8 h ?_;refine Wl g.le h fun p=>?_;refine Hz ?_;exact rt _ _ ⟨_,fun _=>trivial,rfl⟩
def Qb(K:Kn):Prop:=∀{ts:ZZ},K [.f (.tup ts)] fun x=>x=(.f (.bl (!decide ((8:Int)<(ts.length:Nat)))),[])
theorem vm{w:W}(g:GL w.gl):Qb (wF Yt w):=fun {ts}=>by
 refine Z1 rfl fun D rt _=>?_;refine ql g.mf ?_;exact rt _ _ rfl
theorem Nm{body:T->P->(Option T->P->Prop)->Prop}{xs:ZZ}{p:P}{Q:ZZ->P->Prop}(R:T->Prop)(St:P->Prop)(h0:St p)
  (st:∀x∈xs,∀p K,St p->(∀(b:Bool) p',(b=true->R x)->St p'->K (some (.bl b)) p')->body x p K) (q:∀(bs:List Bool) p,(bs.all id=true->∀x∈xs,R x)->St p->Q (bs.map .bl) p):Vs body xs [] p Q:=by
 refine Te (fun rest acc p=>∃bs:List Bool,acc=bs.map .bl/\(bs.all id=true->∀x∈xs,x∈rest\/R x)/\(∀x∈rest,x∈xs)/\St p) ⟨[],rfl,fun _ x m=>.inl m,fun x m=>m,h0⟩ (fun x r acc p K hi hk _=>?_) fun acc p hi=>?_
 .obtain⟨bs,rfl,hr,hx,hs⟩:=hi;refine st x (hx x Vk) p K hs fun b p' hb Ng=>hk _ _ ⟨bs++[b],by rw[M0a];rfl,fun ha y my=>?_,fun y m=>hx y (Vb _ m),Ng⟩;rw[List.all_append,Ya]at ha;rcases hr ha.1 y my with h | h
  .rcases Y6.mp h with rfl | h
   .exact .inr (hb (by simpa using ha.2))
   .exact .inl h
  .exact .inr h
 .obtain⟨bs,rfl,hr,_,hs⟩:=hi;exact q bs p (fun ha x m=>(hr ha x m).elim (fun z=>absurd z Tj) id) hs
theorem I9:∀bs:List Bool,allB (bs.map .bl)=some bs
 | []=>rfl
 | b::bs=>by show (allB (bs.map .bl)).map (b::·)=_;rw[I9 bs];rfl
theorem qw{bs:List Bool}{Q:Sl->Prop}(q:Q (.f (.bl (bs.all id)))):on ((allB (bs.map .bl)).map fun bs=>Sl.f (.bl (bs.all id))) Q:=Z2 (by rw[I9];rfl) q
noncomputable def ltI:T->Bool
 | .tup [.int a,.int b]=>decide (a<b)
 | _=>false
theorem Ql:∀(a:Int) (zs:ZL),((((a::zs).map T.int).zip (zs.map .int)).map fun p=>T.tup [p.1,p.2]).all ltI=true->Ris (a::zs)
 | a,[],_=>List.pairwise_singleton _ _
 | a,b::zs,h=>by
  have h:(decide (a<b) && ((((b::zs).map T.int).zip (zs.map .int)).map fun p=>T.tup [p.1,p.2]).all ltI)=true:=h;rw[Ya]at h;have r:=Ql b zs h.2;have ab:a<b:=S8 h.1;refine ZE.mpr ⟨fun c m=>?_,r⟩;rcases Y6.mp m with rfl | m
  .exact ab
  .exact Int.lt_trans ab ((ZE.mp r).1 c m)
theorem cut1(t:T)(ts:ZZ):Y4 (t::ts) (some 1) none=ts:=by
 rw[O2 (by omega) (by rw[D9];omega)];rfl
theorem Hf(zs:ZL)(h:(Ta (zs.map .int) (Y4 (zs.map .int) (some 1) none)).all ltI=true):Ris zs:=by
 cases zs with
 | nil=>exact List.Pairwise.nil
 | cons a zs =>
  rw[Qn,cut1]at h;exact Ql a zs h
def Zz2(K:Kn):Prop:=∀{zs:ZL},K [.f (.lst (zs.map .int))] (Tl (Ris zs))/\K [.f (.tup (zs.map .int))] (Tl (Ris zs))
theorem Pk{w:W}{zs:ZL}{Q:ZZ->P->Prop}(q:∀s0 s1,Q ((Ta (zs.map .int) (Y4 (zs.map .int) (some 1) none)).map fun t=>.bl (ltI t)) [s0,s1]) :
  Vs (fun t p K=>on (asg (.tup (Zv (.v 0) (.v 1))) t p) fun s1=>if isNil .nil=true then wE w (.pr (.cm .lt) (Zv (.v 0) (.v 1))) s1 fun r s2=>Bn r fun y=>K (some y) s2
   else wE w .nil s1 fun r s2=>S6 r fun b=>if b=true then wE w (.pr (.cm .lt) (Zv (.v 0) (.v 1))) s2 fun r s3=>Bn r fun y=>K (some y) s3 else K none s2) (Ta (zs.map .int) (Y4 (zs.map .int) (some 1) none)) [] [.no,.no] Q:=by
 refine Yy (fun t=>.bl (ltI t)) (fun p=>∃s0 s1,p=[s0,s1]) ⟨_,_,rfl⟩ (fun t mt p K hp hk=>?_) fun p hp=>?_
 .obtain⟨s0,s1,rfl⟩:=hp;obtain⟨⟨x,y⟩,mz,rfl⟩:=D6.mp mt;obtain⟨m1,m2⟩:=List.of_mem_zip mz;obtain⟨a,_,rfl⟩:=D6.mp m1;obtain⟨b,_,rfl⟩:=D6.mp (G7 m2);exact hk _ ⟨_,_,rfl⟩
 .obtain⟨s0,s1,rfl⟩:=hp;exact q s0 s1
theorem Py{w:W}:Zz2 (wF M6 w):=fun {zs}=>by
 constructor
 .refine Z1 rfl fun D rt _=>?_;refine Pk fun s0 s1=>?_;refine Hz ?_;exact rt _ _ ⟨_,fun z=>Hf zs z,rfl⟩
 .refine Z1 rfl fun D rt _=>?_;refine Pk fun s0 s1=>?_;refine Hz ?_;exact rt _ _ ⟨_,fun z=>Hf zs z,rfl⟩
def PStk(K:Kn):Prop:=∀{zs ns:ZL},K [.f (.tup (zs.map .int)),.f (.lst (ns.map .int))] (Tl (zs.length<=8/\∀z∈zs,qh z))
theorem Xc{w:W}(hS:Qb (cl w.C "is_short_tuple"))(hN:Zz3 (cl w.C "is_number"))(hR:Zz2 (cl w.C "rises")):PStk (wF Uc w):=fun {zs ns}=>by
 refine Z1 rfl fun D rt _=>?_;refine Y8 hS fun x ex=>?_;subst ex;refine Zf (b:=!!decide ((8:Int)<((zs.map T.int).length:Nat))) (fun _=>rt _ _ .no) fun z=>?_;refine Nm (fun t=>∀i,t=.int i->qh i) (fun p=>∃s0,p=[s0]) ⟨_,rfl⟩ (fun t mt p K hp hk=>?_) fun bs p hb hp=>?_
 .obtain⟨s0,rfl⟩:=hp;obtain⟨i,_,rfl⟩:=D6.mp mt;refine Gw hN fun b hb=>?_;exact hk b _ (fun h j e=>by cases e;have:=hb h;exact⟨by omega,by omega⟩) ⟨_,rfl⟩
 obtain⟨s0,rfl⟩:=hp;refine qw ?_;refine Zf (b:=!bs.all id) (fun _=>rt _ _ .no) fun z2=>?_;refine Gw hR.2 fun b1 _=>?_;refine Zf (b:=b1) (fun _=>?_) fun _=>rt _ _ .no;refine Yy (fun t=>.bl ((bf t (.lst (ns.map .int))).getD false)) (fun p=>∃s0,p=[s0,.f (.lst (ns.map .int))]) ⟨_,rfl⟩ (fun t mt p K hp hk=>?_) fun p hp=>?_
 .obtain⟨s0,rfl⟩:=hp;obtain⟨i,_,rfl⟩:=D6.mp mt;refine Z2 (a:=Sl.f (.bl (ns.any fun z=>decide (z=i)))) (by show (bf (.int i) (.lst (ns.map .int))).map _=_;rw[Fj];rfl) ?_;have:=hk [.f (.int i),.f (.lst (ns.map .int))] ⟨_,rfl⟩;rw[Fj]at this;exact this
 obtain⟨s0,rfl⟩:=hp;refine anyP ?_;refine rt _ _ ⟨_,fun _=>⟨?_,fun z m=>?_⟩,rfl⟩
 .have z':(zs.length:Int)<=8:=by simpa using z
  omega
 .exact hb (Ph z2) (.int z) (List.mem_map_of_mem m) z rfl
def B1(K:Kn)(R:T->Prop):Prop:=∀{t:T},R t->K [.f t] (Tl True)
theorem O0{w:W}:B1 (wF Vi w) fun t=>∃ds,t=.tup ds:=fun {t} h=>by
 obtain⟨ds,rfl⟩:=h;refine Z1 rfl fun D rt _=>?_;exact rt _ _ ⟨_,fun _=>trivial,rfl⟩
theorem Zz0{w:W}(hN:Zz3 (cl w.C "is_number"))(hM:Lg (cl w.C "is_name")):B1 (wF M8 w) fun t=>∃n x o,Sm x/\o.length<=sizeLine/\t=.tup [.int n,.str x,.str o]:=fun {t} h=>by
 obtain⟨n,x,o,hx,ho,rfl⟩:=h;refine Z1 rfl fun D rt _=>?_;refine Gw hN fun b _=>?_;refine Zf (b:=b) (fun _=>?_) fun _=>rt _ _ .no;refine Gw (hM hx.z) fun b _=>?_;refine Zf (b:=b) (fun _=>?_) fun _=>rt _ _ .no;refine Gw (hM ho) fun b _=>?_;exact rt _ _ ⟨b,fun _=>trivial,rfl⟩
theorem xy{w:W}(hA:B1 (cl w.C "is_arm") fun t=>∃n x o,Sm x/\o.length<=sizeLine/\t=.tup [.int n,.str x,.str o])(hD:B1 (cl w.C "is_default") fun t=>∃ds,t=.tup ds):B1 (wF Jo w) fun t=>∃n x o ds,Sm x/\o.length<=sizeLine/\t=.tup [.int n,.str x,.str o,.tup ds]:=fun {t} h=>by
 obtain⟨n,x,o,ds,hx,ho,rfl⟩:=h;refine Z1 rfl fun D rt _=>?_;refine Gw (hA ⟨n,x,o,hx,ho,rfl⟩) fun b _=>?_;refine Zf (b:=b) (fun _=>?_) fun _=>rt _ _ .no;refine Gw (hD ⟨ds,rfl⟩) fun b _=>?_;exact rt _ _ ⟨b,fun _=>trivial,rfl⟩
noncomputable def nmS:T->Str
 | .tup (_::.str x::_)=>x
 | _ => ""
theorem lsetP{ss:ZD}{Q:Sl->Prop}(h:ss.length<64)(q:Q (.f (.int (SRT.qb ss).length))):on (As .lset [.lst (ss.map .str)]) Q:=Z2 (by show (Bb (ss.map .str)).bind _=_;rw[PV.strs_map];exact if_pos h) q
theorem Ct{w:W}(hS:Qb (cl w.C "is_short_tuple"))(hR:Zz2 (cl w.C "rises"))(hK:PStk (cl w.C "is_struck")){ns:ZD}{k:Bool}{ps:ZZ}{zs:ZL}{f:Str}(hp:D4 ns k ps)(hf:∀p,Lw ns k p->on (w.C f [.f p]) (Tl True)):wF Yl w [.f (.tup ps),.f (.tup (zs.map .int)),.f (.fn f)] (Tl (Mem ps zs)):=by
 refine Z1 rfl fun D rt _=>?_;refine Y8 hS fun x ex=>?_;subst ex;refine Zf (b:=!!decide ((8:Int)<(ps.length:Nat))) (fun _=>rt _ _ .no) fun z=>?_;have z':(ps.length:Int)<=8:=by simpa using z
 refine Nm (fun _=>True) (fun p=>∃s0,p=[s0,.f (.fn f)]) ⟨_,rfl⟩ (fun t mt p K hs hk=>?_) fun bs p hb hs=>?_
 .obtain⟨s0,rfl⟩:=hs;refine Gw (hf t (hp.p t mt)) fun b _=>?_;exact hk b _ (fun _=>trivial) ⟨_,rfl⟩
 obtain⟨s0,rfl⟩:=hs;refine qw ?_;refine Zf (b:=!bs.all id) (fun _=>rt _ _ .no) fun _=>?_;refine Yy (fun t=>.int (Uv t)) (fun p=>∃s0,p=[s0]) ⟨_,rfl⟩ (fun t mt p K hs hk=>?_) fun p hs=>?_
 .obtain⟨s0,rfl⟩:=hs;cases hp.p t mt with | mk hn hx ho hd =>
  cases hd<;>exact hk _ ⟨_,rfl⟩
 obtain⟨s1,rfl⟩:=hs;rw[show (ps.map fun t=>T.int (Uv t))=(ps.map Uv).map .int by rw[List.map_map];rfl];refine Yy (fun t=>.str (nmS t)) (fun p=>∃s0,p=[s0]) ⟨_,rfl⟩ (fun t mt p K hs hk=>?_) fun p hs=>?_
 .obtain⟨s0,rfl⟩:=hs;cases hp.p t mt with | mk hn hx ho hd =>
  cases hd<;>exact hk _ ⟨_,rfl⟩
 obtain⟨s2,rfl⟩:=hs;rw[show (ps.map fun t=>T.str (nmS t))=(ps.map nmS).map .str by rw[List.map_map];rfl];refine Gw hR.1 fun b1 h1=>?_;refine Zf (b:=b1) (fun z1=>?_) fun _=>rt _ _ .no;refine lsetP (by rw[Z0];omega) ?_;refine Zf (b:=decide (((SRT.qb (ps.map nmS)).length:Int)=(((ps.map nmS).map T.str).length:Nat))) (fun _=>?_) fun _=>rt _ _ .no;refine Gw hK fun b2 h2=>?_;exact rt _ _ ⟨b2,fun z2=>⟨by omega,(h2 z2).1,(h2 z2).2⟩,rfl⟩
def PBnd(K:Kn):Prop:=∀{a b:Int},K [.f (.int a),.f (.int b)] (Tl (qh a/\qh b/\a<=b))
theorem qj{w:W}(hI:PItW (cl w.C "is_item_whole")):PBnd (wF Ve w):=fun {a b}=>by
 refine Z1 rfl fun D rt _=>?_;refine Gw hI fun b1 h1=>?_;refine Zf (b:=b1) (fun z1=>?_) fun _=>rt _ _ .no;refine Gw hI fun b2 h2=>?_;refine Zf (b:=b2) (fun z2=>?_) fun _=>rt _ _ .no;exact rt _ _ ⟨!decide (b<a),fun z=>⟨h1 z1,h2 z2,by simpa using z⟩,rfl⟩
def Zz5(K:Kn)(k:Bool)(f:Str):Prop:=∀{ns:ZD} {ps:ZZ} {zs:ZL},(∀x∈ns,Sm x)->D4 ns k ps->K [.f (.tup ps),.f (.tup (zs.map .int)),.f (.fn f)] (Tl (Mem ps zs))
def PShp(K:Kn):Prop:=∀{ns:ZD} {t:T},(∀x∈ns,Sm x)->Raw ns t->K [.f t] (Tl (Qm t))
theorem vd{w:W}(g:GL w.gl)(hB:PBnd (cl w.C "are_bounds"))(hW:Ny (cl w.C "is_whole"))(hM:Lg (cl w.C "is_name"))(hF:Zz5 (cl w.C "are_members") true "is_field")(hA:Zz5 (cl w.C "are_members") false "is_arm"):PShp (wF Ja w):=fun {ns t} hs h=>by
 refine Z1 rfl fun D rt _=>?_;cases h with
 | whole =>
  refine Gw hB fun b hb=>?_;exact rt _ _ ⟨b,fun z=>.whole (hb z).1 (hb z).2.1 (hb z).2.2,rfl⟩
 | truth=>exact rt _ _ ⟨true,fun _=>.truth,rfl⟩
 | text =>
  refine ql g.lt ?_;refine Gw hW fun b hb=>?_;exact rt _ _ ⟨b,fun z=>.text (hb z).1 (hb z).2,rfl⟩
 | row ho =>
  refine Gw (hM (hs _ ho).z) fun b _=>?_;refine Zf (b:=b) (fun _=>?_) fun _=>rt _ _ .no;refine ql g.mp ?_;refine Gw hW fun b hb=>?_;exact rt _ _ ⟨b,fun z=>.row (hb z).1 (hb z).2,rfl⟩
 | map ho =>
  refine Gw (hM (hs _ ho).z) fun b _=>?_;refine Zf (b:=b) (fun _=>?_) fun _=>rt _ _ .no;refine ql g.mp ?_;refine Gw hW fun b hb=>?_;exact rt _ _ ⟨b,fun z=>.map (hb z).1 (hb z).2,rfl⟩
 | record hp _ =>
  refine ql g.fi ?_;refine Gw (hF hs hp) fun b hb=>?_;exact rt _ _ ⟨b,fun z=>.record (hb z),rfl⟩
 | choice hp _ =>
  refine ql g.ar ?_;refine Gw (hA hs hp) fun b hb=>?_;refine Zf (b:=b) (fun z=>?_) fun _=>rt _ _ .no;exact rt _ _ ⟨true,fun _=>.choice (hb z),rfl⟩
inductive By:T->T->Prop
 | whole{a b i:Int}(h1:a<=i)(h2:i<=b):By (.tup [.str "whole",.int a,.int b]) (.int i)
 | truth {b:Bool}:By (.tup [.str "truth"]) (.bl b)
 | text {n:Int} {x:Str} (h:(x.length:Int)<=n):By (.tup [.str "text",.int n]) (.str x)
 | row {o:Str} {n:Int}:By (.tup [.str "row",.str o,.int n]) (.tup [])
 | map {o:Str} {n:Int}:By (.tup [.str "map",.str o,.int n]) (.tup [])
def PSng(K:Kn):Prop:=∀{ns:ZD} {s v:T},Raw ns s->Dx v->K [.f s,.f v] (Tl (By s v))
theorem Xh{w:W}(hW:Hj (cl w.C "is_whole"))(hT:cx (cl w.C "is_text")):PSng (wF Yv w):=fun {ns s v} h hv=>by
 refine Z1 rfl fun D rt _=>?_;cases h with
 | whole =>
  refine Gw (hW hv) fun b hb=>?_;exact rt _ _ ⟨b,fun z=>by obtain⟨i,rfl,l,u⟩:=hb z;exact .whole l u,rfl⟩
 | truth =>
  cases hv with
  | bl=>exact rt _ _ ⟨true,fun _=>.truth,rfl⟩
  | _=>exact rt _ _ .no
 | text =>
  refine Gw (hT hv) fun b hb=>?_;exact rt _ _ ⟨b,fun z=>by obtain⟨x,rfl,l⟩:=hb z;exact .text l,rfl⟩
 | _=>exact rt _ _ .no
noncomputable def Mi(ps:ZZ)(n:Int):Option T:=ps.find? fun p=>decide (Uv p=n)
theorem Ov{p:T}{ps:ZZ}{n:Int}(e:Uv p=n):Mi (p::ps) n=some p:=List.find?_cons_of_pos (p:=fun p=>decide (Uv p=n)) (Bk e)
theorem Oy{p:T}{ps:ZZ}{n:Int}(e:Uv p≠n):Mi (p::ps) n=Mi ps n:=List.find?_cons_of_neg (p:=fun p=>decide (Uv p=n)) fun z=>e (S8 z)
def Zz4(K:Kn):Prop:=∀{ns:ZD} {k:Bool} {ps r:ZZ} {s:Str} {n:Int},(∀p∈ps,Lw ns k p)->K [.f (.tup (.str s::.tup ps::r)),.f (.int n)] fun x=>x=(.f ((Mi ps n).getD .non),[])
theorem zp{w:W}:Zz4 (wF Uk w):=fun {ns k ps r s n} h=>by
 refine Z1 rfl fun D rt _=>?_;refine ixSn ?_;refine Bg (fun rest p=>∃s2,p=[.f (.tup (.str s::.tup ps::r)),.f (.int n),s2]/\(∀x∈rest,x∈ps)/\Mi ps n=Mi rest n) ⟨_,rfl,fun x m=>m,rfl⟩ (fun x rest p D' hi nx rt'=>?_) fun p hi=>?_
 .obtain⟨s2,rfl,hr,hf⟩:=hi;have hx:=h x (hr x Vk);cases hx with | @mk m y o ds hn hy ho hd =>
  refine R0 ?_;refine Zf (b:=decide (m=n)) (fun e=>?_) fun e=>?_
  .refine rt' _ _ (rt _ _ ?_);rw[hf,Ov (show Uv (T.tup (.int m::.str y::.str o::ds))=n from S8 e)];rfl
  .refine nx _ ⟨_,rfl,fun y m=>hr y (Vb _ m), ?_⟩;rw[hf,Oy (show Uv (T.tup (.int m::.str y::.str o::ds))≠n from of_decide_eq_false e)]
 .obtain⟨s2,rfl,_,hf⟩:=hi;exact rt _ _ (by rw[hf];rfl)
def cj(K:Kn):Prop:=∀{root x:Str} {XB:ZX} {t:T},Zr XB (.inr x)=some t->K [.f (.tup [.str root,.dct XB]),.f (.str x)] fun y=>y=(.f t,[])
theorem Zzz{w:W}:cj (wF G5 w):=fun {root x XB t} e=>by
 refine Z1 rfl fun D rt _=>?_;refine rt _ _ ?_;show ((.f ((Zr XB (.inr x)).getD .non),[]):Sl×ZZ)=(.f t,[]);rw[e];rfl
noncomputable def ofS:T->Str
 | .tup (_::_::.str o::_)=>o
 | _ => ""
def POfs(K:Kn):Prop:=∀{ns:ZD} {t:T},Raw ns t->K [.f t] fun x=>∃os:ZD,(∀o∈os,o∈ns)/\x=(.o (.lst (os.map .str)),[])
theorem Wi{w:W}{ns:ZD}{k:Bool}{ps:ZZ}(hp:D4 ns k ps){Q:ZZ->P->Prop}(q:∀s0,Q ((ps.map ofS).map .str) [s0]) :
  Vs (fun x s K=>on (asg (.v 0) x s) fun s1=>if isNil .nil=true then wE w (Zt (.v 0) (ki 2)) s1 fun r s2=>Bn r fun y=>K (some y) s2
   else wE w .nil s1 fun r s2=>S6 r fun b=>if b=true then wE w (Zt (.v 0) (ki 2)) s2 fun r s3=>Bn r fun y=>K (some y) s3 else K none s2) ps [] [.no] Q:=by
 refine Yy (fun t=>.str (ofS t)) (fun p=>∃s0,p=[s0]) ⟨_,rfl⟩ (fun t mt p K hs hk=>?_) fun p hs=>?_
 .obtain⟨s0,rfl⟩:=hs;cases hp.p t mt with | mk hn hx ho hd =>
  cases hd<;>exact hk _ ⟨_,rfl⟩
 obtain⟨s1,rfl⟩:=hs;rw[show (ps.map fun t=>T.str (ofS t))=(ps.map ofS).map .str by rw[List.map_map];rfl];exact q s1
theorem gv{ns:ZD}{k:Bool}{ps:ZZ}(hp:D4 ns k ps):∀o∈ps.map ofS,o∈ns:=fun o m=>by
 obtain⟨p,mp,rfl⟩:=D6.mp m;cases hp.p p mp with | mk hn hx ho hd=>exact ho
theorem ofs_ok{w:W}:POfs (wF M7 w):=fun {ns t} h=>by
 refine Z1 rfl fun D rt _=>?_;cases h with
 | @row o n ho=>exact rt _ _ ⟨[o],(fun x m=>by rw[U1.mp m];exact ho),rfl⟩
 | @map o n ho=>exact rt _ _ ⟨[o],(fun x m=>by rw[U1.mp m];exact ho),rfl⟩
 | record hp _ =>
  refine Wi hp fun s0=>?_;exact rt _ _ ⟨_,gv hp,rfl⟩
 | choice hp _ =>
  refine Wi hp fun s0=>?_;exact rt _ _ ⟨_,gv hp,rfl⟩
 | _=>exact rt _ _ ⟨[],(fun x m=>absurd m Tj),rfl⟩
noncomputable abbrev zq(ps:ZZ)(zs:ZL):T:=.tup [.str "record",.tup ps,.tup (zs.map .int)]
structure Tq(ns:ZD)(XB:ZX):Prop where
 k:XB.map (·.1)=ns.map Sum.inr
 r:∀p∈XB,Raw ns p.2
 sm:∀x∈ns,Sm x
theorem Y2{XB:ZX}{k:Key}{t:T}(h:Zr XB k=some t):(k,t)∈XB:=by
 obtain⟨p,e,rfl⟩:=Z4.mp (show (XB.find? fun p=>decide (p.1=k)).map (·.2)=some t from h);have:=S8 (List.find?_some (p:=fun p:Key×T=>decide (p.1=k)) e);have m:=List.mem_of_find?_eq_some e;rw[<-this];exact m
theorem Tq.get{ns:ZD}{XB:ZX}(h:Tq ns XB){o:Str}(ho:o∈ns):∃s,Zr XB (.inr o)=some s/\Raw ns s:=by
 have m:(Sum.inr o:Key)∈XB.map (·.1):=by rw[h.k];exact List.mem_map_of_mem ho
 cases e:Zr XB (.inr o) with
 | some s=>exact⟨s,rfl,h.r _ (Y2 e)⟩
 | none =>
  exfalso
  obtain⟨p,mp,ep⟩:=D6.mp m;have e:(XB.find? fun p=>decide (p.1=Sum.inr o)).map (·.2)=none:=e;rw[Option.map_eq_none_iff,List.find?_eq_none]at e;exact e p mp (Bk ep)
theorem Tq.key{ns:ZD}{XB:ZX}(h:Tq ns XB){p:Key×T}(m:p∈XB):∃x,x∈ns/\p.1=.inr x:=by
 have:p.1∈XB.map (·.1):=List.mem_map_of_mem m;rw[h.k]at this;obtain⟨x,mx,e⟩:=D6.mp this;exact⟨x,mx,e.symm⟩
def DF(XB:ZX)(ps:ZZ):Prop:=∀n x o v,T.tup [.int n,.str x,.str o,.tup [v]]∈ps->∃s,Zr XB (.inr o)=some s/\By s v
def PFd(K:Kn):Prop:=∀{ns:ZD} {XB:ZX} {n:Int} {x o:Str} {ds:ZZ} {s:T},Zr XB (.inr o)=some s->Raw ns s->Dfl ds->K [.f (.tup [.int n,.str x,.str o,.tup ds]),.f (.dct XB)] (Tl (∀v,ds=[v]->By s v))
theorem m4{w:W}(hS:PSng (cl w.C "is_single_value")):PFd (wF Y3 w):=fun {ns XB n x o ds s} e hs hd=>by
 refine Z1 rfl fun D rt _=>?_;refine Kv e ?_;cases hd with
 | no=>exact rt _ _ ⟨true,(fun _ v z=>nomatch z),rfl⟩
 | @is v hv =>
  cases hs with
  | row ho =>
   cases hv with
   | nil=>exact rt _ _ ⟨true,(fun _ v z=>by cases z;exact .row),rfl⟩
   | _=>exact rt _ _ .no
  | map ho =>
   cases hv with
   | nil=>exact rt _ _ ⟨true,(fun _ v z=>by cases z;exact .map),rfl⟩
   | _=>exact rt _ _ .no
  | whole=>refine Gw (hS (ns:=ns) .whole hv) fun b hb=>?_;exact rt _ _ ⟨b,(fun z v e=>by cases e;exact hb z),rfl⟩
  | truth=>refine Gw (hS (ns:=ns) .truth hv) fun b hb=>?_;exact rt _ _ ⟨b,(fun z v e=>by cases e;exact hb z),rfl⟩
  | text=>refine Gw (hS (ns:=ns) .text hv) fun b hb=>?_;exact rt _ _ ⟨b,(fun z v e=>by cases e;exact hb z),rfl⟩
  | record hp hz=>refine Gw (hS (.record hp hz) hv) fun b hb=>?_;exact rt _ _ ⟨b,(fun z v e=>by cases e;exact hb z),rfl⟩
  | choice hp hz=>refine Gw (hS (.choice hp hz) hv) fun b hb=>?_;exact rt _ _ ⟨b,(fun z v e=>by cases e;exact hb z),rfl⟩
def PFi(K:Kn):Prop:=∀{ns:ZD} {XB:ZX} {s:T},Tq ns XB->Raw ns s->K [.f s,.f (.dct XB)] (Tl (∀ps zs,s=zq ps zs->DF XB ps))
theorem m3{w:W}(hO:POfs (cl w.C "ofs_of"))(hD:PFd (cl w.C "fits_default")):PFi (wF G6 w):=fun {ns XB s} hk hs=>by
 refine Z1 rfl fun D rt _=>?_;refine Y8 (hO hs) fun y ⟨os,ho,ey⟩=>?_;subst ey;refine Nm (fun _=>True) (fun p=>∃s0,p=[s0,.f (.dct XB)]) ⟨_,rfl⟩ (fun t mt p K hp hk=>?_) fun bs p _ hp=>?_
 .obtain⟨s0,rfl⟩:=hp;obtain⟨o,_,rfl⟩:=D6.mp mt;exact hk _ _ (fun _=>trivial) ⟨_,rfl⟩
 obtain⟨s0,rfl⟩:=hp;refine qw ?_;refine Zf (b:=!bs.all id) (fun _=>rt _ _ .no) fun _=>?_;cases hs with
 | @record ps zs hp hz =>
  refine Nm (fun t=>∀n x o v,t=.tup [.int n,.str x,.str o,.tup [v]]->∃s,Zr XB (.inr o)=some s/\By s v) (fun p=>∃s0,p=[s0,.f (.dct XB)]) ⟨_,rfl⟩ (fun t mt p K hq c8=>?_) fun bs p hb hq=>?_
  .obtain⟨s0,rfl⟩:=hq;cases hp.p t mt with | @mk n x o ds hn hx ho hd =>
   cases hd with | @fld ds hd =>
   obtain⟨s,e,hs⟩:=hk.get ho;refine Gw (hD e hs hd) fun b hb=>?_;exact c8 b _ (fun z n x o v e'=>by cases e';exact⟨s,e,hb z v rfl⟩) ⟨_,rfl⟩
  obtain⟨s0,rfl⟩:=hq;refine qw ?_;refine rt _ _ ⟨_,fun z ps' cv e=>?_,rfl⟩;have e':T.tup ps=.tup ps':=by injection e with e;injection e with _ e;injection e with e _
  cases e';exact fun n x o v m=>hb z _ m n x o v rfl
 | _=>exact rt _ _ ⟨true,(fun _ ps zs z=>by cases z),rfl⟩
def PFms(K:Kn):Prop:=∀{ns:ZD} {XB:ZX},Tq ns XB->K [.f (.dct XB)] (Tl (∀p∈XB,Qm p.2))
theorem me{w:W}(g:GL w.gl)(hM:Lg (cl w.C "is_name"))(hS:PShp (cl w.C "is_shape")):PFms (wF Ur w):=fun {ns XB} hk=>by
 refine Z1 rfl fun D rt _=>?_;refine ql g.mm ?_;refine c2P ?_;refine Zf (b:=!(decide ((1:Int)<=(XB.length:Nat)) && decide (((XB.length:Nat):Int)<=8))) (fun _=>rt _ _ .no) fun _=>?_;refine Nm (fun t=>∀k s,t=.tup [k,s]->Qm s) (fun p=>∃s0 s1,p=[s0,s1]) ⟨_,_,rfl⟩ (fun t mt p K hq c8=>?_) fun bs p hb hq=>?_
 .obtain⟨s0,s1,rfl⟩:=hq;obtain⟨⟨k,s⟩,mp,rfl⟩:=D6.mp mt;obtain⟨x,mx,ex⟩:=hk.key mp;cases(show k=.inr x from ex);refine Gw (hM (hk.sm x mx).z) fun b _=>?_;refine Zf (b:=b) (fun _=>?_) fun _=>c8 false _ (fun z=>nomatch z) ⟨_,_,rfl⟩;refine Gw (hS hk.sm (hk.r _ mp)) fun b hb=>?_;exact c8 b _ (fun z k s e=>by cases e;exact hb z) ⟨_,_,rfl⟩
 obtain⟨s0,s1,rfl⟩:=hq;refine qw ?_;exact rt _ _ ⟨_,fun z p mp=>hb z _ (List.mem_map_of_mem mp) _ _ rfl,rfl⟩
def PMk(K:Kn):Prop:=∀{ns:ZD} {XB:ZX} {root:Str},Tq ns XB->root∈ns->K [.f (.tup [.str root,.dct XB])] (Tl ((∀p∈XB,Qm p.2)/\∀p∈XB,∀ps zs,p.2=zq ps zs->DF XB ps))
theorem z6{w:W}(hF:PFms (cl w.C "are_forms"))(hM:Lg (cl w.C "is_name"))(hI:PFi (cl w.C "fits_in")):PMk (wF G3 w):=fun {ns XB root} hk hr=>by
 refine Z1 rfl fun D rt _=>?_;refine Gw (hF hk) fun b1 h1=>?_;refine Zf (b:=!b1) (fun _=>rt _ _ .no) fun z1=>?_;refine Gw (hM (hk.sm _ hr).z) fun b2 _=>?_;refine Zf (b:=!b2) (fun _=>rt _ _ .no) fun _=>?_;refine Zf (b:=!(Zr XB (.inr root)).isSome) (fun _=>rt _ _ .no) fun _=>?_;refine Nm (fun s=>∀ps zs,s=zq ps zs->DF XB ps) (fun p=>∃s0,p=[s0,.f (.dct XB)]) ⟨_,rfl⟩ (fun t mt p K hq c8=>?_) fun bs p hb hq=>?_
 .obtain⟨s0,rfl⟩:=hq;obtain⟨q,mq,rfl⟩:=D6.mp mt;refine Gw (hI hk (hk.r _ mq)) fun b hb=>?_;exact c8 b _ hb ⟨_,rfl⟩
 obtain⟨s0,rfl⟩:=hq;refine qw ?_;exact rt _ _ ⟨_,fun z=>⟨h1 (Ph z1),fun p mp=>hb z _ (List.mem_map_of_mem mp)⟩,rfl⟩
structure Sh(d w:Nat)(t:T):Prop where
 o:okT 20 t
 w:cy t<=w
 d:dpT t<=d
theorem Sh.mono{d w d' w':Nat}{t:T}(h:Sh d w t)(hd:d<=d')(hw:w<=w'):Sh d' w' t:=⟨h.o,Uu h.w hw,Uu h.d hd⟩
theorem Az{d w:Nat}:∀{ts:ZZ},(∀t∈ts,Sh d w t)->gj 20 ts/\Ey ts<=ts.length * (w+1)/\xf ts<=d
 | [],_=>⟨trivial,B2 _,B2 _⟩
 | t::r,h=>by
  have a:=h t Vk;obtain⟨b,c,e⟩:=Az (ts:=r) fun x m=>h x (Vb _ m);refine⟨⟨a.o,b⟩, ?_,Nat.max_le.mpr ⟨a.d,e⟩⟩;show cy t+1+Ey r<=(r.length+1) * (w+1);have:=a.w;rw[Nat.add_mul];omega
theorem Sh.tup{d w n:Nat}{ts:ZZ}(l:ts.length<=n)(l':n<=20)(h:∀t∈ts,Sh d w t):Sh (d+1) (n * (w+1)) (.tup ts):=by
 obtain⟨a,b,c⟩:=Az h;exact⟨⟨Uu l l',a⟩,Uu b (Nat.mul_le_mul_right _ l),Nat.add_le_add_right c 1⟩
theorem vn{d w:Nat}:∀{XB:ZX},(∀p∈XB,(∃x,Sm x/\p.1=.inr x)/\Sh d w p.2)->ou 20 XB/\Xq XB<=XB.length * (w+10)/\dg XB<=d
 | [],_=>⟨trivial,B2 _,B2 _⟩
 | (k,t)::r,h=>by
  obtain⟨⟨x,hx,e⟩,a⟩:=h (k,t) Vk;cases(show k=.inr x from e);obtain⟨b,c,e⟩:=vn (XB:=r) fun x m=>h x (Vb _ m);refine⟨⟨hx.2,a.o,b⟩, ?_,Nat.max_le.mpr ⟨a.d,e⟩⟩;show x.length+cy t+2+Xq r<=(r.length+1) * (w+10);have:=(show cy t<=w from a.w);have:=hx.1;rw[Nat.add_mul];omega
theorem L0{i:Int}(h:qh i):Sh 1 70 (.int i):=⟨(show i.natAbs<=10 ^ 19 by have:=h.1;have:=h.2;omega),Yz _,B2 _⟩
theorem Jg{x:Str}(h:Sm x):Sh 1 70 (.str x):=⟨h.2,Uu h.1 (by omega),B2 _⟩
theorem Pl{n:Int}(h:n∈Hw):qh n:=by
 have:∀n∈Hw, -1000000000000000000<=n/\n<=1000000000000000000:=by decide
 exact this n h
theorem sh_dx{t:T}(h:Dx t):Sh 1 70 t:=by
 cases h with
 | int h=>exact L0 h
 | bl=>exact⟨trivial,B2 _,B2 _⟩
 | str h=>exact Jg h
 | nil=>exact⟨⟨B2 _,trivial⟩,B2 _,Yz _⟩
theorem sh1{a:T}{d w:Nat}(ha:Sh d w a):Sh (d+1) (4 * (w+1)) (.tup [a]):=Sh.tup (by simp) (by omega) (by simp[ha])
theorem sh2{a b:T}{d w:Nat}(ha:Sh d w a)(hb:Sh d w b):Sh (d+1) (4 * (w+1)) (.tup [a,b]):=Sh.tup (by simp) (by omega) (by simp[ha,hb])
theorem sh3{a b c:T}{d w:Nat}(ha:Sh d w a)(hb:Sh d w b)(hc:Sh d w c):Sh (d+1) (4 * (w+1)) (.tup [a,b,c]):=Sh.tup (by simp) (by omega) (by simp[ha,hb,hc])
theorem sh4{a b c e:T}{d w:Nat}(ha:Sh d w a)(hb:Sh d w b)(hc:Sh d w c)(he:Sh d w e):Sh (d+1) (4 * (w+1)) (.tup [a,b,c,e]):=Sh.tup (by simp) (by omega) (by simp[ha,hb,hc,he])
theorem sh_prt{ns:ZD}{k:Bool}{t:T}(hs:∀x∈ns,Sm x)(h:Lw ns k t):Sh 3 288 t:=by
 cases h with | @mk n x o ds hn hx ho hd =>
 have a:=(L0 (Pl hn)).mono (d':=2) (w':=71) (by omega) (by omega);have b:=(Jg hx).mono (d':=2) (w':=71) (by omega) (by omega);have c:=(Jg (hs o ho)).mono (d':=2) (w':=71) (by omega) (by omega);cases hd with
 | arm=>exact sh3 a b c
 | @fld ds hd =>
  have d:Sh 2 71 (.tup ds):=by
   refine Sh.tup (n:=1) (w:=70) (d:=1) ?_ (by omega) fun t m=>?_
   .cases hd<;>simp
   .cases hd with
    | no=>nomatch m
    | is h=>cases U1.mp m;exact sh_dx h
  exact sh4 a b c d
theorem sm_w:∀x∈(["whole","truth","text","row","map","record","choice"]:ZD),Sm x:=fun x m=>by
 have h1:∀x∈(["whole","truth","text","row","map","record","choice"]:ZD),x.length<=8:=by decide
 have h2:∀x∈(["whole","truth","text","row","map","record","choice"]:ZD),∀c∈x.cps.toList,c<16 ^ 8:=by decide
 exact⟨h1 x m,h2 x m⟩
theorem Du{x:Str}(h:x∈(["whole","truth","text","row","map","record","choice"]:ZD)):Sh 4 2312 (.str x):=(Jg (sm_w x h)).mono (by omega) (by omega)
theorem vc{i:Int}(h:qh i):Sh 4 2312 (.int i):=(L0 h).mono (by omega) (by omega)
theorem Li{ns:ZD}{k:Bool}{ps:ZZ}{zs:ZL}(hs:∀x∈ns,Sm x)(hp:D4 ns k ps)(h:Mem ps zs):Sh 4 2312 (.tup ps)/\Sh 4 2312 (.tup (zs.map .int)) :=
 ⟨Sh.tup (n:=8) h.l (by omega) fun t m=>sh_prt hs (hp.p t m),(Sh.tup (n:=8) (by rw[Z0];exact h.sl) (by omega) fun t m=>by
  obtain⟨z,mz,rfl⟩:=D6.mp m;exact L0 (h.sb z mz)).mono (by omega) (by omega)⟩
theorem vt{ns:ZD}{s:T}(hs:∀x∈ns,Sm x)(h:Raw ns s)(h':Qm s):Sh 5 9252 s:=by
 have hb:∀b,Sh 4 2312 (.bl b):=fun b=>⟨trivial,B2 _,B2 _⟩;have ho:∀o∈ns,Sh 4 2312 (.str o):=fun o m=>(Jg (hs o m)).mono (by omega) (by omega);cases h' with
 | whole ha hb _=>exact sh3 (Du (by decide)) (vc ha) (vc hb)
 | truth=>exact sh1 (Du (by decide))
 | text h0 h1=>exact sh2 (Du (by decide)) (vc ⟨by omega,by omega⟩)
 | row h0 h1=>cases h with | row m=>exact sh3 (Du (by decide)) (ho _ m) (vc ⟨by omega,by omega⟩)
 | map h0 h1=>cases h with | map m=>exact sh3 (Du (by decide)) (ho _ m) (vc ⟨by omega,by omega⟩)
 | @record ps zs hm =>
  obtain⟨s,e⟩:∃s,s=T.tup [.str "record",.tup ps,.tup (zs.map .int)]:=⟨_,rfl⟩;rw[<-e]at h;cases h with
  | record hp _=>injection e with e;injection e with _ e;injection e with e1 _;injection e1 with e1;subst e1;exact sh3 (Du (by decide)) (Li hs hp hm).1 (Li hs hp hm).2
  | _=>cases e
 | @choice ps zs b hm =>
  obtain⟨s,e⟩:∃s,s=T.tup [.str "choice",.tup ps,.tup (zs.map .int),.bl b]:=⟨_,rfl⟩;rw[<-e]at h;cases h with
  | choice hp _=>injection e with e;injection e with _ e;injection e with e1 _;injection e1 with e1;subst e1;exact sh4 (Du (by decide)) (Li hs hp hm).1 (Li hs hp hm).2 (hb _)
  | _=>cases e
noncomputable def pln:T->Bool
 | .tup [_,.tup _,_]=>false
 | .tup [_,.tup _,_,_]=>false
 | _=>true
structure Mk(ns:ZD)(root:Str)(XB:ZX):Prop where
 raw:Tq ns XB
 root:root∈ns
 ok:∀p∈XB,Qm p.2
 fit:∀p∈XB,∀ps zs,p.2=zq ps zs->DF XB ps
 pl:∃x,x∈ns/\∃s,Zr XB (.inr x)=some s/\pln s=true
 l:ns.length<=6
noncomputable abbrev mkT(root:Str)(XB:ZX):T:=.tup [.str root,.dct XB]
theorem Mk.sh{ns:ZD}{root:Str}{XB:ZX}(h:Mk ns root XB):Sh 7 111146 (mkT root XB):=by
 have l:XB.length=ns.length:=by
  have:=congrArg List.length h.raw.k;rw[Z0,Z0]at this;exact this
 obtain⟨a,b,c⟩:=vn (d:=5) (w:=9252) (XB:=XB) fun p m=>⟨let ⟨x,mx,e⟩:=h.raw.key m;⟨x,h.raw.sm x mx,e⟩,vt h.raw.sm (h.raw.r p m) (h.ok p m)⟩;have d:Sh 6 55572 (.dct XB):=⟨a,Uu b (by have:=h.l;rw[l];omega),Nat.add_le_add_right c 1⟩
 exact Sh.tup (n:=2) (d:=6) (w:=55572) (Yz _) (by omega) fun t m=>by
  rcases Y6.mp m with rfl | m
  .exact(Jg (h.raw.sm _ h.root)).mono (by omega) (by omega)
  .cases U1.mp m;exact d
noncomputable def knB(ps qs:ZZ):Bool:=ps.all fun p=>qs.any fun q=>decide (Uv q=Uv p)
noncomputable def xw:T->T->Bool
 | .tup [_,.tup ps,_],.tup [_,.tup qs,_]=>knB ps qs
 | .tup [_,.tup ps,_,_],.tup [_,.tup qs,_,_]=>knB ps qs
 | _,_=>true
theorem Og(n:Int):∀qs:ZZ,(Mi qs n).isSome=qs.any fun q=>decide (Uv q=n)
 | []=>rfl
 | q::qs=>by
  rw[List.any_cons];by_cases h:Uv q=n
  .rw[Ov h,Bk h];rfl
  .rw[Oy h,Nf h,Og n qs];rfl
theorem gp{ns:ZD}{k:Bool}{qs:ZZ}{n:Int}(h:∀q∈qs,Lw ns k q):Wz .isnt ((Mi qs n).getD .non) .non=some (qs.any fun q=>decide (Uv q=n)):=by
 rw[<-Og];cases e:Mi qs n with
 | none=>rfl
 | some q =>
  cases h q (List.mem_of_find?_eq_some e) with | mk _ _ _ _=>rfl
def PHas(K:Kn):Prop:=∀{ns Gx:ZD} {s s':T},Raw ns s->Raw Gx s'->K [.f s,.f s'] fun x=>x=(.f (.bl (xw s s')),[])
theorem Ox{w:W}(hM:Zz4 (cl w.C "member_of")){ns Gx:ZD}{k k':Bool}{ps qs r:ZZ}{s:Str}(hp:∀p∈ps,Lw ns k p)(hq:∀p∈qs,Lw Gx k' p){Q:ZZ->P->Prop}(q:∀s0,Q (ps.map fun p=>.bl (qs.any fun q=>decide (Uv q=Uv p))) [s0,.f (.tup (.str s::.tup qs::r))]) :
  Vs (fun x s K=>on (asg (.v 0) x s) fun s1=>if isNil .nil=true then wE w (.pr (.cm .isnt) (Zv (.call "member_of" (Zv (.v 1) (Zt (.v 0) (ki 0)))) (.k .non))) s1 fun r s2=>Bn r fun y=>K (some y) s2
   else wE w .nil s1 fun r s2=>S6 r fun b=>if b=true then wE w (.pr (.cm .isnt) (Zv (.call "member_of" (Zv (.v 1) (Zt (.v 0) (ki 0)))) (.k .non))) s2 fun r s3=>Bn r fun y=>K (some y) s3 else K none s2) ps [] [.no,.f (.tup (.str s::.tup qs::r))] Q:=by
 refine Yy (fun p=>.bl (qs.any fun q=>decide (Uv q=Uv p))) (fun p=>∃s0,p=[s0,.f (.tup (.str s::.tup qs::r))]) ⟨_,rfl⟩ (fun t mt p K hs hk=>?_) fun p hs=>by obtain⟨s0,rfl⟩:=hs;exact q s0
 obtain⟨s0,rfl⟩:=hs;cases hp t mt with | @mk n x o ds hn hx ho hd =>
 refine R0 ?_;refine Y8 (hM hq) fun y ey=>?_;subst ey;refine Z2 (a:=Sl.f (.bl (qs.any fun q=>decide (Uv q=n)))) (by show (Wz _ _ _).map _=_;rw[gp hq];rfl) ?_;exact hk _ ⟨_,rfl⟩
theorem has_ok{w:W}(hM:Zz4 (cl w.C "member_of")):PHas (wF G4 w):=fun {ns Gx s s'} h h'=>by
 refine Z1 rfl fun D rt _=>?_;cases h with
 | record hp hz =>
  cases h' with
  | record hq _ =>
   refine Ox hM hp.p hq.p fun s0=>?_;refine Hz ?_;exact rt _ _ rfl
  | _=>exact rt _ _ rfl
 | choice hp hz =>
  cases h' with
  | choice hq _ =>
   refine Ox hM hp.p hq.p fun s0=>?_;refine Hz ?_;exact rt _ _ rfl
  | _=>exact rt _ _ rfl
 | _=>cases h'<;>exact rt _ _ rfl
noncomputable def hP(XB Yn:ZX):T->Bool
 | .tup [.str a,.str b]=>xw ((Zr XB (.inr a)).getD .non) ((Zr Yn (.inr b)).getD .non)
 | _=>true
def Prr(ns Gx:ZD)(ts:ZZ):Prop:=∀t∈ts,∃a b,a∈ns/\b∈Gx/\t=.tup [.str a,.str b]
def PKn(K:Kn):Prop:=∀{ns Gx:ZD} {r r':Str} {XB Yn:ZX} {ts:ZZ} {u:T},Tq ns XB->Tq Gx Yn->Prr ns Gx ts->K [.f (mkT r XB),.f (mkT r' Yn),.f (.tup [.tup ts,u])] fun x=>x=(.f (.bl (ts.all (hP XB Yn))),[])
theorem Zx3{XB Yn:ZX}{a b:Str}{s s':T}(e:Zr XB (.inr a)=some s)(e':Zr Yn (.inr b)=some s'):hP XB Yn (.tup [.str a,.str b])=xw s s':=by
 show xw _ _=_;rw[e,e'];rfl
theorem fm{w:W}(hF:cj (cl w.C "form_of"))(hH:PHas (cl w.C "has_all")):PKn (wF Ut w):=fun {ns Gx r r' XB Yn ts u} h h' ht=>by
 refine Z1 rfl fun D rt _=>?_;refine Yy (fun t=>.bl (hP XB Yn t)) (fun p=>∃s0 s1,p=[s0,s1,.f (mkT r XB),.f (mkT r' Yn)]) ⟨_,_,rfl⟩ (fun t mt p K hs hk=>?_) fun p hs=>?_
 .obtain⟨s0,s1,rfl⟩:=hs;obtain⟨a,b,ma,mb,rfl⟩:=ht t mt;obtain⟨s,e,hs⟩:=h.get ma;obtain⟨s',e',Ng⟩:=h'.get mb;refine Y8 (hF e) fun y ey=>?_;subst ey;refine Y8 (hF e') fun y ey=>?_;subst ey;refine Y8 (hH hs Ng) fun y ey=>?_;subst ey;have:=hk [.f (.str a),.f (.str b),.f (mkT r XB),.f (mkT r' Yn)] ⟨_,_,rfl⟩;rw[Zx3 e e']at this;exact this
 obtain⟨s0,s1,rfl⟩:=hs;refine Hz ?_;exact rt _ _ rfl
theorem Ca{w:W}{ns:ZD}{k:Bool}{ps:ZZ}(hp:∀p∈ps,Lw ns k p){Q:ZZ->P->Prop}(q:∀s0,Q ((ps.map Uv).map .int) [s0]) :
  Vs (fun x s K=>on (asg (.v 0) x s) fun s1=>if isNil .nil=true then wE w (Zt (.v 0) (ki 0)) s1 fun r s2=>Bn r fun y=>K (some y) s2
   else wE w .nil s1 fun r s2=>S6 r fun b=>if b=true then wE w (Zt (.v 0) (ki 0)) s2 fun r s3=>Bn r fun y=>K (some y) s3 else K none s2) ps [] [.no] Q:=by
 refine Yy (fun t=>.int (Uv t)) (fun p=>∃s0,p=[s0]) ⟨_,rfl⟩ (fun t mt p K hs hk=>?_) fun p hs=>?_
 .obtain⟨s0,rfl⟩:=hs;cases hp t mt with | mk hn hx ho hd =>
  refine R0 ?_;exact hk _ ⟨_,rfl⟩
 obtain⟨s1,rfl⟩:=hs;rw[show (ps.map fun t=>T.int (Uv t))=(ps.map Uv).map .int by rw[List.map_map];rfl];exact q s1
noncomputable def unk(qs:ZZ)(p:T):Option T:=if ((qs.map Uv).any fun z=>decide (z=Uv p))=true then none else some p
theorem Gy{qs:ZZ}:∀{ps:ZZ},(decide ((0:Int)<((ps.filterMap (unk qs)).length:Nat)))=!knB ps qs
 | []=>rfl
 | p::ps=>by
  have ih:=Gy (qs:=qs) (ps:=ps);have e:((qs.map Uv).any fun z=>decide (z=Uv p))=qs.any fun q=>decide (Uv q=Uv p):=by rw[List.any_map];rfl
  have s:knB (p::ps) qs=((qs.any fun q=>decide (Uv q=Uv p)) && knB ps qs):=rfl;rw[s];cases h:qs.any fun q=>decide (Uv q=Uv p) with
  | true=>rw[List.filterMap_cons_none (by unfold unk;rw[e,h];rfl),ih];rfl
  | false =>
   rw[List.filterMap_cons_some (b:=p) (by unfold unk;rw[e,h];rfl)];exact Bk (by rw[D9];omega)
theorem Qo{w:W}{ns:ZD}{k:Bool}{ps qs:ZZ}(hp:∀p∈ps,Lw ns k p){Q:ZZ->P->Prop}(q:∀s0,Q (ps.filterMap (unk qs)) [s0,.o (.lst ((qs.map Uv).map .int))]) :
  Vs (fun x s K=>on (asg (.v 0) x s) fun s1=>if isNil (.pr (.cm .notin) (Zv (Zt (.v 0) (ki 0)) (.v 1)))=true then wE w (.v 0) s1 fun r s2=>Bn r fun y=>K (some y) s2
   else wE w (.pr (.cm .notin) (Zv (Zt (.v 0) (ki 0)) (.v 1))) s1 fun r s2=>S6 r fun b=>if b=true then wE w (.v 0) s2 fun r s3=>Bn r fun y=>K (some y) s3 else K none s2) ps [] [.no,.o (.lst ((qs.map Uv).map .int))] Q:=by
 refine wCompF (unk qs) (fun p=>∃s0,p=[s0,.o (.lst ((qs.map Uv).map .int))]) ⟨_,rfl⟩ (fun t mt p K hs hk=>?_) fun p hs=>?_
 .obtain⟨s0,rfl⟩:=hs;cases hp t mt with | @mk n x o ds hn hx ho hd =>
  refine R0 ?_;refine notinP ?_;have:=hk [.f (.tup (.int n::.str x::.str o::ds)),.o (.lst ((qs.map Uv).map .int))] ⟨_,rfl⟩;refine Zf (b:=!((qs.map Uv).any fun z=>decide (z=n))) (fun z=>?_) fun z=>?_
  .rw[show unk qs (.tup (.int n::.str x::.str o::ds))=some (.tup (.int n::.str x::.str o::ds)) from if_neg (fun y:((qs.map Uv).any fun z=>decide (z=n))=true=>by rw[gf z]at y;cases y)]at this;exact this
  .rw[show unk qs (.tup (.int n::.str x::.str o::ds))=none from if_pos (Ph z)]at this;exact this
 obtain⟨s1,rfl⟩:=hs;exact q s1
theorem fu{w:W}:PKn (wF Ys w):=fun {ns Gx r r' XB Yn ts u} h h' ht=>by
 refine Z1 rfl fun D rt _=>?_;refine Bg (fun rest p=>∃s3 s4 s5 s6 s7,p=[.f (mkT r XB),.f (mkT r' Yn),.f (.tup [.tup ts,u]),s3,s4,s5,s6,s7]/\(∀x∈rest,x∈ts)/\ts.all (hP XB Yn)=rest.all (hP XB Yn)) ⟨_,_,_,_,_,rfl,fun x m=>m,rfl⟩ (fun x rest p D' hi nx rt'=>?_) fun p hi=>?_
 .obtain⟨s3,s4,s5,s6,s7,rfl,hr,hf⟩:=hi;obtain⟨a,b,ma,mb,rfl⟩:=ht x (hr x Vk);obtain⟨s,e,hs⟩:=h.get ma;obtain⟨s',e',Ng⟩:=h'.get mb;rw[List.all_cons,Zx3 e e']at hf;refine Kv e ?_;refine Kv e' ?_;have no:xw s s'=false->ts.all (hP XB Yn)=false:=fun z=>by rw[hf,z];rfl
  have yes:xw s s'=true->∀s3 s4 s5 s6 s7,D'.nx [.f (mkT r XB),.f (mkT r' Yn),.f (.tup [.tup ts,u]),s3,s4,s5,s6,s7]:=fun z s3 s4 s5 s6 s7=>nx _ ⟨_,_,_,_,_,rfl,fun y m=>hr y (Vb _ m),by rw[hf,z];rfl⟩;cases hs with
  | record hp hz =>
   cases Ng with
   | record hq _ =>
    refine Ca hq.p fun s0=>?_;refine Qo hp.p fun s0=>?_;refine Zf (b:=decide ((0:Int)<_)) (fun z=>?_) fun z=>yes ?_ _ _ _ _ _
    .rw[Gy]at z;exact rt' _ _ (rt _ _ (by rw[no (gf z)];rfl))
    .rw[Gy]at z;exact Ph z
   | _=>exact yes rfl _ _ _ _ _
  | choice hp hz =>
   cases Ng with
   | choice hq _ =>
    refine Ca hq.p fun s0=>?_;refine Qo hp.p fun s0=>?_;refine Zf (b:=decide ((0:Int)<_)) (fun z=>?_) fun z=>yes ?_ _ _ _ _ _
    .rw[Gy]at z;exact rt' _ _ (rt _ _ (by rw[no (gf z)];rfl))
    .rw[Gy]at z;exact Ph z
   | _=>exact yes rfl _ _ _ _ _
  | _=>cases Ng<;>exact yes rfl _ _ _ _ _
 .obtain⟨s3,s4,s5,s6,s7,rfl,_,hf⟩:=hi;exact rt _ _ (by rw[hf];rfl)
def PAlk(K:Kn):Prop:=∀{b:Bool},K [.f (.bl b),.f (.bl b)] fun x=>x=(.f (.bl true),[])
theorem t8{w:W}:PAlk (wF Ud w):=fun {b}=>by
 refine Z1 rfl fun D rt _=>?_;cases b<;>exact rt _ _ rfl
def PRgt(K:Kn):Prop:=∀{ns Gx:ZD} {r r':Str} {XB Yn:ZX} {ts us:ZZ},Mk ns r XB->Mk Gx r' Yn->Prr ns Gx ts->ts.length<=12->us.length<=12->(∀u∈us,∃x,Sm x/\u=.str x)->K [.f (mkT r XB),.f (mkT r' Yn),.f (.tup [.tup ts,.tup us])] fun x=>x=(.f (.bl true),[])
theorem v8{w:W}(hA:PAlk (cl w.C "_law_alike"))(hL:PKn (cl w.C "_law_all_known"))(hK:PKn (cl w.C "knows_all")):PRgt (wF Ug w):=fun {ns Gx r r' XB Yn ts us} h h' ht lt lu hu=>by
 refine Z1 rfl fun D rt _=>?_
 have a1:Sh 3 1716 (.tup ts):=Sh.tup (n:=12) (d:=2) (w:=142) lt (by omega) fun t m=>by
  obtain⟨a,b,ma,mb,rfl⟩:=ht t m
  exact Sh.tup (n:=2) (d:=1) (w:=70) (Yz _) (by omega) fun t m=>by
   rcases Y6.mp m with rfl | m
   .exact Jg (h.raw.sm a ma)
   .cases U1.mp m;exact Jg (h'.raw.sm b mb)
 have a2:Sh 2 852 (.tup us):=Sh.tup (n:=12) (d:=1) (w:=70) lu (by omega) fun t m=>by
  obtain⟨x,hx,rfl⟩:=hu t m;exact Jg hx
 have a3:Sh 8 333441 (.tup [mkT r XB,mkT r' Yn,.tup [.tup ts,.tup us]]):=Sh.tup (n:=3) (d:=7) (w:=111146) (Yz _) (by omega) fun t m=>by
  rcases Y6.mp m with rfl | m
  .exact h.sh
  rcases Y6.mp m with rfl | m
  .exact h'.sh
  cases U1.mp m;exact(sh2 (d:=3) (w:=1716) a1 (a2.mono (by omega) (by omega))).mono (by omega) (by omega)
 obtain⟨z,ez⟩:=rpT_ok a3.o (Uu a3.w (by omega)) (Uu a3.d (by omega));refine Z2 (a:=Sl.f (.str z)) (by show (rpT _).map _=_;rw[ez];rfl) ?_;refine Y8 (hL h.raw h'.raw ht) fun y ey=>?_;subst ey;refine Y8 (hK h.raw h'.raw ht) fun y ey=>?_;subst ey;refine Y8 hA fun y ey=>?_;subst ey;refine Z2 (a:=Sl.f (.str z)) (by show (rpT _).map _=_;rw[ez];rfl) ?_;refine rt _ _ ?_;show ((.f (.bl (decide (z=z))),[]):Sl×ZZ)=_;rw[Bk rfl]
theorem Wu{zs:ZL}{r:Int}{Q:Sl->Prop}(h0:0<=r)(h1:r<(zs.length:Nat))(q:∀z,z∈zs->Q (.f (.int z))):on ((Qt (.lst (zs.map .int)) (.int r)).map Sl.f) Q:=ixP h0 (by rw[Z0];exact h1) fun x _ mx=>by
 obtain⟨z,mz,rfl⟩:=D6.mp mx;exact q z mz
theorem J2{ss:ZD}{r:Int}{Q:Sl->Prop}(h0:0<=r)(h1:r<(ss.length:Nat))(q:∀s,s∈ss->Q (.f (.str s))):on ((Qt (.lst (ss.map .str)) (.int r)).map Sl.f) Q:=ixP h0 (by rw[Z0];exact h1) fun x _ mx=>by
 obtain⟨z,mz,rfl⟩:=D6.mp mx;exact q z mz
structure Nms(ns:ZD):Prop where
 l:ns.length<=6
 l0:0<ns.length
def nh(zs:ZL)(R:T->Prop)(x:Sl×ZZ):Prop:=∃t i k,R t/\x=(.f t,[Zc zs i k])
theorem M3{C:Cs}{f:Str}{as:List Sl}{zs:ZL}{R:T->Prop}{Q:Sl×ZZ->Prop}(h:on (C f as) (nh zs R))(q:∀t i k,R t->Q (.f t,[Zc zs i k])):on (C f as) Q:=Y8 h fun x ⟨t,i,k,ht,e⟩=>by rw[e];exact q t i k ht
structure qk(ns:ZD)(s:T):Prop where
 raw:Raw ns s
 ok:Qm s
 pl:pln s=true
noncomputable def qy:ZD:=["whole","truth","text","row","map"]
def PPl(K:Kn):Prop:=∀{zs:ZL} {i k:Int} {s:Str} {ns ms:ZD},s∈qy->Nms ms->(∀x∈ms,x∈ns)->K [.o (Zc zs i k),.f (.str s),.f (.lst (ms.map .str))] (nh zs (qk ns))
theorem y9{w:W}(hd:Uh w.C):PPl (wF Ub w):=fun {zs i k s ns ms} hs hm hn=>by
 have l0:=hm.l0;have l1:=hm.l;refine Z1 rfl fun D rt _=>?_;rcases Y6.mp hs with rfl | hs
 .refine Zu hd (by omega) (by omega) fun r i' k' h0 h1=>?_;refine Wu (zs:=[0,0, -1,5, -1000000000000000000,999999999999999999]) h0 h1 fun a ma=>?_;have ha:=(show ∀n∈([0,0, -1,5, -1000000000000000000,999999999999999999]:ZL), -1000000000000000000<=n/\n<=1000000000000000000 by decide) a ma;refine Zu hd (by omega) (by omega) fun r i' k' h0 h1=>?_;refine Wu (zs:=[0,1,9,1000000000000000000]) h0 h1 fun n mn=>?_;have hn:=(show ∀n∈([0,1,9,1000000000000000000]:ZL),0<=n by decide) n mn;refine rt _ _ ⟨_,_,_,⟨.whole, ?_,rfl⟩,rfl⟩;show Qm (.tup [.str "whole",.int a,.int (if a+n<1000000000000000000 then a+n else 1000000000000000000)]);refine .whole ha ?_ ?_
  .split<;>exact⟨by omega,by omega⟩
  .split<;>omega
 rcases Y6.mp hs with rfl | hs
 .exact rt _ _ ⟨_,_,_,⟨.truth,.truth,rfl⟩,rfl⟩
 rcases Y6.mp hs with rfl | hs
 .refine Zu hd (by omega) (by omega) fun r i' k' h0 h1=>?_;refine Wu (zs:=[0,1,2,200]) h0 h1 fun n mn=>?_;have:=(show ∀n∈([0,1,2,200]:ZL),0<=n/\n<=200 by decide) n mn;exact rt _ _ ⟨_,_,_,⟨.text,.text this.1 this.2,rfl⟩,rfl⟩
 rcases Y6.mp hs with rfl | hs
 .refine Zu hd (by rw[Z0];omega) (by rw[Z0];omega) fun r i' k' h0 h1=>?_;rw[Z0]at h1;refine J2 h0 h1 fun o mo=>?_;refine Zu hd (by omega) (by omega) fun r i' k' h0 h1=>?_;refine Wu (zs:=[0,1,2,20]) h0 h1 fun n mn=>?_;have:=(show ∀n∈([0,1,2,20]:ZL),0<=n/\n<=20 by decide) n mn;exact rt _ _ ⟨_,_,_,⟨.row (hn o mo),.row this.1 this.2,rfl⟩,rfl⟩
 rcases Y6.mp hs with rfl | hs
 .refine Zu hd (by rw[Z0];omega) (by rw[Z0];omega) fun r i' k' h0 h1=>?_;rw[Z0]at h1;refine J2 h0 h1 fun o mo=>?_;refine Zu hd (by omega) (by omega) fun r i' k' h0 h1=>?_;refine Wu (zs:=[0,1,2,20]) h0 h1 fun n mn=>?_;have:=(show ∀n∈([0,1,2,20]:ZL),0<=n/\n<=20 by decide) n mn;exact rt _ _ ⟨_,_,_,⟨.map (hn o mo),.map this.1 this.2,rfl⟩,rfl⟩
 nomatch hs
def PDf(K:Kn):Prop:=∀{zs:ZL} {i k:Int} {s:T} {ns:ZD},qk ns s->K [.o (Zc zs i k),.f s] (nh zs fun v=>Dx v/\By s v)
theorem rep_a{r:Int}(h0:0<=r)(h1:r<3):Sm (repS "a" r.toNat)/\((repS "a" r.toNat).length:Int)=r:=by
 have:∀n<3,((repS "a" n).length<=8/\(∀c∈(repS "a" n).cps.toList,c<16 ^ 8))/\(repS "a" n).length=n:=by decide
 have:=this r.toNat (by omega);exact⟨⟨this.1.1,this.1.2⟩,by rw[this.2];omega⟩
theorem Ko{w:W}(hd:Uh w.C):PDf (wF Vf w):=fun {zs i k s ns} hs=>by
 refine Z1 rfl fun D rt _=>?_;have raw:=hs.raw;cases hs.ok with
 | @whole a b ha hb le =>
  have key:∃m:Int,(if b - a+1<3 then b - a+1 else 3)=m/\0<m/\m<=3/\m<=b - a+1:=⟨_,rfl,by split<;>omega,by split<;>omega,by split<;>omega⟩;obtain⟨m,em,m0,m1,m2⟩:=key;refine Zu (m:=if b - a+1<3 then b - a+1 else 3) hd (by rw[em];exact m0) (by rw[em];omega) fun r i' k' h0 h1=>?_;rw[em]at h1;have:=ha.1;have:=hb.2;exact rt _ _ ⟨_,_,_,⟨.int ⟨by omega,by omega⟩,.whole (by omega) (by omega)⟩,rfl⟩
 | truth =>
  refine Zu hd (by omega) (by omega) fun r i' k' h0 h1=>?_;exact rt _ _ ⟨_,_,_,⟨.bl,.truth⟩,rfl⟩
 | @text n a b =>
  have key:∃m:Int,(if n+1<3 then n+1 else 3)=m/\0<m/\m<=3/\m<=n+1:=⟨_,rfl,by split<;>omega,by split<;>omega,by split<;>omega⟩;obtain⟨m,em,m0,m1,m2⟩:=key;refine Zu (m:=if n+1<3 then n+1 else 3) hd (by rw[em];exact m0) (by rw[em];omega) fun r i' k' h0 h1=>?_;rw[em]at h1;obtain⟨z1,z2⟩:=rep_a h0 (by omega);refine Pc (a:=Sl.f (.str (repS "a" r.toNat))) ⟨h0,by omega,by decide⟩ ?_;exact rt _ _ ⟨_,_,_,⟨.str z1,.text (by omega)⟩,rfl⟩
 | row _ _=>exact rt _ _ ⟨_,_,_,⟨.nil,.row⟩,rfl⟩
 | map _ _=>exact rt _ _ ⟨_,_,_,⟨.nil,.map⟩,rfl⟩
 | record _=>nomatch hs.pl
 | choice _=>nomatch hs.pl
def DF1(pk:ZX)(p:T):Prop:=∀n x o v,p=.tup [.int n,.str x,.str o,.tup [v]]->∃s,Zr pk (.inr o)=some s/\By s v
structure PlK(ns:ZD)(pk:ZX):Prop where
 k:∃ks:ZD,pk.map (·.1)=ks.map Sum.inr/\∀x∈ks,x∈ns
 l0:0<pk.length
 l:pk.length<=6
 p:∀q∈pk,qk ns q.2
structure PrtN(ns:ZD)(b:Bool)(pk:ZX)(n:Int)(p:T):Prop where
 prt:Lw ns b p
 df:DF1 pk p
theorem A7{n:Int}:∀{zs:ZL},n∈zs->∃j,Kb n zs=some j/\j<zs.length
 | z::zs,m=>by
  unfold Kb;by_cases e:z=n
  .exact⟨0,if_pos e,Nat.zero_lt_succ _⟩
  .obtain⟨j,ej,lj⟩:=A7 (zs:=zs) ((Y6.mp m).resolve_left fun h=>e h.symm);exact⟨j+1,by rw[if_neg e,ej];rfl,Nat.succ_lt_succ lj⟩
theorem idxP{n:Int}{zs:ZL}{Q:Sl->Prop}(m:n∈zs)(q:∀j:Nat,j<zs.length->Q (.f (.int (j:Nat)))):on (As .idx [.lst (zs.map .int),.int n]) Q:=by
 obtain⟨j,e,l⟩:=A7 m;exact Z2 (a:=Sl.f (.int (j:Nat))) (by show (Dn (zs.map .int)).bind _=_;rw[PV.ints_map];show (Kb n zs).map _=_;rw[e];rfl) (q j l)
theorem keys_str{pk:ZX}{ks:ZD}(h:pk.map (·.1)=ks.map Sum.inr):(pk.map fun p=>T2 p.1)=ks.map .str:=by
 rw[show (pk.map fun p=>T2 p.1)=(pk.map (·.1)).map T2 by rw[List.map_map];rfl,h,List.map_map];rfl
theorem Mg{pk:ZX}{ks:ZD}{Q:Sl->Prop}(h:pk.map (·.1)=ks.map Sum.inr)(l:ks.length<64)(q:Q (.o (.lst ((SRT.Uo ks).map .str)))):on (As .sorted [.dct pk]) Q:=Z2 (a:=Sl.o (.lst ((SRT.Uo ks).map .str))) (by show (T4 _).map _=_;rw[keys_str h,srt_strs ks l];rfl) q
def Kd2(s:Str)(b:Bool):Prop:=(s = "record" /\ b=true)\/(s = "choice" /\ b=false)
noncomputable def CLD:ZD:=["a","ab","abc","form","x","xx","must","none","rowa"]
theorem Ke:∀x∈CLD,Sm x:=fun x m=>by
 have h:∀x∈CLD,x.length<=8/\∀c∈x.cps.toList,c<16 ^ 8:=by decide
 exact⟨(h x m).1,(h x m).2⟩
def Ly(K:Kn):Prop:=∀{zs:ZL} {i k n:Int} {s:Str} {b:Bool} {ns ms:ZD} {pk:ZX},Kd2 s b->n∈Hw->PlK ns pk->Nms ms->(∀x∈ms,x∈ns)->K [.o (Zc zs i k),.f (.str s),.f (.int n),.f (.dct pk),.f (.lst (ms.map .str))] (nh zs (PrtN ns b pk n))
theorem a8{w:W}(hd:Uh w.C)(hD:PDf (cl w.C "_law_default")):Ly (wF Jr w):=fun {zs i k n s b ns ms pk} hs hn hp hm hx=>by
 refine Z1 rfl fun D rt _=>?_;have l0:=hm.l0;have l1:=hm.l;have p0:=hp.l0;have p1:=hp.l;refine idxP (zs:=Hw) hn fun j lj=>?_;refine J2 (ss:=CLD) (by omega) (show ((j:Nat):Int)<_ from Int.ofNat_lt.mpr lj) fun c mc=>?_;refine Zu hd (by rw[Z0];omega) (by rw[Z0];omega) fun r i' k' h0 h1=>?_;rw[Z0]at h1;refine J2 h0 h1 fun o mo=>?_;rcases hs with ⟨rfl,rfl⟩ | ⟨rfl,rfl⟩
 .have fin:∀o∈ns,∀i2 k2,wS w (Vx [.o (Zc zs i k),.f (.str "record"),.f (.int n),.f (.dct pk),.f (.lst (ms.map .str))]) (Yj 5 Rz) [.o (Zc zs i2 k2),.f (.str "record"),.f (.int n),.f (.dct pk),.f (.lst (ms.map .str)),.f (.str c),.f (.str o)] D:=fun o mo i2 k2=>by
   have no:∀i k,D.rt (.f (.tup [.int n,.str c,.str o,.tup []])) [.o (Zc zs i k),.f (.str "record"),.f (.int n),.f (.dct pk),.f (.lst (ms.map .str)),.f (.str c),.f (.str o)]:=fun i k =>
    rt _ _ ⟨_,_,_,⟨.mk hn (Ke c mc) mo (.fld .no),fun n x o v e=>by cases e⟩,rfl⟩
   refine Zf (b:=(Zr pk (.inr o)).isSome) (fun z=>?_) fun _=>no _ _;obtain⟨s,e⟩:=Option.isSome_iff_exists.mp z;refine Zu hd (by omega) (by omega) fun r i' k' h0 h1=>?_;refine Zf (b:=decide ((0:Int)<r)) (fun _=>?_) fun _=>no _ _;refine Kv e ?_;refine M3 (hD (hp.p _ (Y2 e))) fun v i k hv=>?_;exact rt _ _ ⟨_,_,_,⟨.mk hn (Ke c mc) mo (.fld (.is hv.1)),fun n x o v e'=>by cases e';exact⟨s,e,hv.2⟩⟩,rfl⟩
  refine Zf (b:=decide ((1:Int)<n)) (fun _=>?_) fun _=>fin o (hx o mo) _ _;obtain⟨ks,ek,hk⟩:=hp.k;have lk:pk.length=ks.length:=by have:=congrArg List.length ek;rw[Z0,Z0]at this;exact this
  refine Mg ek (by omega) ?_;refine Zu hd (by omega) (by omega) fun r i' k' h0 h1=>?_;refine J2 h0 (by rw[(SRT.Yf ks).length_eq];omega) fun o mo=>?_;exact fin o (hk o ((SRT.Yf ks).mem_iff.mp mo)) _ _
 .exact rt _ _ ⟨_,_,_,⟨.mk hn (Ke c mc) (hx o mo) .arm,fun n x o v e=>by cases e⟩,rfl⟩
section
variable{j:Type}{f:j->T}{xs:List j}
theorem F9(lo hi:ZR):∃ys:List j,Y4 (xs.map f) lo hi=ys.map f/\(∀y∈ys,y∈xs)/\ys.length<=xs.length:=by
 refine⟨(xs.drop (HT.Ym (xs.map f).length 0 lo)).take (HT.Ym (xs.map f).length (xs.map f).length hi - HT.Ym (xs.map f).length 0 lo), ?_,fun y m=>List.mem_of_mem_drop (List.mem_of_mem_take m), ?_⟩
 .unfold Y4;rw[List.map_take,List.map_drop]
 .rw[L0t,List.length_drop];omega
theorem cut_fr{a:Int}(h0:0<=a)(h1:a<=(xs.length:Nat)):Y4 (xs.map f) (some a) none=(xs.drop a.toNat).map f:=by rw[O2 h0 (by rw[Z0];exact h1),List.map_drop]
theorem Ki{a:Int}(h0:0<=a)(h1:a<=(xs.length:Nat)):Y4 (xs.map f) none (some a)=(xs.take a.toNat).map f:=by rw[cut_to h0 (by rw[Z0];exact h1),List.map_take]
theorem rotP{a:Int}{Q:Sl->Prop}(h0:0<=a)(h1:a<=(xs.length:Nat))(l:xs.length<=100)(q:∀ys:List j,ys.Perm xs->Q (.o (.lst (ys.map f)))):on (cf .add (.lst (Y4 (xs.map f) (some a) none)) (.lst (Y4 (xs.map f) none (some a)))) Q:=by
 rw[cut_fr h0 h1,Ki h0 h1];have:=sizeLine_eq;refine Zqk (by rw[Z0,Z0,List.length_drop,L0t];omega) ?_;rw[<-M0a];exact q _ (List.perm_append_comm.trans (by rw[List.take_append_drop]))
end
noncomputable def N8:ZL:=[1,2,3,9,10,99,100,999]
theorem Zxu:∀z∈N8,z∈Hw:=by decide
structure PdS(ns:ZD)(pk:ZX)(s:T):Prop where
 raw:Raw ns s
 ok:Qm s
 df:∀ps zs,s=zq ps zs->DF pk ps
def PPd(K:Kn):Prop:=∀{zs:ZL} {i k:Int} {s:Str} {b:Bool} {ns ms:ZD} {pk:ZX},Kd2 s b->PlK ns pk->Nms ms->(∀x∈ms,x∈ns)->K [.o (Zc zs i k),.f (.str s),.f (.dct pk),.f (.lst (ms.map .str))] (nh zs (PdS ns pk))
theorem zf{w:W}(hd:Uh w.C)(hP:Ly (cl w.C "_law_part")):PPd (wF Vo w):=fun {zs i k s b ns ms pk} hs hp hm hx=>by
 refine Z1 rfl fun D rt _=>?_
 have key2:∀us:ZL,(∀z∈us,z∈N8)->us.length<=8->∀s5 m i2 k2,wS w (Vx [.o (Zc zs i k),.f (.str s),.f (.dct pk),.f (.lst (ms.map .str))]) (Yj 4 Ji) [.o (Zc zs i2 k2),.f (.str s),.f (.dct pk),.f (.lst (ms.map .str)),.o (.lst (us.map .int)),s5,.f (.int m),.no,.no] D:=fun us hu lu s5 m i2 k2=>by
  obtain⟨as,ea,ha,la⟩:=F9 (f:=T.int) (xs:=us) none (some m);obtain⟨bs,eb,hb,lb⟩:=F9 (f:=T.int) (xs:=us) (some m) none;refine w4 (us:=(SRT.Nn as).map .int) (by rw[ea];exact srt_ints as (by omega)) ?_;refine Te (fun rest acc p=>∃s0 i k,p=[s0,.o (Zc zs i k),.f (.str s),.f (.dct pk),.f (.lst (ms.map .str))]/\(∀x∈rest,∃z,z∈us/\x=.int z)/\acc.length+rest.length<=8/\∀p∈acc,PrtN ns b pk 0 p) ⟨_,_,_,rfl,fun x m=>?_, ?_,fun p m=>nomatch m⟩ (fun x r acc p K hi hk _=>?_) fun acc p hi=>?_
  .obtain⟨z,mz,rfl⟩:=D6.mp m;exact⟨z,ha z ((SRT.Yb as).mem_iff.mp mz),rfl⟩
  .rw[Z0,(SRT.Yb as).length_eq,List.length_nil];omega
  .obtain⟨s0,i,k,rfl,hr,hl,hc⟩:=hi;obtain⟨z,mz,rfl⟩:=hr x Vk;refine M3 (hP hs (Zxu z (hu z mz)) hp hm hx) fun t i k ht=>?_;refine hk _ _ ⟨_,_,_,rfl,fun x m=>hr x (Vb _ m),by rw[D7];rw[D9]at hl;show acc.length+1+_<=_;omega,fun p m=>?_⟩;rcases Tw.mp m with m | m
   .exact hc p m
   .cases U1.mp m;exact⟨ht.prt,ht.df⟩
  obtain⟨s0,i,k,rfl,_,hl,hc⟩:=hi;rw[List.length_nil]at hl;refine w4 (us:=(SRT.Nn bs).map .int) (by rw[eb];exact srt_ints bs (by omega)) ?_;have pp:D4 ns b acc:=⟨by omega,fun p m=>(hc p m).prt⟩;have lz:(SRT.Nn bs).length<=8:=by rw[(SRT.Yb bs).length_eq];omega
  have mm:Mem acc (SRT.Nn bs):=⟨by omega,lz,fun z m=>Pl (Zxu z (hu z (hb z ((SRT.Yb bs).mem_iff.mp m))))⟩;have df:DF pk acc:=fun n x o v m=>(hc _ m).df n x o v rfl;rcases hs with ⟨rfl,rfl⟩ | ⟨rfl,rfl⟩
  .refine rt _ _ ⟨_,_,_,⟨.record pp (by omega),.record mm,fun ps zs e=>?_⟩,rfl⟩
   injection e with e;injection e with _ e;injection e with e _;injection e with e;subst e;exact df
  .refine Zu hd (by omega) (by omega) fun r i' k' h0 h1=>?_;exact rt _ _ ⟨_,_,_,⟨.choice pp (by omega),.choice mm,fun ps zs e=>by cases e⟩,rfl⟩
 have key:∀us:ZL,(∀z∈us,z∈N8)->us.length<=8->∀s5 i2 k2,wS w (Vx [.o (Zc zs i k),.f (.str s),.f (.dct pk),.f (.lst (ms.map .str))]) (Yj 3 Ji) [.o (Zc zs i2 k2),.f (.str s),.f (.dct pk),.f (.lst (ms.map .str)),.o (.lst (us.map .int)),s5,.no,.no,.no] D:=fun us hu lu s5 i2 k2=>by
  refine Zu hd (by omega) (by omega) fun r i' k' h0 h1=>?_;refine Wu (zs:=[0,0,1,2]) h0 h1 fun n mn=>?_;exact key2 us hu lu _ _ _ _
 refine Zu hd (by omega) (by omega) fun r i' k' h0 h1=>?_;refine rotP (xs:=N8) (f:=T.int) h0 (Int.le_of_lt h1) (by decide) fun ys py=>?_;have ly:ys.length=8:=py.length_eq;refine Zu hd (by omega) (by omega) fun r2 i2 k2 g0 g1=>?_;have:=key (ys.take r2.toNat) (fun z m=>py.mem_iff.mp (List.mem_of_mem_take m)) (by rw[L0t];omega) (.f (.int r)) i2 k2;rw[<-Ki g0 (by omega)]at this;exact this
theorem Gd(XB:ZX)(k k':Key)(v:T):Zr (Yp XB k v) k'=if k=k' then some v else Zr XB k':=by
 unfold Yp
 split
 .rename_i h
  induction XB with
  | nil=>simp at h
  | cons p r ih =>
   rw[List.any_cons,Bool.or_eq_true]at h;unfold Zr at ih ⊢;rw[Qn,List.find?_cons];by_cases e:p.1=k
   .rw[if_pos e];by_cases e':k=k'
    .rw[Bk (show (p.1,v).1=k' from e.trans e'),if_pos e'];rfl
    .rw[Nf (show ¬ (p.1,v).1=k' from fun z=>e' (e.symm.trans z)),if_neg e',List.find?_cons,Nf (show ¬ p.1=k' from fun z=>e' (e.symm.trans z))];by_cases hr:(r.any fun p=>decide (p.1=k))=true
     .have:=ih hr;rw[if_neg e']at this;exact this
     .have em:(r.map fun p=>if p.1=k then (p.1,v) else p)=r:=by
       conv=>rhs;rw[<-List.map_id r]
       refine List.map_congr_left fun q mq=>?_;rw[if_neg]
       .rfl
       .intro z;exact hr (XZ.mpr ⟨q,mq,Bk z⟩)
      rw[em]
   .rw[if_neg e];by_cases e':p.1=k'
    .rw[Bk e',List.find?_cons,Bk e',if_neg (fun z=>e (e'.trans z.symm))]
    .rw[Nf e',List.find?_cons,Nf e'];exact ih (h.resolve_left (by simp[e]))
 .rename_i h
  unfold Zr;rw[List.find?_append];by_cases e':k=k'
  .subst e';rw[if_pos rfl];have:XB.find? (fun p=>decide (p.1=k))=none:=List.find?_eq_none.mpr fun p mp z=>h (XZ.mpr ⟨p,mp,z⟩);rw[this];simp
  .rw[if_neg e'];have:[(k,v)].find? (fun p=>decide (p.1=k'))=none:=by simp[e']
   rw[this];simp
theorem Tc{XB:ZX}{k:Key}{v:T}{q:Key×T}(m:q∈Yp XB k v):q∈XB\/q=(k,v):=by
 unfold Yp at m
 split at m
 .obtain⟨p,mp,e⟩:=D6.mp m
  split at e
  .rename_i h;exact .inr (by rw[<-e,h])
  .exact .inl (e ▸ mp)
 .rcases Tw.mp m with m | m
  .exact .inl m
  .exact .inr (U1.mp m)
theorem Mm{XB:ZX}{ks:ZD}{x:Str}{v:T}(h:XB.map (·.1)=ks.map Sum.inr):(x∈ks/\(Yp XB (.inr x) v).map (·.1)=ks.map Sum.inr)\/(x ∉ ks/\(Yp XB (.inr x) v).map (·.1)=(ks++[x]).map Sum.inr):=by
 have e:(XB.any fun p=>decide (p.1=(.inr x:Key)))=true↔x∈ks:=by
  rw[XZ];constructor
  .rintro⟨p,mp,ep⟩;have:p.1∈XB.map (·.1):=List.mem_map_of_mem mp;rw[S8 ep,h]at this;obtain⟨y,my,ey⟩:=D6.mp this;cases ey;exact my
  .intro m;have:(Sum.inr x:Key)∈XB.map (·.1):=by rw[h];exact List.mem_map_of_mem m
   obtain⟨p,mp,ep⟩:=D6.mp this;exact⟨p,mp,Bk ep⟩
 unfold Yp;by_cases c:(XB.any fun p=>decide (p.1=(.inr x:Key)))=true
 .refine .inl ⟨e.mp c, ?_⟩;rw[if_pos c,List.map_map, <-h];refine List.map_congr_left fun q _=>?_;show (if q.1=(.inr x:Key) then (q.1,v) else q).1=q.1
  split<;>rfl
 .refine .inr ⟨fun m=>c (e.mpr m), ?_⟩;rw[if_neg c,M0a,M0a,h];rfl
theorem get_none{XB:ZX}{ks:ZD}{x:Str}(h:XB.map (·.1)=ks.map Sum.inr)(n:x ∉ ks):Zr XB (.inr x)=none:=by
 cases e:Zr XB (.inr x) with
 | none=>rfl
 | some s =>
  have:(Sum.inr x:Key)∈XB.map (·.1):=List.mem_map_of_mem (Y2 e);rw[h]at this;obtain⟨y,my,ey⟩:=D6.mp this;cases ey;exact absurd my n
theorem Y1{XB:ZX}{ks:ZD}(h:XB.map (·.1)=ks.map Sum.inr):XB.length=ks.length:=by have:=congrArg List.length h;rw[Z0,Z0]at this;exact this
theorem zj{XB:ZX}{x:Str}{v:T}{Q:T->Prop}(l:XB.length<=100)(q:Q (.dct (Yp XB (.inr x) v))):on (putAt (.dct XB) (.str x) v) Q:=by
 have:=sizeLine_eq;exact Z2 (a:=T.dct (Yp XB (.inr x) v)) (if_pos (by omega)) q
def PPs(K:Kn):Prop:=∀{ns:ZD} {root:Str} {XB:ZX},Mk ns root XB->K [.f (.dct XB)] fun x=>∃pk,x=(.o (.dct pk),[])/\PlK ns pk/\(∀x s,Zr pk (.inr x)=some s->Zr XB (.inr x)=some s)/\∀x s,Zr XB (.inr x)=some s->(Zr pk (.inr x)).isSome=pln s
theorem zv{w:W}:PPs (wF Va w):=fun {ns root XB} h=>by
 refine Z1 rfl fun D rt _=>?_;have lk:=Y1 h.raw.k;have l6:=h.l
 refine Bg (fun rest p=>∃(s2:Sl) (pk:ZX) (ks rs:ZD),p=[.f (.dct XB),.o (.dct pk),s2]/\rest=rs.map T.str/\(∀x∈rs,x∈ns)/\pk.map (·.1)=ks.map Sum.inr/\(∀x∈ks,x∈ns)/\ks.length+rs.length<=6/\(∀q∈pk,qk ns q.2)/\(∀x s,Zr pk (.inr x)=some s->Zr XB (.inr x)=some s/\pln s=true)/\∀x s,Zr XB (.inr x)=some s->pln s=true->x∈rs\/Zr pk (.inr x)=some s)
  ⟨_,[],[],ns,rfl,keys_str h.raw.k,fun x m=>m,rfl,(fun x m=>nomatch m),by rw[List.length_nil];omega,(fun q m=>nomatch m),(fun x s e=>nomatch e),fun x s e _=>.inl ?_⟩ (fun x rest p D' hi nx _=>?_) fun p hi=>?_
 .have:(Sum.inr x:Key)∈XB.map (·.1):=List.mem_map_of_mem (Y2 e);rw[h.raw.k]at this;obtain⟨y,my,ey⟩:=D6.mp this;cases ey;exact my
 .obtain⟨s2,pk,ks,rs,rfl,er,hr,hk,hn,hl,hp,hg,hc⟩:=hi;cases rs with
  | nil=>cases er
  | cons y rs =>
   cases er;rw[D9]at hl;obtain⟨s,e,raw⟩:=h.raw.get (hr y Vk);have ok:=h.ok _ (Y2 e);refine Kv e ?_
   have no:pln s=false->D'.nx [.f (.dct XB),.o (.dct pk),.f (.str y)]:=fun z=>nx _ ⟨_,pk,ks,rs,rfl,rfl,fun x m=>hr x (Vb _ m),hk,hn,by omega,hp,hg,fun x t ex zx=>by
    rcases hc x t ex zx with m | m
    .rcases Y6.mp m with rfl | m
     .rw[e]at ex;cases ex;rw[z]at zx;cases zx
     .exact .inl m
    .exact .inr m⟩
   have yes:pln s=true->on (putAt (.dct pk) (.str y) s) fun x'=>D'.nx [.f (.dct XB),.o x',.f (.str y)]:=fun z=>by
    refine zj (by rw[Y1 hk];omega) ?_;have pt:=Mm (x:=y) (v:=s) hk
    have rst:∀U0:ZD,(Yp pk (.inr y) s).map (·.1)=U0.map Sum.inr->(∀x∈U0,x∈ns)->U0.length<=ks.length+1->D'.nx [.f (.dct XB),.o (.dct (Yp pk (.inr y) s)),.f (.str y)]:=fun U0 c8 hn' hl'=>by
     refine nx _ ⟨_,Yp pk (.inr y) s,U0,rs,rfl,rfl,fun x m=>hr x (Vb _ m),c8,hn',by omega,fun q m=>?_,fun x t ex=>?_,fun x t ex zx=>?_⟩
     .rcases Tc m with m | rfl
      .exact hp q m
      .exact⟨raw,ok,z⟩
     .rw[Gd]at ex
      split at ex
      .rename_i c;cases c;cases ex;exact⟨e,z⟩
      .exact hg x t ex
     .rw[Gd]
      split
      .rename_i c;cases c;rw[e]at ex;exact .inr ex
      .rename_i c
       rcases hc x t ex zx with m | m
       .rcases Y6.mp m with rfl | m
        .exact absurd rfl c
        .exact .inl m
       .exact .inr m
    rcases pt with ⟨_,e1⟩ | ⟨_,e1⟩
    .exact rst ks e1 hn (by omega)
    .refine rst _ e1 (fun x m=>?_) (by rw[D7];exact Yz _);rcases Tw.mp m with m | m
     .exact hn x m
     .cases U1.mp m;exact hr y Vk
   cases raw with
   | record _ _=>exact no rfl
   | choice _ _=>exact no rfl
   | _=>refine Kv e ?_;exact yes rfl
 .obtain⟨s2,pk,ks,rs,rfl,er,hr,hk,hn,hl,hp,hg,hc⟩:=hi;cases rs with
  | cons y rs=>cases er
  | nil =>
   obtain⟨y,my,t,et,zt⟩:=h.pl;have got:=(hc y t et zt).resolve_left fun m=>nomatch m;have p0:0<pk.length:=List.length_pos_of_mem (Y2 got);refine rt _ _ ⟨pk,rfl,⟨⟨ks,hk,hn⟩,p0,by rw[Y1 hk];omega,hp⟩,fun x s e=>(hg x s e).1,fun x s e=>?_⟩;cases z:pln s with
   | true=>rw[(hc x s e z).resolve_left fun m=>nomatch m];rfl
   | false =>
    cases e':Zr pk (.inr x) with
    | none=>rfl
    | some u=>have:=hg x u e';rw[e]at this;cases this.1;rw[z]at this;cases this.2
theorem Lw.mono{ns Gx:ZD}{b:Bool}{t:T}(s:∀x∈ns,x∈Gx)(h:Lw ns b t):Lw Gx b t:=by cases h with | mk a b c d=>exact .mk a b (s _ c) d
theorem D4.mono{ns Gx:ZD}{b:Bool}{t:ZZ}(s:∀x∈ns,x∈Gx)(h:D4 ns b t):D4 Gx b t:=⟨h.l,fun p m=>(h.p p m).mono s⟩
theorem Raw.mono{ns Gx:ZD}{t:T}(s:∀x∈ns,x∈Gx)(h:Raw ns t):Raw Gx t:=by
 cases h with
 | whole=>exact .whole
 | truth=>exact .truth
 | text=>exact .text
 | row h=>exact .row (s _ h)
 | map h=>exact .map (s _ h)
 | record h z=>exact .record (h.mono s) z
 | choice h z=>exact .choice (h.mono s) z
theorem ur{ns:ZD}{t:T}(h:Raw ns t):ctn t=false:=by cases h<;>rfl
theorem qk.pd{ns:ZD}{pk:ZX}{s:T}(h:qk ns s):PdS ns pk s:=⟨h.raw,h.ok,fun ps zs e=>by have:=h.pl;rw[e]at this;cases this⟩
noncomputable def WRD:ZD:=["a","ab","b","make","form","row","rows","text","must","none","abcdefgh","x","xx","arm"]
theorem wrd_sm:∀x∈WRD,Sm x:=fun x m=>by
 have h:∀x∈WRD,x.length<=8/\∀c∈x.cps.toList,c<16 ^ 8:=by decide
 exact⟨(h x m).1,(h x m).2⟩
noncomputable def SOR:ZD:=["record","choice","whole","record","choice","truth","text","row","map"]
theorem sor_or:∀s∈SOR,s = "record" \/ s = "choice" \/ s∈qy:=by decide
structure M1(ms rs ks:ZD)(lf:List (Str×Str))(XB:ZX):Prop where
 sub:∀x∈rs,x∈ms
 nd:rs.Nodup
 dk:∀x∈rs,x ∉ ks
 dl:∀x∈rs,x ∉ lf.map (·.1)
 k:XB.map (·.1)=ks.map Sum.inr
 kn:∀x∈ks,x∈ms
 lk:∀q∈lf,q.1∈ms/\q.1 ∉ ks/\(q.2 = "record" \/ q.2 = "choice")
 p:∀q∈XB,qk ms q.2
 n:ks.length+lf.length+rs.length<=6
 c:∀x∈ms,x∈rs\/x∈ks\/x∈lf.map (·.1)
 k0:0<ks.length
structure M2(ms:ZD)(pk:ZX)(lf:List (Str×Str))(ks:ZD)(XB:ZX):Prop where
 k:XB.map (·.1)=ks.map Sum.inr
 kn:∀x∈ks,x∈ms
 lk:∀q∈lf,q.1∈ms/\Zr pk (.inr q.1)=none/\(q.2 = "record" \/ q.2 = "choice")
 p:∀q∈XB,PdS ms pk q.2
 n:ks.length+lf.length<=6
 c:∀x∈ms,x∈ks\/x∈lf.map (·.1)
 g:∀x s,Zr pk (.inr x)=some s->Zr XB (.inr x)=some s
theorem M1.left{ms rs ks:ZD}{x s:Str}{lf:List (Str×Str)}{XB:ZX}(h:M1 ms (x::rs) ks lf XB)(hs:s = "record" \/ s = "choice"):M1 ms rs ks (lf++[(x,s)]) XB:=by
 have nd:=List.nodup_cons.mp h.nd;refine⟨fun y m=>h.sub y (Vb _ m),nd.2,fun y m=>h.dk y (Vb _ m),fun y m z=>?_,h.k,h.kn,fun q m=>?_,h.p,by have:=h.n;rw[D7];rw[D9]at this;show _+(_+1)+_<=_;omega,fun y m=>?_,h.k0⟩
 .rw[M0a]at z;rcases Tw.mp z with z | z
  .exact h.dl y (Vb _ m) z
  .cases U1.mp z;exact nd.1 m
 .rcases Tw.mp m with m | m
  .exact h.lk q m
  .cases U1.mp m;exact⟨h.sub x Vk,h.dk x Vk,hs⟩
 .rw[M0a];rcases h.c y m with m | m | m
  .rcases Y6.mp m with rfl | m
   .exact .inr (.inr (S4 _ (U1.mpr rfl)))
   .exact .inl m
  .exact .inr (.inl m)
  .exact .inr (.inr (List.mem_append_left _ m))
theorem M1.put{ms rs ks:ZD}{x:Str}{s:T}{lf:List (Str×Str)}{XB:ZX}(h:M1 ms (x::rs) ks lf XB)(hs:qk ms s):M1 ms rs (ks++[x]) lf (Yp XB (.inr x) s):=by
 have nd:=List.nodup_cons.mp h.nd;have e:=((Mm (x:=x) (v:=s) h.k).resolve_left fun z=>h.dk x Vk z.1).2;refine⟨fun y m=>h.sub y (Vb _ m),nd.2,fun y m z=>?_,fun y m=>h.dl y (Vb _ m),e,fun y m=>?_,fun q m=>⟨(h.lk q m).1,fun z=>?_,(h.lk q m).2.2⟩,fun q m=>?_,by have:=h.n;rw[D7];rw[D9]at this;show _+1+_+_<=_;omega,fun y m=>?_,by rw[D7];exact Wy h.k0 (Nat.le_add_right _ _)⟩
 .rcases Tw.mp z with z | z
  .exact h.dk y (Vb _ m) z
  .cases U1.mp z;exact nd.1 m
 .rcases Tw.mp m with m | m
  .exact h.kn y m
  .cases U1.mp m;exact h.sub x Vk
 .rcases Tw.mp z with z | z
  .exact(h.lk q m).2.1 z
  .exact h.dl x Vk (by rw[<-U1.mp z];exact List.mem_map_of_mem m)
 .rcases Tc m with m | rfl
  .exact h.p q m
  .exact hs
 .rcases h.c y m with m | m | m
  .rcases Y6.mp m with rfl | m
   .exact .inr (.inl (S4 _ (U1.mpr rfl)))
   .exact .inl m
  .exact .inr (.inl (List.mem_append_left _ m))
  .exact .inr (.inr m)
theorem M1.fin{ms ks:ZD}{lf:List (Str×Str)}{XB:ZX}(h:M1 ms [] ks lf XB):PlK ms XB/\M2 ms XB lf ks XB:=by
 have l:=Y1 h.k;have k0:=h.k0;have n:=h.n;refine⟨⟨⟨ks,h.k,h.kn⟩,by omega,by omega,h.p⟩,⟨h.k,h.kn,fun q m=>⟨(h.lk q m).1,get_none h.k (h.lk q m).2.1,(h.lk q m).2.2⟩,fun q m=>(h.p q m).pd,by rw[List.length_nil]at n;omega,fun x m=>(h.c x m).resolve_left (fun z=>nomatch z),fun x s e=>e⟩⟩
theorem M2.put{ms ks:ZD}{pk:ZX}{q:Str×Str}{s:T}{lf:List (Str×Str)}{XB:ZX}(h:M2 ms pk (q::lf) ks XB)(hs:PdS ms pk s):∃U0,M2 ms pk lf U0 (Yp XB (.inr q.1) s):=by
 have n:=h.n;rw[D9]at n;have hq:=h.lk q Vk
 have rst:∀U0:ZD,(Yp XB (.inr q.1) s).map (·.1)=U0.map Sum.inr->(∀x∈U0,x∈ms)->U0.length<=ks.length+1->(∀x,x∈ks\/x=q.1->x∈U0)->M2 ms pk lf U0 (Yp XB (.inr q.1) s):=fun U0 e1 e2 e3 e4=>by
  refine⟨e1,e2,fun r m=>h.lk r (Vb _ m),fun r m=>?_,by omega,fun x m=>?_,fun x t e=>?_⟩
  .rcases Tc m with m | rfl
   .exact h.p r m
   .exact hs
  .rcases h.c x m with m | m
   .exact .inl (e4 x (.inl m))
   .rcases Y6.mp m with m | m
    .exact .inl (e4 x (.inr m))
    .exact .inr m
  .rw[Gd,if_neg fun z=>by cases z;rw[hq.2.1]at e;cases e];exact h.g x t e
 rcases Mm (x:=q.1) (v:=s) h.k with ⟨m,e⟩ | ⟨_,e⟩
 .exact⟨ks,rst ks e h.kn (by omega) fun x z=>z.elim id fun z=>z ▸ m⟩
 .refine⟨_,rst _ e (fun x m=>?_) (by rw[D7];exact Yz _) fun x z=>?_⟩
  .rcases Tw.mp m with m | m
   .exact h.kn x m
   .cases U1.mp m;exact hq.1
  .rcases z with z | z
   .exact List.mem_append_left _ z
   .exact S4 _ (U1.mpr z)
theorem DF.mono{pk XB:ZX}{ps:ZZ}(h:DF pk ps)(g:∀x s,Zr pk (.inr x)=some s->Zr XB (.inr x)=some s):DF XB ps:=fun n x o v m=>let ⟨s,e,f⟩:=h n x o v m;⟨s,g o s e,f⟩
theorem M2.made{ms ks:ZD}{pk:ZX}{XB:ZX}{root:Str}(h:M2 ms pk [] ks XB)(hp:PlK ms pk)(hm:∀x∈ms,Sm x)(hr:root∈ms):Mk ks root XB:=by
 have cov:∀x∈ms,x∈ks:=fun x m=>(h.c x m).resolve_right fun z=>nomatch z;refine⟨⟨h.k,fun p m=>(h.p p m).raw.mono cov,fun x m=>hm x (h.kn x m)⟩,cov _ hr,fun p m=>(h.p p m).ok,fun p m ps zs e=>((h.p p m).df ps zs e).mono h.g, ?_,by have:=h.n;rw[List.length_nil]at this;omega⟩;obtain⟨ps,ep,hps⟩:=hp.k;have l0:=hp.l0;cases pk with
 | nil=>cases l0
 | cons q pk =>
  cases ps with
  | nil=>cases ep
  | cons x ps =>
   have e:q.1=.inr x:=(List.cons.inj ep).1
   have g:Zr (q::pk) (.inr x)=some q.2:=by
    show ((q::pk).find? fun p=>decide (p.1=(.inr x:Key))).map (·.2)=_;rw[List.find?_cons_of_pos (p:=fun p:Key×T=>decide (p.1=(.inr x:Key))) (Bk e)];rfl
   exact⟨x,cov x (hps x Vk),q.2,h.g x q.2 g,(hp.p q Vk).pl⟩
theorem dct1P{x:Str}{v:T}{Q:Sl->Prop}(h:ctn v=false)(q:Q (.o (.dct [(.inr x,v)]))):on (As .dct1 [.str x,v]) Q:=Z2 (a:=Sl.o (.dct [(.inr x,v)])) (by show (if ctn v=true then none else _)=_;rw[if_neg (by rw[h];exact fun z=>nomatch z)];rfl) q
theorem ixL0{a:T}{l:ZZ}{Q:Sl->Prop}(q:Q (.f a)):on ((Qt (.lst (a::l)) (.int 0)).map Sl.f) Q:=ixLP (by unfold Bq qm;rw[if_pos (by omega),if_pos (by rw[D9];omega)];rfl) q
noncomputable abbrev pT(q:Str×Str):T:=.tup [.str q.1,.str q.2]
def Mkd(t:T):Prop:=∃ns root XB,t=mkT root XB/\Mk ns root XB
def cq(K:Kn):Prop:=∀{zs:ZL} {i k:Int},K [.o (Zc zs i k)] (nh zs Mkd)
theorem ij{w:W}(hd:Uh w.C)(hP:PPl (cl w.C "_law_plain"))(hR:PPd (cl w.C "_law_parted")):cq (wF Jp w):=fun {zs i k}=>by
 refine Z1 rfl fun D rt _=>?_
 have key:∀ms:ZD,ms.Nodup->(∀x∈ms,x∈WRD)->2<=ms.length->ms.length<=6->∀s1 s2 i2 k2,wS w (Vx [.o (Zc zs i k)]) (Yj 3 Rx) [.o (Zc zs i2 k2),s1,s2,.o (.lst (ms.map .str)),.no,.no,.no,.no,.no,.no] D:=fun ms nd sub l2 l6 s1 s2 i2 k2=>by
  cases ms with
  | nil=>cases l2
  | cons m0 rs =>
  generalize em:m0::rs=ms at nd sub l2 l6;have hm:Nms ms:=⟨l6,by omega⟩;have e0:ms.map T.str=.str m0::rs.map .str:=by rw[<-em];rfl
  have hsm:∀x∈ms,Sm x:=fun x m=>wrd_sm x (sub x m);have at0:∀{Q:Sl->Prop},Q (.f (.str m0))->on ((Qt (.lst (ms.map .str)) (.int 0)).map Sl.f) Q:=fun q=>by rw[e0];exact ixL0 q
  refine at0 ?_;refine Zu hd (by omega) (by omega) fun r i' k' h0 h1=>?_;refine J2 (ss:=["whole","truth","text","row"]) h0 h1 fun s ms'=>?_;have hs:s∈qy:=(show ∀s∈(["whole","truth","text","row"]:ZD),s∈qy by decide) s ms';refine M3 (hP hs hm fun x m=>m) fun t i3 k3 ht=>?_;refine dct1P (ur ht.raw) ?_;have ec:Y4 (ms.map T.str) (some 1) none=rs.map .str:=by rw[e0];exact cut1 _ _
  refine Bg (fun rest p=>∃(i k:Int) (s7 s8:Sl) (XB:ZX) (ks rr:ZD) (lf:List (Str×Str)),p=[.o (Zc zs i k),s1,s2,.f (.lst (ms.map .str)),.o (.lst (SOR.map .str)),.o (.dct XB),.o (.lst (lf.map pT)),s7,s8,.no]/\rest=rr.map T.str/\M1 ms rr ks lf XB)
   ⟨_,_,_,_,[(.inr m0,t)],[m0],rs,[],rfl,ec, ?_⟩ (fun x rest p D' hi nx _=>?_) fun p hi=>?_
  .have cn:=List.nodup_cons.mp (show (m0::rs).Nodup by rw[em];exact nd);refine⟨fun x m=>by rw[<-em];exact Vb _ m,cn.2,fun x m z=>?_,(fun x m z=>nomatch z),rfl,fun x m=>?_,(fun q m=>nomatch m),fun q m=>?_, ?_,fun x m=>?_,Nat.zero_lt_succ _⟩
   .cases U1.mp z;exact cn.1 m
   .cases U1.mp m;rw[<-em];exact Vk
   .cases U1.mp m;exact ht
   .rw[<-em,D9]at l6;show 1+0+rs.length<=6;omega
   .rw[<-em]at m;rcases Y6.mp m with rfl | m
    .exact .inr (.inl (U1.mpr rfl))
    .exact .inl m
  .obtain⟨i,k,s7,s8,XB,ks,rr,lf,rfl,er,hM⟩:=hi;cases rr with
   | nil=>cases er
   | cons y rr =>
   cases er;refine Zu hd (by omega) (by omega) fun r i' k' h0 h1=>?_;refine J2 (ss:=SOR) h0 h1 fun s ms'=>?_;have n:=hM.n
   have app:(s = "record" \/ s = "choice")->on (iq .append (.lst (lf.map pT)) [.tup [.str y,.str s]]) fun r=>D'.nx [.o (Zc zs i' k'),s1,s2,.f (.lst (ms.map .str)),.o (.lst (SOR.map .str)),.o (.dct XB),.o r.1,.f (.str y),.f (.str s),.no]:=fun hs=>by
    have:=sizeLine_eq;refine appP (by rw[Z0];omega) ?_;refine nx _ ⟨i',k',.f (.str y),.f (.str s),XB,ks,rr,lf++[(y,s)], ?_,rfl,hM.left hs⟩;rw[M0a];rfl
   refine Zf (b:=decide (s = "record")) (fun z=>app (.inl (S8 z))) fun z1=>?_;refine Zf (b:=decide (s = "choice")) (fun z=>app (.inr (S8 z))) fun z2=>?_;have hs:s∈qy:=((sor_or s ms').resolve_left (of_decide_eq_false z1)).resolve_left (of_decide_eq_false z2);refine M3 (hP hs hm fun x m=>m) fun t i3 k3 ht=>?_;refine zj (by rw[Y1 hM.k];omega) ?_;exact nx _ ⟨_,_,_,_,_,_,rr,lf,rfl,rfl,hM.put ht⟩
  obtain⟨i,k,s7,s8,pk,ks,rr,lf,rfl,er,hM⟩:=hi;cases rr with
  | cons y rr=>cases er
  | nil =>
  obtain⟨hp,h2⟩:=hM.fin
  refine Bg (fun rest p=>∃(i k:Int) (s6 s7 s8 s9:Sl) (XB:ZX) (ks:ZD) (lf:List (Str×Str)),p=[.o (Zc zs i k),s1,s2,.f (.lst (ms.map .str)),.o (.lst (SOR.map .str)),.o (.dct XB),s6,s7,s8,s9]/\OF s9 (.dct pk)/\rest=lf.map pT/\M2 ms pk lf ks XB)
   ⟨_,_,_,_,_,_,pk,ks,lf,rfl,.inl rfl,rfl,h2⟩ (fun x rest p D' hi nx _=>?_) fun p hi=>?_
  .obtain⟨i,k,s6,s7,s8,s9,XB,ks,lf,rfl,o9,er,h2⟩:=hi;cases lf with
   | nil=>cases er
   | cons q lf =>
   cases er;have n:=h2.n;have hq:=(h2.lk q Vk).2.2;have hk:∃b,Kd2 q.2 b:=hq.elim (fun e=>⟨true,.inl ⟨e,rfl⟩⟩) fun e=>⟨false,.inr ⟨e,rfl⟩⟩;obtain⟨b,hb⟩:=hk;refine Pb o9 rfl ?_;refine M3 (hR hb hp hm fun x m=>m) fun t i3 k3 ht=>?_;refine zj (by rw[Y1 h2.k];omega) ?_;obtain⟨U0,h3⟩:=h2.put ht;exact nx _ ⟨_,_,_,_,_,_,_,U0,lf,rfl,.inr rfl,rfl,h3⟩
  obtain⟨i,k,s6,s7,s8,s9,XB,ks,lf,rfl,o9,er,h2⟩:=hi;cases lf with
  | cons q lf=>cases er
  | nil =>
  refine Zu hd (by rw[Z0];omega) (by rw[Z0];omega) fun r i' k' h0 h1=>?_;rw[Z0]at h1;refine J2 h0 h1 fun root mr=>?_;exact rt _ _ ⟨_,_,_,⟨ks,root,XB,rfl,h2.made hp hsm mr⟩,rfl⟩
 refine Zu hd (by omega) (by omega) fun r i' k' h0 h1=>?_;refine rotP (xs:=WRD) (f:=T.str) h0 (Int.le_of_lt h1) (by decide) fun ys py=>?_;have ly:ys.length=14:=py.length_eq;refine Zu hd (by omega) (by omega) fun r2 i2 k2 g0 g1=>?_;have:=key (ys.take (2+r2).toNat) ((py.nodup_iff.mpr (by decide)).sublist (List.take_sublist _ _)) (fun z m=>py.mem_iff.mp (List.mem_of_mem_take m)) (by rw[L0t];omega) (by rw[L0t];omega) (.o (.lst (WRD.map .str))) (.f (.int r)) i2 k2;rw[<-Ki (by omega) (by omega)]at this;exact this
theorem Vm{a b:T}{r q:ZZ}{e:Bool}(h:eqE a b=some e)(h1:e=true->(Gm r q).isSome=true)(h2:e=false->(ltE a b).isSome=true):(Gm (a::r) (b::q)).isSome=true:=by
 unfold Gm;rw[h];show (if e=true then Gm r q else ltE a b).isSome=true;cases e with
 | true=>rw[if_pos rfl];exact h1 rfl
 | false=>rw[if_neg fun z=>nomatch z];exact h2 rfl
theorem ig{ds es:ZZ}(hd:Dfl ds)(he:Dfl es)(h:∀v u,ds=[v]->es=[u]->∃s,By s v/\By s u):(Gm [.tup ds] [.tup es]).isSome=true:=by
 cases hd with
 | no=>cases he with
  | no=>exact Vm (e:=true) rfl (fun _=>rfl) fun z=>nomatch z
  | is _=>exact Vm (e:=false) rfl (fun z=>nomatch z) fun _=>rfl
 | is _=>cases he with
  | no=>exact Vm (e:=false) rfl (fun z=>nomatch z) fun _=>rfl
  | is _ =>
   obtain⟨s,f1,f2⟩:=h _ _ rfl rfl;cases f1 with
   | @whole a b i _ _=>cases f2 with | @whole _ _ j _ _=>exact Vm (e:=(decide (i=j) && true)) rfl (fun _=>rfl) fun _=>rfl
   | @truth a=>cases f2 with | @truth b=>cases a<;>cases b<;>rfl
   | @text n x _=>cases f2 with | @text _ y _=>exact Vm (e:=(decide (x=y) && true)) rfl (fun _=>rfl) fun _=>rfl
   | row=>cases f2 with | row=>rfl
   | map=>cases f2 with | map=>rfl
def itm:T->ZZ
 | .tup ts=>ts
 | _=>[]
theorem ik{ns:ZD}{b:Bool}{XB:ZX}{p q:T}(hp:Lw ns b p)(hq:Lw ns b q)(dp:DF1 XB p)(dq:DF1 XB q):(Gm (itm p) (itm q)).isSome=true:=by
 cases hp with | @mk n x o ds hn hx ho hd =>
 cases hq with | @mk m y u es hm hy hu he =>
 refine Vm (e:=decide (n=m)) rfl (fun _=>?_) fun _=>rfl;refine Vm (e:=decide (x=y)) rfl (fun _=>?_) fun _=>rfl;refine Vm (e:=decide (o=u)) rfl (fun z=>?_) fun _=>rfl;cases S8 z;cases hd with
 | arm=>cases he with | arm=>rfl
 | @fld ds hd=>cases he with | @fld es he =>
  refine ig hd he fun v v' e e'=>?_;subst e;subst e';obtain⟨s,e1,f1⟩:=dp n x o v rfl;obtain⟨s',e2,f2⟩:=dq m y o v' rfl;rw[e1]at e2;cases e2;exact⟨s,f1,f2⟩
theorem Qe{ns:ZD}{b:Bool}:∀{ps:ZZ},(∀p∈ps,Lw ns b p)->Bf ps=some (ps.map itm)
 | [],_=>rfl
 | p::ps,h=>by
  have ih:=Qe (ps:=ps) fun q m=>h q (Vb _ m);cases h p Vk with | mk _ _ _ _ =>
  show (Bf ps).map _=_;rw[ih];rfl
theorem rn{ns:ZD}{b:Bool}{XB:ZX}{ps:ZZ}(hp:∀p∈ps,Lw ns b p)(hd:∀p∈ps,DF1 XB p)(l:ps.length<64):∃us,Ho ps=some us/\us.length=ps.length/\∀u∈us,u∈ps:=by
 unfold Ho;rw[Qe hp];show ∃us,(if ps.length<2 then some ps else _)=some us/\_;by_cases c:ps.length<2
 .exact⟨ps,if_pos c,rfl,fun u m=>m⟩
 .rw[if_neg c,if_pos ⟨l,fun a ma b' mb=>by
   obtain⟨p,mp,rfl⟩:=D6.mp ma;obtain⟨q,mq,rfl⟩:=D6.mp mb;exact ik (hp p mp) (hp q mq) (hd p mp) (hd q mq)⟩]
  have pm:=SRT.Wn (n:=ps.length) (by omega) fun i j=>(Gm ((ps.map itm).getD i []) ((ps.map itm).getD j [])).getD false;refine⟨_,rfl,by rw[Z0,pm.length_eq,XJ],fun u m=>?_⟩;obtain⟨i,mi,rfl⟩:=D6.mp m;have li:=List.mem_range.mp (pm.mem_iff.mp mi);rw[List.getD_eq_getElem?_getD,Mz li];exact G0e li
theorem srtPP{ns:ZD}{b:Bool}{XB:ZX}{ps:ZZ}{Q:Sl->Prop}(hp:∀p∈ps,Lw ns b p)(hd:∀p∈ps,DF1 XB p)(l:ps.length<64)(q:∀us,us.length=ps.length->(∀u∈us,u∈ps)->Q (.o (.lst us))):on (As .srtP [.tup ps]) Q:=by
 obtain⟨us,e,l',m⟩:=rn hp hd l;exact Z2 (a:=Sl.o (.lst us)) (by show (Ho ps).map _=_;rw[e];rfl) (q us l' m)
def PNr(K:Kn):Prop:=∀{zs:ZL} {i k:Int} {s:T} {ns:ZD},qk ns s->K [.o (Zc zs i k),.f s] (nh zs fun t=>Raw ns t/\pln t=true)
theorem o8{w:W}(hd:Uh w.C):PNr (wF Jh w):=fun {zs i k s ns} hs=>by
 refine Z1 rfl fun D rt _=>?_;refine Zu hd (by omega) (by omega) fun r i' k' h0 h1=>?_;have pl:=hs.pl;cases hs.raw with
 | truth=>exact rt _ _ ⟨_,_,_,⟨.whole,rfl⟩,rfl⟩
 | whole =>
  refine Zu hd (by omega) (by omega) fun r i' k' h0 h1=>?_;exact rt _ _ ⟨_,_,_,⟨.whole,rfl⟩,rfl⟩
 | text=>exact rt _ _ ⟨_,_,_,⟨.text,rfl⟩,rfl⟩
 | row ho=>exact rt _ _ ⟨_,_,_,⟨.row ho,rfl⟩,rfl⟩
 | map ho=>exact rt _ _ ⟨_,_,_,⟨.map ho,rfl⟩,rfl⟩
 | record _ _=>cases pl
 | choice _ _=>cases pl
theorem ix_to6(n:Nat):(Builtin.Str.strSliceIndices none (some 6) 1 n).length<=6:=by
 unfold Builtin.Str.strSliceIndices sliceRange;simp only[show (1:Int)>0 by decide,if_true,Z0,XJ]<;>(split<;>(try split)<;>(try split)<;>(try simp only[Int.ediv_one])<;>omega)
theorem vf{x:Str}(h:Sm x):(Txt.slice x none (some 6)).length<=6/\∀c∈(Txt.slice x none (some 6)).cps.toList,c∈x.cps.toList:=by
 have h6:=ix_to6 x.length;unfold Txt.slice
 split
 .rename_i c
  simp only[Ya,beq_iff_eq]at c;exact⟨by omega,fun c m=>m⟩
 .refine⟨?_,fun c m=>?_⟩
  .show (List.filterMap _ (Builtin.Str.strSliceIndices none (some 6) 1 x.length)).toArray.size<=_;rw[V7];exact Uu (List.length_filterMap_le _ _) h6
  .have m:c∈List.filterMap _ (Builtin.Str.strSliceIndices none (some 6) 1 x.length):=m;obtain⟨i,_,e⟩:=List.mem_filterMap.mp m;obtain⟨l,rfl⟩:=Array.getElem?_eq_some_iff.mp e;exact Array.mem_toList_iff.mpr (Array.getElem_mem l)
theorem sm_q{x:Str}(h:Sm x):Sm ((Str.ofString "q")++Txt.slice x none (some 6)):=by
 obtain⟨a,b⟩:=vf h;have e:((Str.ofString "q")++Txt.slice x none (some 6)).cps.toList=(Str.ofString "q").cps.toList++(Txt.slice x none (some 6)).cps.toList:=Array.toList_append;refine⟨?_,fun c m=>?_⟩
 .show (((Str.ofString "q")++Txt.slice x none (some 6)).cps).size<=8;rw[<-S9,e,D7];show 1+(Txt.slice x none (some 6)).cps.toList.length<=8;rw[S9];exact Uu (Nat.add_le_add_left a 1) (by omega)
 .rw[e]at m;rcases Tw.mp m with m | m
  .exact(show ∀c∈(Str.ofString "q").cps.toList,c<16 ^ 8 by decide) c m
  .exact h.2 c (b c m)
theorem noC_pl{ns:ZD}{s:T}(h:qk ns s):noC s=true:=by
 have pl:=h.pl;cases h.raw with
 | record _ _=>cases pl
 | choice _ _=>cases pl
 | _=>rfl
theorem tmpP{ns:ZD}{pk:ZX}{Q:Sl->Prop}(h:PlK ns pk)(q:Q (.o (.dct pk))):on (wb (.o (.dct pk))) Q:=Z2 (a:=Sl.o (.dct pk)) (if_pos (qg.mpr fun p m=>noC_pl (h.p p m))) q
theorem pl_tag{ns:ZD}{s:T}(h:qk ns s):∃t l,s=.tup (.str t::l)/\t∈qy:=by
 have pl:=h.pl;cases h.raw with
 | record _ _=>cases pl
 | choice _ _=>cases pl
 | whole=>exact⟨_,_,rfl,by decide⟩
 | truth=>exact⟨_,_,rfl,by decide⟩
 | text=>exact⟨_,_,rfl,by decide⟩
 | row _=>exact⟨_,_,rfl,by decide⟩
 | map _=>exact⟨_,_,rfl,by decide⟩
def Rst(b:Bool)(rs:ZZ):Prop:=(b=true/\rs=[])\/(b=false/\∃c,rs=[.bl c])
noncomputable abbrev shT(t:Str)(ps:ZZ)(zs:ZL)(rs:ZZ):T:=.tup (.str t::.tup ps::.tup (zs.map .int)::rs)
structure Grp(ns:ZD)(XB:ZX)(t:Str)(b:Bool)(ps:ZZ)(zs:ZL)(rs:ZZ):Prop where
 kd:Kd2 t b
 p:D4 ns b ps
 m:Mem ps zs
 r:Rst b rs
 df:∀p∈ps,DF1 XB p
theorem grp_of{ns:ZD}{root:Str}{XB:ZX}(h:Mk ns root XB){x:Str}{s:T}(e:Zr XB (.inr x)=some s)(np:pln s=false):∃t b ps zs rs,s=shT t ps zs rs/\Grp ns XB t b ps zs rs:=by
 have m:=Y2 e;have raw:=h.raw.r _ m;have ok:=h.ok _ m;have fit:=h.fit _ m;cases(show Raw ns s from raw) with
 | @record ps zs hp hz =>
  refine⟨_,true,ps,zs,[],rfl,.inl ⟨rfl,rfl⟩,hp, ?_,.inl ⟨rfl,rfl⟩,fun p mp n x o v e=>fit ps zs rfl n x o v (e ▸ mp)⟩;obtain⟨s,e⟩:∃s,s=T.tup [.str "record",.tup ps,.tup (zs.map .int)]:=⟨_,rfl⟩;have ok:Qm s:=e ▸ ok;cases ok with
  | @record qs us hm =>
   injection e with e;injection e with _ e;injection e with e1 e2;injection e1 with e1
   injection e2 with e2 _;injection e2 with e2
   have:us=zs:=List.map_inj_right (fun a b h=>by cases h;rfl) |>.mp e2;subst e1;subst this;exact hm
  | _=>cases e
 | @choice ps zs c hp hz =>
  refine⟨_,false,ps,zs,[.bl c],rfl,.inr ⟨rfl,rfl⟩,hp, ?_,.inr ⟨rfl,c,rfl⟩,fun p mp n x o v e=>by cases hp.p p mp with | mk _ _ _ hd=>cases hd;cases e⟩;obtain⟨s,e⟩:∃s,s=T.tup [.str "choice",.tup ps,.tup (zs.map .int),.bl c]:=⟨_,rfl⟩;have ok:Qm s:=e ▸ ok;cases ok with
  | @choice qs us _ hm =>
   injection e with e;injection e with _ e;injection e with e1 e2;injection e1 with e1
   injection e2 with e2 _;injection e2 with e2
   have:us=zs:=List.map_inj_right (fun a b h=>by cases h;rfl) |>.mp e2;subst e1;subst this;exact hm
  | _=>cases e
 | _=>cases np
theorem Grp.raw{ns:ZD}{b:Bool}{t:Str}{ps rs:ZZ}{zs:ZL}(hk:Kd2 t b)(hp:D4 ns b ps)(hz:zs.length<=20)(hr:Rst b rs):Raw ns (shT t ps zs rs):=by
 rcases hk with ⟨rfl,rfl⟩ | ⟨rfl,rfl⟩
 .rcases hr with ⟨_,rfl⟩ | ⟨z,_⟩
  .exact .record hp hz
  .cases z
 .rcases hr with ⟨z,_⟩ | ⟨_,c,rfl⟩
  .cases z
  .exact .choice hp hz
theorem yx(n:Nat)(gs:ZL):(List.replicate n (gs.map T.int)).flatten=((List.replicate n gs).flatten).map .int/\((List.replicate n gs).flatten).length=n * gs.length:=⟨by rw[List.map_flatten,List.map_replicate],by simp⟩
theorem Mk.put{ns:ZD}{root r' x:Str}{XB:ZX}{s s':T}(h:Mk ns root XB)(mx:x∈ns)(e:Zr XB (.inr x)=some s)(raw:Raw ns s')(hp:pln s'=true\/pln s=false)(mr:r'∈ns):Tq ns (Yp XB (.inr x) s')/\((∀p∈Yp XB (.inr x) s',Qm p.2)->(∀p∈Yp XB (.inr x) s',∀ps zs,p.2=zq ps zs->DF (Yp XB (.inr x) s') ps)->Mk ns r' (Yp XB (.inr x) s')):=by
 have rk:Tq ns (Yp XB (.inr x) s'):=⟨((Mm (x:=x) (v:=s') h.raw.k).resolve_right fun z=>z.1 mx).2,fun p m=>by
  rcases Tc m with m | rfl
  .exact h.raw.r p m
  .exact raw,h.raw.sm⟩
 refine⟨rk,fun ok fit=>⟨rk,mr,ok,fit, ?_,h.l⟩⟩;rcases hp with z | z
 .exact⟨x,mx,s',by rw[Gd,if_pos rfl],z⟩
 .obtain⟨y,my,t,et,zt⟩:=h.pl;refine⟨y,my,t, ?_,zt⟩;rw[Gd,if_neg fun c=>by cases c;rw[e]at et;cases et;rw[z]at zt;cases zt];exact et
noncomputable def cE:S:=dv (Yj 6 Yc)
section
variable{w:W}{Tg:ZL}{i0 k0:Int}{ns:ZD}{root x:Str}{XB pk:ZX}{s:T}{D:En}{pt:Nat->Bool}
theorem tn_fin(hd:Uh w.C)(hM:PMk (cl w.C "is_make"))(h:Mk ns root XB)(mx:x∈ns)(e:Zr XB (.inr x)=some s)(p14:pt 14=false)(rt:∀t i k (s1:Sl) (q:P),Mkd t->D.rt (.f t) (.o (Zc Tg i k)::s1::q))
  {s':T} (raw:Raw ns s') (hp:pln s'=true\/pln s=false) {s2 s6 s7 s8 s9 ug qf Xa v3 Xu:Sl} {i k:Int}:wS w pt (Yj 7 Yc) [.o (Zc Tg i k),.f (mkT root XB),s2,.f (.str x),.f s,.o (.dct (Yp XB (.inr x) s')),s6,s7,s8,s9,ug,qf,Xa,v3,Xu] D:=by
 show if pt 14=true then False else _
 rw[if_neg (by rw[p14];exact fun z=>nomatch z)];refine Zu hd (by omega) (by omega) fun r i' k' h0 h1=>?_;refine J2 (ss:=[root,x]) (by split<;>omega) (by show _<(2:Int);split<;>omega) fun y my=>?_
 have mr:y∈ns:=by
  rcases Y6.mp my with rfl | my
  .exact h.root
  .cases U1.mp my;exact mx
 obtain⟨rk,mk⟩:=h.put mx e raw hp mr;refine Gw (hM rk mr) fun b hb=>?_;refine Zf (b:=b) (fun z=>?_) fun _=>?_
 .exact rt _ _ _ _ _ ⟨ns,y,_,rfl,mk (hb z).1 (hb z).2⟩
 .exact rt _ _ _ _ _ ⟨ns,root,_,rfl,h⟩
theorem tn_put(fin:∀{s':T},Raw ns s'->∀{s2 s6 s7 s8 s9 ug qf Xa v3 Xu:Sl} {i k:Int},D.nx [.o (Zc Tg i k),.f (mkT root XB),s2,.f (.str x),.f s,.o (.dct (Yp XB (.inr x) s')),s6,s7,s8,s9,ug,qf,Xa,v3,Xu])(h:Mk ns root XB)
  {t:Str} {b:Bool} {ps ps' rs rs':ZZ} {zs cv:ZL} (es:s=shT t ps zs rs) (kd:Kd2 t b) (hp:D4 ns b ps') (hz:cv.length<=20) (hr:Rst b rs') {s2 s6 s7 qf Xa v3 Xu:Sl} {i k:Int}:wS w pt (Yj 4 cE) [.o (Zc Tg i k),.f (mkT root XB),s2,.f (.str x),.f s,.o (.dct XB),s6,s7,.f (.tup ps'),.f (.tup (cv.map .int)),.f (.tup rs'),qf,Xa,v3,Xu] D:=by
 have l:=h.l;have:=sizeLine_eq;subst es;refine R0 ?_;refine Se (by rcases hr with ⟨_,rfl⟩ | ⟨_,c,rfl⟩<;>(show 3+_<=_;simp;omega)) ?_;refine zj (by rw[Y1 h.raw.k];omega) ?_;exact fin (Grp.raw kd hp hz hr)
end
def cW:S:=dv (Yj 3 cE)
noncomputable def cX:S:=Xd (dv (dv (dv cW)))
section
variable{w:W}{Tg:ZL}{i0 k0:Int}{ns ms:ZD}{root x t:Str}{XB pk:ZX}{D:En}{b:Bool}{ps rs:ZZ}{zs:ZL}
def PutN(Tg:ZL)(ns:ZD)(b:Bool)(root x t:Str)(XB:ZX)(ps rs:ZZ)(zs:ZL)(Q:P->Prop):Prop:=∀{ps' rs':ZZ} {cv:ZL},D4 ns b ps'->cv.length<=20->Rst b rs'->∀{s2 s6 s7 qf Xa v3 Xu:Sl} {i k:Int},Q [.o (Zc Tg i k),.f (mkT root XB),s2,.f (.str x),.f (shT t ps zs rs),.o (.dct XB),s6,s7,.f (.tup ps'),.f (.tup (cv.map .int)),.f (.tup rs'),qf,Xa,v3,Xu]
theorem Lr(put:PutN Tg ns b root x t XB ps rs zs D.nx)(g:Grp ns XB t b ps zs rs){p':T}(hp:Lw ns b p'){a:Int}{s2 s6 s7 Xa Xu:Sl}{i k:Int}:wS w (Vx [.o (Zc Tg i0 k0),.f (mkT root XB)]) (Yj 2 cX) [.o (Zc Tg i k),.f (mkT root XB),s2,.f (.str x),.f (shT t ps zs rs),.o (.dct XB),s6,s7,.f (.tup ps),.f (.tup (zs.map .int)),.f (.tup rs),.f (.int a),Xa,.f p',Xu] D:=by
 have:=sizeLine_eq;have l:=g.m.l;have l1:=Vv (ts:=ps) (lo:=none) (hi:=some a);have l2:=Vv (ts:=ps) (lo:=some (a+1)) (hi:=none);refine Se (by show _+1<=_;omega) ?_;refine Se (by rw[D7];show _+1+_<=_;omega) ?_;refine put ⟨?_,fun q m=>?_⟩ (by have:=g.m.sl;omega) g.r
 .rw[D7,D7];show _+1+_<=_;omega
 .rcases Tw.mp m with m | m
  .rcases Tw.mp m with m | m
   .exact g.p.p q (G7 m)
   .cases U1.mp m;exact hp
  .exact g.p.p q (G7 m)
theorem wg(hP:Ly (cl w.C "_law_part"))(put:PutN Tg ns b root x t XB ps rs zs D.nx)(g:Grp ns XB t b ps zs rs)(hk:PlK ns pk)(gk:∀x s,Zr pk (.inr x)=some s->Zr XB (.inr x)=some s)(hm:Nms ms)(hx:∀x∈ms,x∈ns){wy a:Int}(w0:0<=wy)(w1:wy<8)(a0:0<=a){s2 s6:Sl}(o2:OF s2 (.lst (ms.map .str)))(o6:OF s6 (.dct pk)){i k:Int}:wS w (Vx [.o (Zc Tg i0 k0),.f (mkT root XB)]) cW [.o (Zc Tg i k),.f (mkT root XB),s2,.f (.str x),.f (shT t ps zs rs),.o (.dct XB),s6,.f (.int wy),.f (.tup ps),.f (.tup (zs.map .int)),.f (.tup rs),.f (.int a),.no,.no,.no] D:=by
 have sz:=sizeLine_eq;have l:=g.m.l;have lz:=g.m.sl;refine Zf (b:=decide (wy=1)) (fun _=>?_) fun _=>?_
 .obtain⟨cv,ez,_,lz'⟩:=F9 (f:=T.int) (xs:=zs) (some 1) none;have:=@put ps rs cv g.p (by omega) g.r s2 s6 (.f (.int wy)) (.f (.int a)) .no .no .no i k;rw[<-ez]at this;exact this
 refine Zf (b:=decide (wy<4)) (fun z=>?_) fun _=>?_
 .have z:=S8 z;have l0:=Vv (ts:=ps) (lo:=some a) (hi:=some (a+1));have l1:=Vv (ts:=ps) (lo:=none) (hi:=some a);have l2:=Vv (ts:=ps) (lo:=some (a+1)) (hi:=none);refine Ca (ps:=Y4 ps (some a) (some (a+1))) (fun p m=>g.p.p p (G7 m)) fun s0=>?_;refine Se (by omega) ?_;obtain⟨r1,r2⟩:=yx (wy - 2).toNat ((Y4 ps (some a) (some (a+1))).map Uv);rw[Z0]at r2;have n1:(wy - 2).toNat<=1:=by omega
  have n2:(wy - 2).toNat * (Y4 ps (some a) (some (a+1))).length<=8:=by
   have:=Nat.mul_le_mul n1 (Uu l0 l);omega
  refine Pc (a:=Sl.o (.lst (List.replicate (wy - 2).toNat (((Y4 ps (some a) (some (a+1))).map Uv).map T.int)).flatten)) ⟨by omega,by omega, ?_⟩ ?_
  .rw[Z0,Z0,Nat.mul_comm];omega
  refine Zqk (by rw[r1,Z0,Z0,r2];omega) ?_;have ll:(zs++(List.replicate (wy - 2).toNat ((Y4 ps (some a) (some (a+1))).map Uv)).flatten).length<=16:=by rw[D7,r2];omega
  refine w4 (us:=(SRT.Nn (zs++(List.replicate (wy - 2).toNat ((Y4 ps (some a) (some (a+1))).map Uv)).flatten)).map .int) (by rw[r1, <-M0a];exact srt_ints _ (by omega)) ?_;refine put ⟨by rw[D7];omega,fun q m=>?_⟩ (by rw[(SRT.Yb _).length_eq];omega) g.r;rcases Tw.mp m with m | m<;>exact g.p.p q (G7 m)
 refine Zf (b:=decide (wy=4)) (fun _=>?_) fun _=>?_
 .refine R0 ?_;refine Pb o6 rfl ?_;refine Pb o2 rfl ?_;refine M3 (hP g.kd (show (500:Int)∈Hw by decide) hk hm hx) fun p i k hp=>?_;refine Se (by show _+1<=_;omega) ?_;refine srtPP (XB:=XB) (ns:=ns) (b:=b) (fun q m=>?_) (fun q m=>?_) (by rw[D7];show _+1<_;omega) fun us lu mu=>?_
  .rcases Tw.mp m with m | m
   .exact g.p.p q m
   .cases U1.mp m;exact hp.prt
  .rcases Tw.mp m with m | m
   .exact g.df q m
   .cases U1.mp m;exact fun n x o v e=>let ⟨s,e1,f⟩:=hp.df n x o v e;⟨s,gk o s e1,f⟩
  rw[D7]at lu;refine put ⟨by rw[lu];show _+1<=_;omega,fun q m=>?_⟩ (by omega) g.r;rcases Tw.mp (mu q m) with m | m
  .exact g.p.p q m
  .cases U1.mp m;exact hp.prt
 refine Zf (b:=decide (a<(ps.length:Nat))) (fun z=>?_) fun _=>?_
 .obtain⟨p,ep,_,mp⟩:=K6 (xs:=ps) a0 (S8 z);have hp:=g.p.p p mp;cases hp with | @mk n y o ds hn hy ho hd =>
  refine R0 ?_;refine ie ep ?_;refine R0 ?_;refine Pb o6 rfl ?_;refine Pb o2 rfl ?_;refine M3 (hP g.kd hn hk hm hx) fun p i k hp=>?_;refine Zf (b:=decide (wy=7)) (fun _=>?_) fun _=>Lr put g hp.prt;refine ie ep ?_;refine R0 ?_;refine ie ep ?_;refine ixSn ?_;refine Pc hy.z ?_;have hq:=sm_q hy;have h6:=(vf hy).1;refine addSP (by show 1+_<=_;omega) ?_;refine ie ep ?_;cases hd with
  | arm=>exact Lr put g (.mk hn hq ho .arm)
  | fld hd=>exact Lr put g (.mk hn hq ho (.fld hd))
 .exact put g.p (by omega) g.r
end
end K56
set_option maxHeartbeats 2000000
namespace K56
open PySem PySem.Spec PyProof.Rows L2 PV
section
variable{w:W}{Tg:ZL}{i0 k0:Int}{ns ms:ZD}{root x t:Str}{XB pk:ZX}{D:En}{b:Bool}{ps rs:ZZ}{zs:ZL}
theorem tn_grp(hd:Uh w.C)(hP:Ly (cl w.C "_law_part"))(h:Mk ns root XB)(fin:∀{s':T},Raw ns s'->∀{s2 s6 s7 s8 s9 ug qf Xa v3 Xu:Sl} {i k:Int},D.nx [.o (Zc Tg i k),.f (mkT root XB),s2,.f (.str x),.f (shT t ps zs rs),.o (.dct (Yp XB (.inr x) s')),s6,s7,s8,s9,ug,qf,Xa,v3,Xu])(g:Grp ns XB t b ps zs rs)(hk:PlK ns pk)(gk:∀x s,Zr pk (.inr x)=some s->Zr XB (.inr x)=some s)(hm:Nms ms)(hx:∀x∈ms,x∈ns){wy:Int}(w0:0<=wy)(w1:wy<8){s2 s6:Sl}(o2:OF s2 (.lst (ms.map .str)))(o6:OF s6 (.dct pk)){i k:Int} :
  wS w (Vx [.o (Zc Tg i0 k0),.f (mkT root XB)]) (Yj 2 cE) [.o (Zc Tg i k),.f (mkT root XB),s2,.f (.str x),.f (shT t ps zs rs),.o (.dct XB),s6,.f (.int wy),.f (.tup ps),.f (.tup (zs.map .int)),.f (.tup rs),.no,.no,.no,.no] D:=by
 have l:=g.m.l;have lz:=g.m.sl;have put:PutN Tg ns b root x t XB ps rs zs fun q=>wS w (Vx [.o (Zc Tg i0 k0),.f (mkT root XB)]) (Yj 4 cE) q D:=fun hp hz hr=>tn_put fin h rfl g.kd hp hz hr;refine Zu hd (by omega) (by omega) fun a i k a0 a1=>?_;refine Zf (b:=decide (wy=0)) (fun _=>?_) fun _=>wg hP put g hk gk hm hx w0 w1 a0 o2 o6;have tw:=@wg w Tg i0 k0 ns ms root x t XB pk ⟨fun q=>wS w (Vx [.o (Zc Tg i0 k0),.f (mkT root XB)]) (Yj 4 cE) q D,D.rt,D.bk,D.ct⟩ b ps rs zs hP put g hk gk hm hx wy a w0 w1 a0 s2 s6 o2 o6 i k;rcases g.r with ⟨rb,rfl⟩ | ⟨rb,c,rfl⟩
 .exact tw
 .exact put g.p (by omega) (.inr ⟨rb,!c,rfl⟩)
end
def PTn(K:Kn):Prop:=∀{zs:ZL} {i k:Int} {t:T},Mkd t->K [.o (Zc zs i k),.f t] (nh zs Mkd)
theorem tn_pl{w:W}{zs:ZL}{i k i2 k2:Int}{ns:ZD}{root x:Str}{XB:ZX}{s:T}{D:En}{s6:Sl}{wy:Int}(hP:PPl (cl w.C "_law_plain"))(hN:PNr (cl w.C "_law_near"))(h:Mk ns root XB)(hm:Nms (SRT.Uo ns))(hx:∀x∈SRT.Uo ns,x∈ns)(hs:qk ns s)(fin:∀{s':T},Raw ns s'->pln s'=true->∀{s2:Sl} {i' k':Int},D.nx [.o (Zc zs i' k'),.f (mkT root XB),s2,.f (.str x),.f s,.o (.dct (Yp XB (.inr x) s')),s6,.f (.int wy),.no,.no,.no,.no,.no,.no,.no]):wS w (Vx [.o (Zc zs i k),.f (mkT root XB)]) (Xd (Yj 6 Yc)) [.o (Zc zs i2 k2),.f (mkT root XB),.o (.lst ((SRT.Uo ns).map .str)),.f (.str x),.f s,.o (.dct XB),s6,.f (.int wy),.no,.no,.no,.no,.no,.no,.no] D:=by
 have l6:=h.l;refine Zf (b:=decide ((1:Int)<wy)) (fun _=>?_) fun _=>?_
 .refine M3 (hN hs) fun t i k ht=>?_;refine zj (by rw[Y1 h.raw.k];omega) ?_;exact fin ht.1 ht.2
 .obtain⟨t,l,rfl,mt⟩:=pl_tag hs;refine R0 ?_;refine M3 (hP mt hm hx) fun t i k ht=>?_;refine zj (by rw[Y1 h.raw.k];omega) ?_;exact fin ht.raw ht.pl
theorem Xk{w:W}(hd:Uh w.C)(hP:PPl (cl w.C "_law_plain"))(hQ:Ly (cl w.C "_law_part"))(hS:PPs (cl w.C "_law_plains"))(hN:PNr (cl w.C "_law_near"))(hM:PMk (cl w.C "is_make")):PTn (wF Vu w):=fun {zs i k t} ht=>by
 obtain⟨ns,root,XB,rfl,h⟩:=ht;refine Z1 rfl fun D rt _=>?_;have l6:=h.l;have l0:0<ns.length:=List.length_pos_of_mem h.root;have pm:=SRT.Yf ns;have ls:=pm.length_eq;have hm:Nms (SRT.Uo ns):=⟨by omega,by omega⟩;have hx:∀x∈SRT.Uo ns,x∈ns:=fun x m=>pm.mem_iff.mp m;refine Mg h.raw.k (by omega) ?_;refine Zu hd (by rw[Z0];omega) (by rw[Z0];omega) fun r i1 k1 h0 h1=>?_;rw[Z0]at h1;refine J2 h0 h1 fun x mx=>?_;have mx:=hx x mx;obtain⟨s,e,raw⟩:=h.raw.get mx;refine Kv e ?_;refine Y8 (hS h) fun y ⟨pk,ey,hk,gk,hi⟩=>?_;subst ey;refine tmpP hk ?_;refine Zu hd (by omega) (by omega) fun wy i2 k2 w0 w1=>?_;have fin:∀{s':T},Raw ns s'->(pln s'=true\/pln s=false)->∀{s2 s6 s7 s8 s9 ug qf Xa v3 Xu:Sl} {i' k':Int},wS w (Vx [.o (Zc zs i k),.f (mkT root XB)]) (Yj 7 Yc) [.o (Zc zs i' k'),.f (mkT root XB),s2,.f (.str x),.f s,.o (.dct (Yp XB (.inr x) s')),s6,s7,s8,s9,ug,qf,Xa,v3,Xu] D:=fun raw hp=>tn_fin hd hM h mx e rfl (fun t i k s1 q ht=>rt _ _ ⟨t,i,k,ht,rfl⟩) raw hp;refine Zf (b:=(Zr pk (.inr x)).isSome) (fun z=>?_) fun z=>?_
 .rw[hi x s e]at z;have hs:qk ns s:=⟨raw,h.ok _ (Y2 e),z⟩;exact tn_pl hP hN h hm hx hs fun raw hp=>fin raw (.inl hp)
 .rw[hi x s e]at z;obtain⟨t,b,ps,us,rs,rfl,g⟩:=grp_of h e z;have tg:=@tn_grp w zs i k ns (SRT.Uo ns) root x t XB pk ⟨fun q=>wS w (Vx [.o (Zc zs i k),.f (mkT root XB)]) (Yj 7 Yc) q D,D.rt,D.bk,D.ct⟩ b ps rs us hd hQ h (fun raw=>fin raw (.inr z)) g hk gk hm hx wy w0 w1 (.o (.lst ((SRT.Uo ns).map .str))) (.o (.dct pk)) (.inl rfl) (.inl rfl) i2 k2;rcases g.r with ⟨rb,rfl⟩ | ⟨rb,c,rfl⟩
  .exact tg
  .exact tg
def PNx(K:Kn):Prop:=∀{zs:ZL} {i k:Int} {t:T},Mkd t->K [.o (Zc zs i k),.f t,.f (.int 6)] (nh zs Mkd)
theorem o5{w:W}(hd:Uh w.C)(hT:PTn (cl w.C "_law_turned")):PNx (wF Js w):=fun {zs i k t} ht=>by
 refine Z1 rfl fun D rt _=>?_;refine Zu hd (by omega) (by omega) fun r i' k' h0 h1=>?_;refine rngP (by omega) (by omega) ?_;refine Bg (fun rest p=>∃i k t s3,p=[.o (Zc zs i k),.f t,.f (.int 6),s3]/\Mkd t) ⟨_,_,_,_,rfl,ht⟩ (fun x rest p D' hi nx _=>?_) fun p hi=>?_
 .obtain⟨i,k,t,s3,rfl,ht⟩:=hi;refine M3 (hT ht) fun t i k ht=>?_;exact nx _ ⟨_,_,_,_,rfl,ht⟩
 .obtain⟨i,k,t,s3,rfl,ht⟩:=hi;exact rt _ _ ⟨t,_,_,ht,rfl⟩
end K56
set_option maxHeartbeats 1000000
namespace K56
open PySem PySem.Spec PyProof.Rows L2 PV
structure Pap(ns Gx:ZD)(ts us:ZZ):Prop where
 p:Prr ns Gx ts
 lt:ts.length<=12
 lu:us.length<=12
 u:∀u∈us,∃x,Sm x/\u=.str x
def PDn(K:Kn):Prop:=∀{zs:ZL} {i k:Int} {ns Gx:ZD} {r r':Str} {XB Yn:ZX},Mk ns r XB->Mk Gx r' Yn->K [.o (Zc zs i k),.f (mkT r XB),.f (mkT r' Yn)] (nh zs fun t=>∃ts us,t=.tup [.tup ts,.tup us]/\Pap ns Gx ts us)
theorem dy{w:W}(hd:Uh w.C):PDn (wF Um w):=fun {zs i k ns Gx r r' XB Yn} h h'=>by
 refine Z1 rfl fun D rt _=>?_;have sz:=sizeLine_eq;have l6:=h.l;have l6':=h'.l;have l0:0<ns.length:=List.length_pos_of_mem h.root;have l0':0<Gx.length:=List.length_pos_of_mem h'.root;have pm:=SRT.Yf ns;have pm':=SRT.Yf Gx;have ls:=pm.length_eq;have ls':=pm'.length_eq;refine Mg h.raw.k (by omega) ?_;refine Te (fun rest acc p=>∃(s0:Sl) (i k:Int) (ss:ZD),p=[s0,.f (mkT r' Yn),.o (Zc zs i k)]/\rest=ss.map T.str/\(∀x∈ss,x∈ns)/\Prr ns Gx acc/\acc.length+ss.length<=6) ⟨_,_,_,SRT.Uo ns,rfl,rfl,fun x m=>pm.mem_iff.mp m,(fun t m=>nomatch m),by rw[List.length_nil];omega⟩ (fun x rest acc p K hi hk hn=>?_) fun acc p hi=>?_
 .obtain⟨s0,i,k,ss,rfl,er,hs,ha,hl⟩:=hi;cases ss with
  | nil=>cases er
  | cons y ss =>
  cases er;rw[D9]at hl;have Ng:∀x∈ss,x∈ns:=fun x m=>hs x (Vb _ m);refine Zf (b:=(Zr Yn (.inr y)).isSome) (fun z=>?_) fun _=>hn _ ⟨_,_,_,ss,rfl,rfl,Ng,ha,by omega⟩;refine Zu hd (by omega) (by omega) fun r i k h0 h1=>?_;refine Zf (b:=decide ((0:Int)<r)) (fun _=>?_) fun _=>hn _ ⟨_,_,_,ss,rfl,rfl,Ng,ha,by omega⟩;refine hk _ _ ⟨_,_,_,ss,rfl,rfl,Ng,fun t m=>?_,by rw[D7];show _+1+_<=_;omega⟩;rcases Tw.mp m with m | m
  .exact ha t m
  .cases U1.mp m;obtain⟨s,e⟩:=Option.isSome_iff_exists.mp z;obtain⟨y',my,ey⟩:=h'.raw.key (Y2 e);cases ey;exact⟨y,y,hs y Vk,my,rfl⟩
 obtain⟨s0,i,k,ss,rfl,er,_,ha,hl⟩:=hi;refine Mg h.raw.k (by omega) ?_;refine Mg h'.raw.k (by omega) ?_;refine Zu hd (by omega) (by omega) fun n i k n0 n1=>?_;refine rngP (by omega) (by omega) ?_;refine Bg (fun rest p=>∃(i k:Int) (ts:ZZ) (s6:Sl),p=[.o (Zc zs i k),.f (mkT r XB),.f (mkT r' Yn),.o (.lst ts),.o (.lst ((SRT.Uo ns).map .str)),.o (.lst ((SRT.Uo Gx).map .str)),s6]/\Prr ns Gx ts/\ts.length+rest.length<=12) ⟨_,_,_,_,rfl,ha,by rw[Z0,XJ];omega⟩ (fun x rest p D' hi nx _=>?_) fun p hi=>?_
 .obtain⟨i,k,ts,s6,rfl,ht,hl⟩:=hi;rw[D9]at hl;refine Zu hd (by rw[Z0];omega) (by rw[Z0];omega) fun r i k h0 h1=>?_;rw[Z0]at h1;refine J2 h0 h1 fun a ma=>?_;refine Zu hd (by rw[Z0];omega) (by rw[Z0];omega) fun r i k h0 h1=>?_;rw[Z0]at h1;refine J2 h0 h1 fun b mb=>?_;refine appP (by omega) ?_;refine nx _ ⟨_,_,_,_,rfl,fun t m=>?_,by rw[D7];show _+1+_<=_;omega⟩;rcases Tw.mp m with m | m
  .exact ht t m
  .cases U1.mp m;exact⟨a,b,pm.mem_iff.mp ma,pm'.mem_iff.mp mb,rfl⟩
 obtain⟨i,k,ts,s6,rfl,ht,hl⟩:=hi;rw[List.length_nil]at hl;refine Zu hd (by omega) (by omega) fun n i k n0 n1=>?_;refine rt _ _ ⟨_,_,_,⟨ts,Y4 ((SRT.Uo ns).map .str) none (some n),rfl,ht,by omega,Uu Vv (by rw[Z0];omega),fun u m=>?_⟩,rfl⟩;obtain⟨x,mx,rfl⟩:=D6.mp (G7 m);exact⟨x,h.raw.sm x (pm.mem_iff.mp mx),rfl⟩
theorem Pu:∀ts:ZZ,B0 (.bl false) (ts.map fun _=>.bl true)=some false
 | []=>rfl
 | t::ts=>by
  show (B0 (.bl false) (ts.map fun _=>.bl true)).map (false || ·)=_;rw[Pu ts];rfl
noncomputable def swp:T->T
 | .tup [a,b]=>.tup [b,a]
 | t=>t
theorem law_ok{w:W}(hT:∀zs:ZL,on (w.C "_law_tape" [.f (.lst (zs.map .int))]) fun x=>x=(.o (Zc zs 0 0),[]))(hd:Uh w.C)(hM:cq (cl w.C "_law_make"))(hN:PNx (cl w.C "_law_next"))(hD:PDn (cl w.C "_law_drawn"))(hR:PRgt (cl w.C "_law_right"))(zs:ZL):wF C1 w [.f (.lst (zs.map .int))] fun x=>x=(.f (.bl true),[]):=by
 refine Z1 rfl fun D rt _=>?_;refine Y8 (hT zs) fun y ey=>?_;subst ey;refine Bg (fun rest p=>∃i k s2 s3 s4 s5 s6,p=[.f (.lst (zs.map .int)),.o (Zc zs i k),s2,s3,s4,s5,s6]) ⟨_,_,_,_,_,_,_,rfl⟩ (fun x rest p D' hi nx _=>?_) fun p hi=>?_
 .obtain⟨i,k,s2,s3,s4,s5,s6,rfl⟩:=hi;refine M3 hM fun t i k ht=>?_;refine M3 (hN ht) fun t' i k ht'=>?_
  have rest:∀t',Mkd t'->∀i k,wS w (Vx [.f (.lst (zs.map .int))]) (Yj 3 (lpB (Yj 1 Zqq))) [.f (.lst (zs.map .int)),.o (Zc zs i k),.f x,.f t,.f t',s5,s6] D':=fun t' ht' i k=>by
   obtain⟨ns,r,XB,rfl,h⟩:=ht;obtain⟨Gx,r',Yn,rfl,h'⟩:=ht';refine M3 (hD h h') fun pp i k hp=>?_;obtain⟨ts,us,rfl,hp⟩:=hp;refine Yy swp (fun p=>∃s0 s1,p=[s0,s1]) ⟨_,_,rfl⟩ (fun t mt p K hs hk=>?_) fun p hs=>?_
   .obtain⟨s0,s1,rfl⟩:=hs;obtain⟨a,b,_,_,rfl⟩:=hp.p t mt;exact hk _ ⟨_,_,rfl⟩
   obtain⟨s0,s1,rfl⟩:=hs;refine Y8 (hR h h' hp.p hp.lt hp.lu hp.u) fun y ey=>?_;subst ey
   have hb:Prr Gx ns (ts.map swp):=fun t m=>by
    obtain⟨u,mu,rfl⟩:=D6.mp m;obtain⟨a,b,ma,mb,rfl⟩:=hp.p u mu;exact⟨b,a,mb,ma,rfl⟩
   refine Y8 (hR (us:=[]) h' h hb (by rw[Z0];exact hp.lt) (B2 _) fun u m=>nomatch m) fun y ey=>?_;subst ey;refine Yy (fun _=>.bl true) (fun p=>∃s0,p=[s0,.f (mkT r XB),.f (mkT r' Yn)]) ⟨_,rfl⟩ (fun t mt p K hs hk=>?_) fun p hs=>?_
   .obtain⟨s0,rfl⟩:=hs;refine Y8 (hR (ts:=[t]) (us:=[]) h h' (fun u m=>by cases U1.mp m;exact hp.p t mt) (by show 1<=12;omega) (B2 _) fun u m=>nomatch m) fun y ey=>?_;subst ey;exact hk _ ⟨_,rfl⟩
   obtain⟨s0,rfl⟩:=hs;refine Z2 (a:=Sl.f (.bl false)) (by show (B0 (.bl false) (ts.map fun _=>.bl true)).map _=_;rw[Pu];rfl) ?_;exact nx _ ⟨_,_,_,_,_,_,_,rfl⟩
  refine Zu hd (by omega) (by omega) fun r i k h0 h1=>?_;refine Zf (b:=decide (r=0)) (fun _=>?_) fun _=>rest t' ht' _ _;refine M3 hM fun t' i k ht'=>?_;exact rest t' ht' _ _
 .obtain⟨i,k,s2,s3,s4,s5,s6,rfl⟩:=hi;exact rt _ _ rfl
noncomputable def tabA:List (Str×Df):=[("is_whole",Vw),("is_item_whole",Yh),("is_number",Ul),("is_text",G1),("is_name",G2),("rises",M6),("is_shape",Ja),("are_bounds",Ve),("are_members",Yl),("is_struck",Uc),("is_short_tuple",Yt),("is_field",Jo),("is_default",Vi),("is_arm",M8),("is_single_value",Yv),("member_of",Uk),("is_make",G3),("form_of",G5),("are_forms",Ur),("fits_in",G6),("ofs_of",M7),("fits_default",Y3)]
noncomputable def tabB:List (Str×Df):=[("knows_all",Ut),("has_all",G4),("_law_tape",Jl),("_law_draw",Ju),("_law_plain",Ub),("_law_default",Vf),("_law_part",Jr),("_law_parted",Vo),("_law_plains",Va),("_law_make",Jp),("_law_alike",Ud),("_law_near",Jh),("_law_turned",Vu),("_law_next",Js),("_law_all_known",Ys),("_law_drawn",Um),("_law_right",Ug),("law",C1)]
def tabL:List (Str×Df):=tabA++tabB
noncomputable def tab(f:Str):Option Df:=(tabL.find? fun p=>decide (p.1=f)).map (·.2)
noncomputable def gl(x:Str):Option T:=if x = "LETTERS" then some (.str LET) else if x = "SIGNS" then some (.str SIG) else if x = "GREATEST_WHOLE" then some (.int 1000000000000000000) else if x = "GREATEST_NUMBER" then some (.int 999) else if x = "LONGEST_TEXT" then some (.int 200) else if x = "LONGEST_NAME" then some (.int 8) else if x = "MOST_PARTS" then some (.int 20) else if x = "MOST_FIELDS" then some (.int 8) else if x = "MOST_FORMS" then some (.int 8) else if x = "is_field" then some (.fn x) else if x = "is_arm" then some (.fn x) else none
noncomputable abbrev C(n:Nat):Cs:=Cn tab gl n
structure Lv(n:Nat)(D:Cs):Prop where
 e:D=C n
theorem U2{n:Nat}{D:Cs}{f:Str}{d:Df}{as:List Sl}{Q:Sl×ZZ->Prop}(lv:Lv (n+1) D)(h:∀D,Lv n D->wF d ⟨D,gl⟩ as Q)(e:tab f=some d:=by kernel_rfl):on (D f as) Q:=by
 obtain rfl:=lv.e;exact callW e (h _ ⟨rfl⟩)
theorem gG:GL gl:=⟨by kernel_rfl,by kernel_rfl,by kernel_rfl,by kernel_rfl,by kernel_rfl,by kernel_rfl,by kernel_rfl,by kernel_rfl,by kernel_rfl,by kernel_rfl,by kernel_rfl⟩
theorem Ui(n:Nat){D:Cs}(lv:Lv (n+1) D):Uh D:=fun a b=>U2 (d:=Ju) lv fun D lv=>Zzd a b
theorem p_wI(n:Nat){D:Cs}(lv:Lv (n+1) D):Ny (cl D "is_whole"):=U2 (d:=Vw) lv fun D lv=>Xj (w:=⟨D,gl⟩)
theorem p_wh(n:Nat){D:Cs}(lv:Lv (n+1) D):Hj (cl D "is_whole"):=fun h=>U2 (d:=Vw) lv fun D lv=>jy (w:=⟨D,gl⟩)  h
theorem p_iw(n:Nat){D:Cs}(lv:Lv (n+2) D):PItW (cl D "is_item_whole"):=U2 (d:=Yh) lv fun D lv=>Fx (w:=⟨D,gl⟩) gG (p_wI n lv)
theorem p_nu(n:Nat){D:Cs}(lv:Lv (n+2) D):Zz3 (cl D "is_number"):=U2 (d:=Ul) lv fun D lv=>zr (w:=⟨D,gl⟩) gG (p_wI n lv)
theorem p_tx(n:Nat){D:Cs}(lv:Lv (n+1) D):cx (cl D "is_text"):=fun h=>U2 (d:=G1) lv fun D lv=>rq (w:=⟨D,gl⟩) gG h
theorem a9(n:Nat){D:Cs}(lv:Lv (n+1) D):Lg (cl D "is_name"):=fun h=>U2 (d:=G2) lv fun D lv=>iz (w:=⟨D,gl⟩) gG h
theorem p_sh(n:Nat){D:Cs}(lv:Lv (n+1) D):Qb (cl D "is_short_tuple"):=U2 (d:=Yt) lv fun D lv=>vm (w:=⟨D,gl⟩) gG
theorem p_ri(n:Nat){D:Cs}(lv:Lv (n+1) D):Zz2 (cl D "rises"):=⟨U2 (d:=M6) lv fun D lv=>(Py (w:=⟨D,gl⟩)).1,U2 (d:=M6) lv fun D lv=>(Py (w:=⟨D,gl⟩)).2⟩
theorem p_st(n:Nat){D:Cs}(lv:Lv (n+3) D):PStk (cl D "is_struck"):=U2 (d:=Uc) lv fun D lv=>Xc (w:=⟨D,gl⟩) (p_sh (n+1) lv) (p_nu n lv) (p_ri (n+1) lv)
theorem p_df(n:Nat){D:Cs}(lv:Lv (n+1) D):B1 (cl D "is_default") fun t=>∃ds,t=.tup ds:=fun h=>U2 (d:=Vi) lv fun D lv=>O0 (w:=⟨D,gl⟩)  h
theorem p_ar(n:Nat){D:Cs}(lv:Lv (n+3) D):B1 (cl D "is_arm") fun t=>∃n x o,Sm x/\o.length<=sizeLine/\t=.tup [.int n,.str x,.str o]:=fun h=>U2 (d:=M8) lv fun D lv=>Zz0 (w:=⟨D,gl⟩) (p_nu n lv) (a9 (n+1) lv) h
theorem p_fi(n:Nat){D:Cs}(lv:Lv (n+4) D):B1 (cl D "is_field") fun t=>∃n x o ds,Sm x/\o.length<=sizeLine/\t=.tup [.int n,.str x,.str o,.tup ds]:=fun h=>U2 (d:=Jo) lv fun D lv=>xy (w:=⟨D,gl⟩) (p_ar n lv) (p_df (n+2) lv) h
theorem p_mF(n:Nat){D:Cs}(lv:Lv (n+5) D):Zz5 (cl D "are_members") true "is_field" := fun {ns ps zs} hs hp=>U2 (d:=Yl) lv fun D lv=>Ct (w:=⟨D,gl⟩) (p_sh (n+3) lv) (p_ri (n+3) lv) (p_st (n+1) lv) hp fun p h=>by
 cases h with | mk hn hx ho hd=>cases hd;exact p_fi n lv ⟨_,_,_,_,hx,(hs _ ho).z,rfl⟩
theorem p_mA(n:Nat){D:Cs}(lv:Lv (n+5) D):Zz5 (cl D "are_members") false "is_arm" := fun {ns ps zs} hs hp=>U2 (d:=Yl) lv fun D lv=>Ct (w:=⟨D,gl⟩) (p_sh (n+3) lv) (p_ri (n+3) lv) (p_st (n+1) lv) hp fun p h=>by
 cases h with | mk hn hx ho hd=>cases hd;exact p_ar (n+1) lv ⟨_,_,_,hx,(hs _ ho).z,rfl⟩
theorem p_bd(n:Nat){D:Cs}(lv:Lv (n+3) D):PBnd (cl D "are_bounds"):=U2 (d:=Ve) lv fun D lv=>qj (w:=⟨D,gl⟩) (p_iw n lv)
theorem p_sp(n:Nat){D:Cs}(lv:Lv (n+6) D):PShp (cl D "is_shape"):=fun a b=>U2 (d:=Ja) lv fun D lv=>vd (w:=⟨D,gl⟩) gG (p_bd (n+2) lv) (p_wI (n+4) lv) (a9 (n+4) lv) (p_mF n lv) (p_mA n lv) a b
theorem p_sg(n:Nat){D:Cs}(lv:Lv (n+2) D):PSng (cl D "is_single_value"):=fun a b=>U2 (d:=Yv) lv fun D lv=>Xh (w:=⟨D,gl⟩) (p_wh n lv) (p_tx n lv) a b
theorem p_me(n:Nat){D:Cs}(lv:Lv (n+1) D):Zz4 (cl D "member_of"):=fun a=>U2 (d:=Uk) lv fun D lv=>zp (w:=⟨D,gl⟩)  a
theorem p_fo(n:Nat){D:Cs}(lv:Lv (n+1) D):cj (cl D "form_of"):=fun a=>U2 (d:=G5) lv fun D lv=>Zzz (w:=⟨D,gl⟩)  a
theorem p_of(n:Nat){D:Cs}(lv:Lv (n+1) D):POfs (cl D "ofs_of"):=fun a=>U2 (d:=M7) lv fun D lv=>ofs_ok (w:=⟨D,gl⟩)  a
theorem p_fd(n:Nat){D:Cs}(lv:Lv (n+3) D):PFd (cl D "fits_default"):=fun a b c=>U2 (d:=Y3) lv fun D lv=>m4 (w:=⟨D,gl⟩) (p_sg n lv) a b c
theorem p_fn(n:Nat){D:Cs}(lv:Lv (n+4) D):PFi (cl D "fits_in"):=fun a b=>U2 (d:=G6) lv fun D lv=>m3 (w:=⟨D,gl⟩) (p_of (n+2) lv) (p_fd n lv) a b
theorem p_fs(n:Nat){D:Cs}(lv:Lv (n+7) D):PFms (cl D "are_forms"):=fun a=>U2 (d:=Ur) lv fun D lv=>me (w:=⟨D,gl⟩) gG (a9 (n+5) lv) (p_sp n lv) a
theorem p_mk(n:Nat){D:Cs}(lv:Lv (n+8) D):PMk (cl D "is_make"):=fun a b=>U2 (d:=G3) lv fun D lv=>z6 (w:=⟨D,gl⟩) (p_fs n lv) (a9 (n+6) lv) (p_fn (n+3) lv) a b
theorem p_ha(n:Nat){D:Cs}(lv:Lv (n+2) D):PHas (cl D "has_all"):=fun a b=>U2 (d:=G4) lv fun D lv=>has_ok (w:=⟨D,gl⟩) (p_me n lv) a b
theorem p_kn(n:Nat){D:Cs}(lv:Lv (n+3) D):PKn (cl D "knows_all"):=fun a b c=>U2 (d:=Ut) lv fun D lv=>fm (w:=⟨D,gl⟩) (p_fo (n+1) lv) (p_ha n lv) a b c
theorem p_ka(n:Nat){D:Cs}(lv:Lv (n+1) D):PKn (cl D "_law_all_known"):=fun a b c=>U2 (d:=Ys) lv fun D lv=>fu (w:=⟨D,gl⟩)  a b c
theorem p_al(n:Nat){D:Cs}(lv:Lv (n+1) D):PAlk (cl D "_law_alike"):=U2 (d:=Ud) lv fun D lv=>t8 (w:=⟨D,gl⟩)
theorem p_rt(n:Nat){D:Cs}(lv:Lv (n+4) D):PRgt (cl D "_law_right"):=fun a b c d e f=>U2 (d:=Ug) lv fun D lv=>v8 (w:=⟨D,gl⟩) (p_al (n+2) lv) (p_ka (n+2) lv) (p_kn n lv) a b c d e f
theorem p_pl(n:Nat){D:Cs}(lv:Lv (n+2) D):PPl (cl D "_law_plain"):=fun a b c=>U2 (d:=Ub) lv fun D lv=>y9 (w:=⟨D,gl⟩) (Ui n lv) a b c
theorem p_de(n:Nat){D:Cs}(lv:Lv (n+2) D):PDf (cl D "_law_default"):=fun a=>U2 (d:=Vf) lv fun D lv=>Ko (w:=⟨D,gl⟩) (Ui n lv) a
theorem p_pa(n:Nat){D:Cs}(lv:Lv (n+3) D):Ly (cl D "_law_part"):=fun a b c d e=>U2 (d:=Jr) lv fun D lv=>a8 (w:=⟨D,gl⟩) (Ui (n+1) lv) (p_de n lv) a b c d e
theorem p_pd(n:Nat){D:Cs}(lv:Lv (n+4) D):PPd (cl D "_law_parted"):=fun a b c d=>U2 (d:=Vo) lv fun D lv=>zf (w:=⟨D,gl⟩) (Ui (n+2) lv) (p_pa n lv) a b c d
theorem p_ps(n:Nat){D:Cs}(lv:Lv (n+1) D):PPs (cl D "_law_plains"):=fun a=>U2 (d:=Va) lv fun D lv=>zv (w:=⟨D,gl⟩)  a
theorem p_ma(n:Nat){D:Cs}(lv:Lv (n+5) D):cq (cl D "_law_make"):=U2 (d:=Jp) lv fun D lv=>ij (w:=⟨D,gl⟩) (Ui (n+3) lv) (p_pl (n+2) lv) (p_pd n lv)
theorem p_ne(n:Nat){D:Cs}(lv:Lv (n+2) D):PNr (cl D "_law_near"):=fun a=>U2 (d:=Jh) lv fun D lv=>o8 (w:=⟨D,gl⟩) (Ui n lv) a
theorem p_tu(n:Nat){D:Cs}(lv:Lv (n+9) D):PTn (cl D "_law_turned"):=fun a=>U2 (d:=Vu) lv fun D lv=>Xk (w:=⟨D,gl⟩) (Ui (n+7) lv) (p_pl (n+6) lv) (p_pa (n+5) lv) (p_ps (n+7) lv) (p_ne (n+6) lv) (p_mk n lv) a
theorem p_nx(n:Nat){D:Cs}(lv:Lv (n+10) D):PNx (cl D "_law_next"):=fun a=>U2 (d:=Js) lv fun D lv=>o5 (w:=⟨D,gl⟩) (Ui (n+8) lv) (p_tu n lv) a
theorem p_dn(n:Nat){D:Cs}(lv:Lv (n+2) D):PDn (cl D "_law_drawn"):=fun a b=>U2 (d:=Um) lv fun D lv=>dy (w:=⟨D,gl⟩) (Ui n lv) a b
theorem fg(zs:ZL):Pw C1 ⟨Cn tab gl 10,gl⟩ [.f (.lst (zs.map .int))]=some (.f (.bl true),[]):=by
 have key:∀D,Lv 10 D->wF C1 ⟨D,gl⟩ [.f (.lst (zs.map .int))] fun x=>x=(.f (.bl true),[]):=fun D lv=>law_ok (w:=⟨D,gl⟩) (fun zs=>U2 (d:=Jl) lv fun D lv=>rg zs) (Ui 9 lv) (p_ma 5 lv) (p_nx 0 lv) (p_dn 8 lv) (p_rt 6 lv) zs;obtain⟨x,e,rfl⟩:=jt (key _ ⟨rfl⟩);exact e
theorem Oh:FC "is_whole" (top 7) Vw:=fun X G A=>A.fc (N:=["thing","low","high"]) X G (by decide +kernel) (by decide +kernel) fun _ _ _ _ _ _ us hl=>by obtain⟨_,_,_,rfl⟩:=l7 hl;rfl
theorem N9:FC "is_item_whole" (top 8) Yh:=fun X G A=>A.fc (N:=["thing"]) X G (by decide +kernel) (by decide +kernel) fun _ _ _ _ _ _ us hl=>by obtain⟨_,rfl⟩:=Qa hl;rfl
theorem Fu:FC "is_number" (top 9) Ul:=fun X G A=>A.fc (N:=["thing"]) X G (by decide +kernel) (by decide +kernel) fun _ _ _ _ _ _ us hl=>by obtain⟨_,rfl⟩:=Qa hl;rfl
theorem Kc:FC "is_text" (top 10) G1:=fun X G A=>A.fc (N:=["thing","most"]) X G (by decide +kernel) (by decide +kernel) fun _ _ _ _ _ _ us hl=>by obtain⟨_,_,rfl⟩:=Eb hl;rfl
theorem Kl:FC "is_name" (top 11) G2:=fun X G A=>A.fc (N:=["thing"]) X G (by decide +kernel) (by decide +kernel) fun _ _ _ _ _ _ us hl=>by obtain⟨_,rfl⟩:=Qa hl;rfl
theorem m5:FC "rises" (top 12) M6:=fun X G A=>A.fc (N:=["things"]) X G (by decide +kernel) (by decide +kernel) fun _ _ _ _ _ _ us hl=>by obtain⟨_,rfl⟩:=Qa hl;rfl
theorem Ou:FC "is_shape" (top 16) Ja:=fun X G A=>A.fc (N:=["thing","sort"]) X G (by decide +kernel) (by decide +kernel) fun _ _ _ _ _ _ us hl=>by obtain⟨_,rfl⟩:=Qa hl;rfl
theorem R8:FC "are_bounds" (top 17) Ve:=fun X G A=>A.fc (N:=["low","high"]) X G (by decide +kernel) (by decide +kernel) fun _ _ _ _ _ _ us hl=>by obtain⟨_,_,rfl⟩:=Eb hl;rfl
theorem Ci:FC "are_members" (top 18) Yl:=fun X G A=>A.fc (N:=["members","struck","is_member","numbers","names"]) X G (by decide +kernel) (by decide +kernel) fun _ _ _ _ _ _ us hl=>by obtain⟨_,_,_,rfl⟩:=l7 hl;rfl
theorem Fp:FC "is_struck" (top 19) Uc:=fun X G A=>A.fc (N:=["thing","taken"]) X G (by decide +kernel) (by decide +kernel) fun _ _ _ _ _ _ us hl=>by obtain⟨_,_,rfl⟩:=Eb hl;rfl
theorem Me:FC "is_short_tuple" (top 20) Yt:=fun X G A=>A.fc (N:=["thing"]) X G (by decide +kernel) (by decide +kernel) fun _ _ _ _ _ _ us hl=>by obtain⟨_,rfl⟩:=Qa hl;rfl
theorem Oa:FC "is_field" (top 21) Jo:=fun X G A=>A.fc (N:=["thing"]) X G (by decide +kernel) (by decide +kernel) fun _ _ _ _ _ _ us hl=>by obtain⟨_,rfl⟩:=Qa hl;rfl
theorem R7:FC "is_default" (top 22) Vi:=fun X G A=>A.fc (N:=["thing"]) X G (by decide +kernel) (by decide +kernel) fun _ _ _ _ _ _ us hl=>by obtain⟨_,rfl⟩:=Qa hl;rfl
theorem xg:FC "is_arm" (top 23) M8:=fun X G A=>A.fc (N:=["thing"]) X G (by decide +kernel) (by decide +kernel) fun _ _ _ _ _ _ us hl=>by obtain⟨_,rfl⟩:=Qa hl;rfl
theorem D1:FC "is_single_value" (top 24) Yv:=fun X G A=>A.fc (N:=["shape","thing"]) X G (by decide +kernel) (by decide +kernel) fun _ _ _ _ _ _ us hl=>by obtain⟨_,_,rfl⟩:=Eb hl;rfl
theorem Fb:FC "member_of" (top 25) Uk:=fun X G A=>A.fc (N:=["shape","number","member"]) X G (by decide +kernel) (by decide +kernel) fun _ _ _ _ _ _ us hl=>by obtain⟨_,_,rfl⟩:=Eb hl;rfl
theorem Kr:FC "is_make" (top 28) G3:=fun X G A=>A.fc (N:=["thing","root","forms"]) X G (by decide +kernel) (by decide +kernel) fun _ _ _ _ _ _ us hl=>by obtain⟨_,rfl⟩:=Qa hl;rfl
theorem Kh:FC "form_of" (top 29) G5:=fun X G A=>A.fc (N:=["make","name"]) X G (by decide +kernel) (by decide +kernel) fun _ _ _ _ _ _ us hl=>by obtain⟨_,_,rfl⟩:=Eb hl;rfl
theorem Fi:FC "are_forms" (top 30) Ur:=fun X G A=>A.fc (N:=["thing"]) X G (by decide +kernel) (by decide +kernel) fun _ _ _ _ _ _ us hl=>by obtain⟨_,rfl⟩:=Qa hl;rfl
theorem Ku:FC "fits_in" (top 31) G6:=fun X G A=>A.fc (N:=["shape","forms"]) X G (by decide +kernel) (by decide +kernel) fun _ _ _ _ _ _ us hl=>by obtain⟨_,_,rfl⟩:=Eb hl;rfl
theorem xk:FC "ofs_of" (top 32) M7:=fun X G A=>A.fc (N:=["shape"]) X G (by decide +kernel) (by decide +kernel) fun _ _ _ _ _ _ us hl=>by obtain⟨_,rfl⟩:=Qa hl;rfl
theorem B8:FC "fits_default" (top 33) Y3:=fun X G A=>A.fc (N:=["field","forms","default","shape"]) X G (by decide +kernel) (by decide +kernel) fun _ _ _ _ _ _ us hl=>by obtain⟨_,_,rfl⟩:=Eb hl;rfl
theorem Fh:FC "knows_all" (top 35) Ut:=fun X G A=>A.fc (N:=["make","other","paper"]) X G (by decide +kernel) (by decide +kernel) fun _ _ _ _ _ _ us hl=>by obtain⟨_,_,_,rfl⟩:=l7 hl;rfl
theorem Ks:FC "has_all" (top 36) G4:=fun X G A=>A.fc (N:=["shape","other_shape"]) X G (by decide +kernel) (by decide +kernel) fun _ _ _ _ _ _ us hl=>by obtain⟨_,_,rfl⟩:=Eb hl;rfl
theorem Ob:FC "_law_tape" (top 38) Jl:=fun X G A=>A.fc (N:=["_law_script"]) X G (by decide +kernel) (by decide +kernel) fun _ _ _ _ _ _ us hl=>by obtain⟨_,rfl⟩:=Qa hl;rfl
theorem Ol:FC "_law_draw" (top 39) Ju:=fun X G A=>A.fc (N:=["_law_tape_here","_law_many","_law_spot","_law_cell","_law_mixed","_law_found"]) X G (by decide +kernel) (by decide +kernel) fun _ _ _ _ _ _ us hl=>by obtain⟨_,_,rfl⟩:=Eb hl;rfl
theorem Ft:FC "_law_plain" (top 40) Ub:=fun X G A=>A.fc (N:=["_law_tape_here","_law_sort","_law_names","_law_low"]) X G (by decide +kernel) (by decide +kernel) fun _ _ _ _ _ _ us hl=>by obtain⟨_,_,_,rfl⟩:=l7 hl;rfl
theorem Co:FC "_law_default" (top 41) Vf:=fun X G A=>A.fc (N:=["_law_tape_here","_law_shape"]) X G (by decide +kernel) (by decide +kernel) fun _ _ _ _ _ _ us hl=>by obtain⟨_,_,rfl⟩:=Eb hl;rfl
theorem Om:FC "_law_part" (top 42) Jr:=fun X G A=>A.fc (N:=["_law_tape_here","_law_sort","_law_number","_law_plain_here","_law_names","_law_called","_law_of"]) X G (by decide +kernel) (by decide +kernel) fun _ _ _ _ _ _ us hl=>by obtain⟨_,_,_,_,_,rfl⟩:=us5 hl;rfl
theorem R6:FC "_law_parted" (top 43) Vo:=fun X G A=>A.fc (N:=["_law_tape_here","_law_sort","_law_plain_here","_law_names","_law_some","_law_at","_law_many","_law_parts","_law_shape"]) X G (by decide +kernel) (by decide +kernel) fun _ _ _ _ _ _ us hl=>by obtain⟨_,_,_,_,rfl⟩:=us4 hl;rfl
theorem R5:FC "_law_plains" (top 44) Va:=fun X G A=>A.fc (N:=["_law_forms","_law_plain_here","_law_name"]) X G (by decide +kernel) (by decide +kernel) fun _ _ _ _ _ _ us hl=>by obtain⟨_,rfl⟩:=Qa hl;rfl
theorem Oc:FC "_law_make" (top 45) Jp:=fun X G A=>A.fc (N:=["_law_tape_here","_law_words","_law_at","_law_names","_law_sorts","_law_forms","_law_left","_law_name","_law_sort","_law_plain_here"]) X G (by decide +kernel) (by decide +kernel) fun _ _ _ _ _ _ us hl=>by obtain⟨_,rfl⟩:=Qa hl;rfl
theorem Fs:FC "_law_alike" (top 46) Ud:=fun X G A=>A.fc (N:=["_law_due","_law_found"]) X G (by decide +kernel) (by decide +kernel) fun _ _ _ _ _ _ us hl=>by obtain⟨_,_,rfl⟩:=Eb hl;rfl
theorem Ot:FC "_law_near" (top 47) Jh:=fun X G A=>A.fc (N:=["_law_tape_here","_law_shape","_law_one"]) X G (by decide +kernel) (by decide +kernel) fun _ _ _ _ _ _ us hl=>by obtain⟨_,_,rfl⟩:=Eb hl;rfl
theorem R4:FC "_law_turned" (top 48) Vu:=fun X G A=>A.fc (N:=["_law_tape_here","_law_make_here","_law_names","_law_name","_law_shape","_law_forms","_law_plain_here","_law_way","_law_parts","_law_struck","_law_rest","_law_at","_law_gone","_law_part_here","_law_made"]) X G (by decide +kernel) (by decide +kernel) fun _ _ _ _ _ _ us hl=>by obtain⟨_,_,rfl⟩:=Eb hl;rfl
theorem Od:FC "_law_next" (top 49) Js:=fun X G A=>A.fc (N:=["_law_tape_here","_law_make_here","_law_most","_law_k"]) X G (by decide +kernel) (by decide +kernel) fun _ _ _ _ _ _ us hl=>by obtain⟨_,_,_,rfl⟩:=l7 hl;rfl
theorem N7:FC "_law_all_known" (top 50) Ys:=fun X G A=>A.fc (N:=["_law_make_here","_law_other","_law_paper","_law_one","_law_there","_law_mine","_law_theirs","_law_known"]) X G (by decide +kernel) (by decide +kernel) fun _ _ _ _ _ _ us hl=>by obtain⟨_,_,_,rfl⟩:=l7 hl;rfl
theorem Fc:FC "_law_drawn" (top 51) Um:=fun X G A=>A.fc (N:=["_law_tape_here","_law_make_here","_law_other","_law_pairs","_law_names","_law_theirs","_law_k"]) X G (by decide +kernel) (by decide +kernel) fun _ _ _ _ _ _ us hl=>by obtain⟨_,_,_,rfl⟩:=l7 hl;rfl
theorem Fm:FC "_law_right" (top 52) Ug:=fun X G A=>A.fc (N:=["_law_make_here","_law_other","_law_paper","_law_ahead"]) X G (by decide +kernel) (by decide +kernel) fun _ _ _ _ _ _ us hl=>by obtain⟨_,_,_,rfl⟩:=l7 hl;rfl
theorem hx_law:(Zj (top 53)).names≠Cr:=by decide +kernel
theorem ck_law:chk ["_law_script","_law_tape_here","_law_k","_law_make_here","_law_other","_law_paper","_law_back"] C1 (top 53)=true:=by decide +kernel
theorem fc_law:FC "law" (top 53) C1:=fun X G A=>A.fc (N:=["_law_script","_law_tape_here","_law_k","_law_make_here","_law_other","_law_paper","_law_back"]) X G (by decide +kernel) (by decide +kernel) fun _ _ _ _ _ _ us hl=>by obtain⟨_,rfl⟩:=Qa hl;rfl
set_option maxHeartbeats 0 in
theorem all_mk{l:W.OpenLaw}{w:World}{K:W.Frag}{h:Heap}{mg:ZV}{fa f1 f2 f3 f4 f5 f6 f7 f8 f9 f10 f11 f12 f13 f14 f15 f16 f17 f18 f19 f20 f21 f22 f23 f24 f25 f26 f27 f28 f29 f30 f31 f32 f33 f34 f35 f36 f37 f38 f39 f40:Addr}{d1 d2 d3 d4 d5 d6 d7 d8 d9 d10 d11 d12 d13 d14 d15 d16 d17 d18 d19 d20 d21 d22 d23 d24 d25 d26 d27 d28 d29 d30 d31 d32 d33 d34 d35 d36 d37 d38 d39 d40:FuncData}{tk0 tk1 tk2 tk3 tk4 tk5 tk6 tk7 tk8:Tok}(X:K.In h)(G:h.Ns mainGlobals mg)(hfa:mg "law" = some (.ref fa))
  (h1:FA K "is_whole" (top 7) f1 d1)
  (h2:FA K "is_item_whole" (top 8) f2 d2)
  (h3:FA K "is_number" (top 9) f3 d3)
  (h4:FA K "is_text" (top 10) f4 d4)
  (h5:FA K "is_name" (top 11) f5 d5)
  (h6:FA K "rises" (top 12) f6 d6)
  (h7:FA K "is_shape" (top 16) f7 d7)
  (h8:FA K "are_bounds" (top 17) f8 d8)
  (h9:FA K "are_members" (top 18) f9 d9)
  (ee:FA K "is_struck" (top 19) f10 d10)
  (h11:FA K "is_short_tuple" (top 20) f11 d11)
  (h12:FA K "is_field" (top 21) f12 d12)
  (h13:FA K "is_default" (top 22) f13 d13)
  (h14:FA K "is_arm" (top 23) f14 d14)
  (h15:FA K "is_single_value" (top 24) f15 d15)
  (h16:FA K "member_of" (top 25) f16 d16)
  (h17:FA K "is_make" (top 28) f17 d17)
  (h18:FA K "form_of" (top 29) f18 d18)
  (h19:FA K "are_forms" (top 30) f19 d19)
  (h20:FA K "fits_in" (top 31) f20 d20)
  (h21:FA K "ofs_of" (top 32) f21 d21)
  (h22:FA K "fits_default" (top 33) f22 d22)
  (h23:FA K "knows_all" (top 35) f23 d23)
  (h24:FA K "has_all" (top 36) f24 d24)
  (h25:FA K "_law_tape" (top 38) f25 d25)
  (h26:FA K "_law_draw" (top 39) f26 d26)
  (h27:FA K "_law_plain" (top 40) f27 d27)
  (h28:FA K "_law_default" (top 41) f28 d28)
  (h29:FA K "_law_part" (top 42) f29 d29)
  (h30:FA K "_law_parted" (top 43) f30 d30)
  (h31:FA K "_law_plains" (top 44) f31 d31)
  (h32:FA K "_law_make" (top 45) f32 d32)
  (h33:FA K "_law_alike" (top 46) f33 d33)
  (h34:FA K "_law_near" (top 47) f34 d34)
  (h35:FA K "_law_turned" (top 48) f35 d35)
  (h36:FA K "_law_next" (top 49) f36 d36)
  (h37:FA K "_law_all_known" (top 50) f37 d37)
  (h38:FA K "_law_drawn" (top 51) f38 d38)
  (h39:FA K "_law_right" (top 52) f39 d39)
  (h40:FA K "law" (top 53) f40 d40)
  (Nb:W.nsIn K mainGlobals "LETTERS" = some (some (.str "abcdefghijklmnopqrstuvwxyz" tk0)))
  (Ld : W.nsIn K mainGlobals "SIGNS" = some (some (.str " !\"#$&'()*+,-./0123456789:;<=>?@ABCDEFGHIJKLMNOPQRSTUVWXYZ[\\]^_`abcdefghijklmnopqrstuvwxyz{|}~" tk1)))
  (Y9:W.nsIn K mainGlobals "GREATEST_WHOLE" = some (some (.int 1000000000000000000 tk2)))
  (Y0:W.nsIn K mainGlobals "GREATEST_NUMBER" = some (some (.int 999 tk3)))
  (V1:W.nsIn K mainGlobals "LONGEST_TEXT" = some (some (.int 200 tk4)))
  (V2:W.nsIn K mainGlobals "LONGEST_NAME" = some (some (.int 8 tk5)))
  (Jv:W.nsIn K mainGlobals "MOST_PARTS" = some (some (.int 20 tk6)))
  (Ua:W.nsIn K mainGlobals "MOST_FIELDS" = some (some (.int 8 tk7)))
  (Jy:W.nsIn K mainGlobals "MOST_FORMS" = some (some (.int 8 tk8)))
  (jx:W.nsIn K mainGlobals "len" = some none)
  (jw:W.nsIn K mainGlobals "all" = some none)
  (jj:W.nsIn K mainGlobals "any" = some none)
  (Ex:W.nsIn K mainGlobals "list" = some none)
  (Lb:W.nsIn K mainGlobals "tuple" = some none)
  (q0:W.nsIn K mainGlobals "min" = some none)
  (jz:W.nsIn K mainGlobals "max" = some none)
  (jq:W.nsIn K mainGlobals "int" = some none)
  (jv:W.nsIn K mainGlobals "abs" = some none)
  (Ej:W.nsIn K mainGlobals "dict" = some none)
  (Jw:W.nsIn K mainGlobals "isinstance" = some none)
  (To:W.nsIn K mainGlobals "sorted" = some none)
  (qi:W.nsIn K mainGlobals "set" = some none)
  (Lm:W.nsIn K mainGlobals "range" = some none)
  (qu:W.nsIn K mainGlobals "zip" = some none)
  (Gv:W.nsIn K mainGlobals "enumerate" = some none)
  (qa:W.nsIn K mainGlobals "sum" = some none)
  (Ez:W.nsIn K mainGlobals "repr" = some none)
  (qo:W.nsIn K mainGlobals "str" = some none)
  (Ew:W.nsIn K mainGlobals "bool" = some none)
  (nl:Kq K=true)
  : ∃fd:FuncData,(∀(s:Shared) (v:Value),BindsTo s fd ⟨[v],[]⟩ [("_law_script",v)])/\∀base:Heap,K.In base->base.Ns mainGlobals mg->Gq l.prog w K mg base qp 11 fa fd ["_law_script"] (Hi K):=by
 have e:=hfa.symm.trans (W.mg_of X G h40.a);cases e;have Zql:=h40.F
 have fA:∀p∈tabA,Gh K mg p.1 p.2:=by
  unfold tabA;refine Ye.mpr ⟨Oh X G h1,Ye.mpr ⟨N9 X G h2,Ye.mpr ⟨Fu X G h3,Ye.mpr ⟨Kc X G h4,Ye.mpr ⟨Kl X G h5,Ye.mpr ⟨m5 X G h6,Ye.mpr ⟨Ou X G h7,Ye.mpr ⟨R8 X G h8,Ye.mpr ⟨Ci X G h9,Ye.mpr ⟨Fp X G ee,Ye.mpr ⟨Me X G h11,Ye.mpr ⟨Oa X G h12,Ye.mpr ⟨R7 X G h13,Ye.mpr ⟨xg X G h14,Ye.mpr ⟨D1 X G h15,Ye.mpr ⟨Fb X G h16,Ye.mpr ⟨Kr X G h17,Ye.mpr ⟨Kh X G h18,Ye.mpr ⟨Fi X G h19,Ye.mpr ⟨Ku X G h20,Ye.mpr ⟨xk X G h21,Ye.mpr ⟨B8 X G h22,fun _ m=>absurd m Tj⟩⟩⟩⟩⟩⟩⟩⟩⟩⟩⟩⟩⟩⟩⟩⟩⟩⟩⟩⟩⟩⟩
 have fB:∀p∈tabB,Gh K mg p.1 p.2:=by
  unfold tabB;refine Ye.mpr ⟨Fh X G h23,Ye.mpr ⟨Ks X G h24,Ye.mpr ⟨Ob X G h25,Ye.mpr ⟨Ol X G h26,Ye.mpr ⟨Ft X G h27,Ye.mpr ⟨Co X G h28,Ye.mpr ⟨Om X G h29,Ye.mpr ⟨R6 X G h30,Ye.mpr ⟨R5 X G h31,Ye.mpr ⟨Oc X G h32,Ye.mpr ⟨Fs X G h33,Ye.mpr ⟨Ot X G h34,Ye.mpr ⟨R4 X G h35,Ye.mpr ⟨Od X G h36,Ye.mpr ⟨N7 X G h37,Ye.mpr ⟨Fc X G h38,Ye.mpr ⟨Fm X G h39,Ye.mpr ⟨fc_law X G h40,fun _ m=>absurd m Tj⟩⟩⟩⟩⟩⟩⟩⟩⟩⟩⟩⟩⟩⟩⟩⟩⟩⟩
 have ft:∀p∈tabL,Gh K mg p.1 p.2:=fun p m=>(Tw.mp m).elim (fA p) (fB p)
 have bn:∀x∈Jz,mg x=none:=by
  unfold Jz;refine Ye.mpr ⟨W.mg_none_of X G jx,Ye.mpr ⟨W.mg_none_of X G jw,Ye.mpr ⟨W.mg_none_of X G jj,Ye.mpr ⟨W.mg_none_of X G Ex,Ye.mpr ⟨W.mg_none_of X G Lb,Ye.mpr ⟨W.mg_none_of X G q0,Ye.mpr ⟨W.mg_none_of X G jz,Ye.mpr ⟨W.mg_none_of X G jq,Ye.mpr ⟨W.mg_none_of X G jv,Ye.mpr ⟨W.mg_none_of X G Ej,Ye.mpr ⟨W.mg_none_of X G Jw,Ye.mpr ⟨W.mg_none_of X G To,Ye.mpr ⟨W.mg_none_of X G qi,Ye.mpr ⟨W.mg_none_of X G Lm,Ye.mpr ⟨W.mg_none_of X G qu,Ye.mpr ⟨W.mg_none_of X G Gv,Ye.mpr ⟨W.mg_none_of X G qa,Ye.mpr ⟨W.mg_none_of X G Ez,Ye.mpr ⟨W.mg_none_of X G qo,Ye.mpr ⟨W.mg_none_of X G Ew,fun _ m=>absurd m Tj⟩⟩⟩⟩⟩⟩⟩⟩⟩⟩⟩⟩⟩⟩⟩⟩⟩⟩⟩⟩
 have hg:∀x t,gl x=some t->∃v u,mg x=some u/\RelV v u/\∀H F,IsT K mg H F t v:=by
  intro x t e;unfold gl at e
  split at e
  .rename_i z;subst z;cases e;exact⟨.str LET,_,W.mg_of X G Nb,⟨_,rfl⟩,fun _ _=>rfl⟩
  split at e
  .rename_i z;subst z;cases e;exact⟨.str SIG,_,W.mg_of X G Ld,⟨_,rfl⟩,fun _ _=>rfl⟩
  split at e
  .rename_i z;subst z;cases e;exact⟨.int 1000000000000000000,_,W.mg_of X G Y9,⟨_,rfl⟩,fun _ _=>rfl⟩
  split at e
  .rename_i z;subst z;cases e;exact⟨.int 999,_,W.mg_of X G Y0,⟨_,rfl⟩,fun _ _=>rfl⟩
  split at e
  .rename_i z;subst z;cases e;exact⟨.int 200,_,W.mg_of X G V1,⟨_,rfl⟩,fun _ _=>rfl⟩
  split at e
  .rename_i z;subst z;cases e;exact⟨.int 8,_,W.mg_of X G V2,⟨_,rfl⟩,fun _ _=>rfl⟩
  split at e
  .rename_i z;subst z;cases e;exact⟨.int 20,_,W.mg_of X G Jv,⟨_,rfl⟩,fun _ _=>rfl⟩
  split at e
  .rename_i z;subst z;cases e;exact⟨.int 8,_,W.mg_of X G Ua,⟨_,rfl⟩,fun _ _=>rfl⟩
  split at e
  .rename_i z;subst z;cases e;exact⟨.int 8,_,W.mg_of X G Jy,⟨_,rfl⟩,fun _ _=>rfl⟩
  split at e
  .rename_i z;subst z;cases e;exact⟨.ref f12,_,W.mg_of X G h12.a,rfl,fun _ _=>⟨_,rfl,W.mg_of X G h12.a⟩⟩
  split at e
  .rename_i z;subst z;cases e;exact⟨.ref f14,_,W.mg_of X G h14.a,rfl,fun _ _=>⟨_,rfl,W.mg_of X G h14.a⟩⟩
  cases e
 obtain⟨oc,od,kV,doc,pm,an,cdv,ct,osl,rfl,lk,P9⟩:=Zql.ex;refine⟨W.fnOf "law" "law" (Uy (top 53)) (Yw (top 53)) (Zj (top 53)) .none kV doc pm an cdv ct,fun s v=>.of_eq rfl,fun base _ _=>?_⟩;obtain⟨c1,c2,c3,c4,c5⟩:=du ck_law;exact(Oj (w:=⟨Cn tab gl 10,gl⟩) (d:=C1) (PV.funR Zql) (fun z=>absurd z hx_law) c1 c2 c3 c4 c5 bn (knot bn (tab_of ft) hg 10) hg).imp (ic nl fun zs _=>fg zs)
end K56
open PySem PySem.W PyProof.Rows
set_option maxRecDepth 100000 in
set_option maxHeartbeats 0 in
theorem K56.ws:PySem.Challenge.rw_makes_k56_what_a_make_knows.wellSaid=true:=by
 delta OpenLaw.wellSaid
 iterate 18 refine look_both ?_ ?_
 case _ =>
  delta OpenRow.wellSaid
  refine look_both (look_both ?_ ?_) ?_
  case _ =>
   delta OpenRow.partSaid
   iterate 13 refine look_both ?_ ?_
   case _ =>
    delta looksOpen
    iterate 5 refine look_both ?_ ?_
    all_goals decide +kernel
   all_goals decide +kernel
  all_goals decide +kernel
 all_goals decide +kernel
set_option maxRecDepth 100000 in
set_option maxHeartbeats 0 in
theorem PySem.Challenge.cw_makes_k56_what_a_make_knows_holds : PySem.Challenge.rw_makes_k56_what_a_make_knows.Holds := by
 w_on
 refine holds_law K56.ws fun said=>?_
 refine holds_open (q:=K56.viewK) (loose:=K56.Yx) (XP:=XL K56.viewK []) (YP:=Hook.says (W.kHook K56.heapK K56.asK K56.Qf)) (N:=2686)
  K56.leftK (Hook.of (W.kHook K56.heapK K56.asK K56.Qf)) (Hook.keeps (W.kHook K56.heapK K56.asK K56.Qf)) (fun s e=>xl_of s (B0z.mp e).1)
  XL.keeps (by rfl) (by rfl) (by rfl) (fun s e=>recFacts_of (B0z.mp e).2) (by rfl) (by assumption)
  (by decide +kernel) ⟨rfl,rfl,rfl,rfl,rfl,by decide +kernel⟩ ?hw ?hc
 case hw=>w_witness2
 k_fill
 refine PV.walkP' (fun T z=>by cases z) (l:=PySem.Challenge.rw_makes_k56_what_a_make_knows) (k:=11) rfl rfl ⟨rfl,by decide,by decide,rfl⟩ (fun w h Y=>W.kIn_of Y) ?F
 case F =>
  intro w mg fa h KX G hmg;refine' K56.all_mk KX G hmg ?h1 ?h2 ?h3 ?h4 ?h5 ?h6 ?h7 ?h8 ?h9 ?ee ?h11 ?h12 ?h13 ?h14 ?h15 ?h16 ?h17 ?h18 ?h19 ?h20 ?h21 ?h22 ?h23 ?h24 ?h25 ?h26 ?h27 ?h28 ?h29 ?h30 ?h31 ?h32 ?h33 ?h34 ?h35 ?h36 ?h37 ?h38 ?h39 ?h40 ?Nb ?Ld ?Y9 ?Y0 ?V1 ?V2 ?Jv ?Ua ?Jy ?jx ?jw ?jj ?Ex ?Lb ?q0 ?jz ?jq ?jv ?Ej ?Jw ?To ?qi ?Lm ?qu ?Gv ?qa ?Ez ?qo ?Ew ?nl
  case h1|h2|h3|h4|h5|h6|h7|h8|h9|ee|h11|h12|h13|h14|h15|h16|h17|h18|h19|h20|h21|h22|h23|h24|h25|h26|h27|h28|h29|h30|h31|h32|h33|h34|h35|h36|h37|h38|h39|h40=>exact⟨by k_is,L2.Zy (by k_is) (by k_is) (by k_is)⟩
  case Nb|Ld|Y9|Y0|V1|V2|Jv|Ua|Jy|jx|jw|jj|Ex|Lb|q0|jz|jq|jv|Ej|Jw|To|qi|Lm|qu|Gv|qa|Ez|qo|Ew=>k_is
  case nl=>kernel_rfl
