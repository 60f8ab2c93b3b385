import PyProof.Rows.All
import Wide.All
import OpenK.AllK
import Wide.FinOn
import PySem.Challenge.RW_makes_k77_fleets
set_option genSizeOf false
set_option genInjectivity false
set_option bootstrap.genMatcherCode false
noncomputable section
set_option maxHeartbeats 2000000
set_option Elab.async false
set_option linter.all false
set_option maxRecDepth 100000
local macro_rules | `(tactic| trivial) => `(tactic| first | exact .inl rfl | exact .inr rfl | rfl | decide | (intro _; rfl) | exact Or.inl rfl | exact Or.inr rfl | assumption | exact ⟨rfl, rfl, rfl, by decide +kernel, rfl, by decide +kernel, by decide +kernel⟩ | fail)
def XG:=@Int.toNat_natCast
def XY:=@List.length_set
def XJ:=@List.length_range
def XQ:=@List.append_nil
def XX:=@List.append_assoc
def XZ:=@List.any_eq_true
def ZE:=@List.pairwise_cons
def ZI:=@List.length_singleton
def ZO:=@Option.bind_eq_some_iff
section
open PySem
abbrev ZW:=Value->Shared->Prop
abbrev ZV:=Str->Option Value
abbrev ZY:=List (Addr×Obj)
abbrev ZK:=List (Str×NameKind)
abbrev ZG:=List (Option Nat)
abbrev ZF:=Array (Option Value)
abbrev ZM:=List Value
abbrev ZD:=List Str
abbrev ZT:=Option Value
abbrev ZC:=List Expr
abbrev ZN:=Array Value
abbrev ZL:=List Int
abbrev ZR:=Option Int
abbrev ZS:=Array Nat
abbrev ZH:=Option Nat
abbrev ZP:=Option Addr
abbrev ZU:=List Addr
abbrev ZA:=Unit->Shared->Prop
end
section
open PySem PyProof.Rows
def Z4:=@List.length_map
def V4:=@List.not_mem_nil
def Vy:=@List.size_toArray
def B8:=@List.mem_singleton
def Am:=@List.map_append
def Mi:=@decide_eq_true
def Z5:=@Nat.le_refl
def Zx:=@wpAny_bind
def Zf:=@wpAny_pure
def Gr:=@List.mem_map
def Cz:=@List.getElem?_map
def Bz:=@List.getElem?_eq_some_iff
def Cb:=@List.mem_append
def Yj:=@Option.map_eq_some_iff
def Gg:=@List.length_append
def D3:=@Option.some.inj
def Vt:=@List.mem_cons_self
def Vf:=@List.mem_cons_of_mem
def G0l:=@List.getElem?_append_left
def wu:=@List.getElem_mem
def M0g:=@List.mem_of_getElem?
def Um:=@List.forall_mem_cons
def we:=@Bool.false_eq_true
def V0:=@List.getElem?_eq_getElem
def B0n:=@beq_eq_false_iff_ne
def W6:=@Nat.lt_of_lt_of_le
def Gs:=@List.length_cons
def Gh:=@List.map_cons
def Yr:=@Heap.get?_push_of_some
def Y3:=@List.mem_cons
def B0s:=@beq_self_eq_true
def Pa:=@of_decide_eq_true
def Y8:=@Bool.and_eq_true
def U0:=@Nat.le_trans
def Ti:=@Bool.false_ne_true
def U1:=@Heap.get?_push_size
def Y7:=@Heap.lt_size
def pz:=@List.length_take
def B0x:=@Bool.false_and
def N0o:=@Nat.lt_of_le_of_lt
def Ma:=@Nat.zero_le
def W8:=@Array.length_toList
def Gk:=@Nat.ne_of_lt
def Pt:=@List.all_eq_true
def uk:=@Bool.and_eq_true_iff
def Mp:=@decide_eq_false
def zc:=@List.mem_append_right
def Fb:=@Array.getElem?_eq_getElem
end
namespace L2
open PySem PySem.Spec PyProof.Rows
noncomputable def inClass(s:Stmt)(j:Nat):Stmt:=match s with
 | .ClassDef _ _ _ body _ _ _ _ _ _ _=>body.getD j (.Pass ⟨0,0,0,0⟩)
 | _=>.Pass ⟨0,0,0,0⟩
noncomputable def J3(s:Stmt):Arguments:=match s with
 | .FunctionDef _ a _ _ _ _ _ _ _ _=>a
 | _=>{ posonlyargs:=[],args:=[],vararg:=none,kwonlyargs:=[],kw_defaults:=[],kwarg:=none,defaults:=[] }
def Y2(s:Stmt):List Stmt:=match s with
 | .FunctionDef _ _ b _ _ _ _ _ _ _=>b
 | _=>[]
noncomputable def Zk(s:Stmt):Scope:=match s with
 | .FunctionDef _ _ _ _ _ _ sc _ _ _=>sc
 | _=>{ kind:=.function,names:=[],isGenerator:=false,isCoroutine:=false }
end L2
namespace K77
open PySem PySem.Spec PyProof.Rows
noncomputable def top(i:Nat):Stmt:=PySem.Challenge.pw_makes_k77_fleets.main.body.getD i (.Pass ⟨0,0,0,0⟩)
end K77
namespace L2
open PySem PySem.W PySem.Calls PyProof.Rows
section
variable{tb:String->Option Builtin}{p:Program}{w:World}{m:Nat}{a:ZT}
def ir(tb:String->Option Builtin)(p:Program)(w:World)(m:Nat)(a:ZT):Nat->SharedT->Thread->Option SharedT
 | 0,_,_=>none
 | k+1,s,t=>bif through t then some s else bif stepOk m a t then (match stepT (denote tb) p w s t with | some (s',t')=>ir tb p w m a k s' t' | none=>none) else none
theorem Ir:∀{k:Nat} {s s':SharedT} {t:Thread},ir tb p w m a k s t=some s'->topRun tb p w m a k s.abs t=some s'.abs
 | 0,_,_,_,h=>by cases h
 | k+1,s,s',t,h=>by
  unfold ir at h;unfold topRun;cases ht:through t with
  | true=>rw[ht]at h;cases h;rfl
  | false =>
   rw[ht]at h;cases hk:stepOk m a t with
   | false=>rw[hk]at h;cases h
   | true =>
    rw[hk]at h;cases hs:stepT (denote tb) p w s t with
    | none=>rw[hs]at h;cases h
    | some r =>
     obtain⟨s₂,t₂⟩:=r;rw[hs]at h;rw[stepT_spec hs];exact Ir h
end
def mkT:List Obj->Nat->BT->BT
 | [],_,t=>t
 | o::l,i,t=>mkT l (i+1) (t.ins i o)
noncomputable abbrev Em(w:World)(os:OsState):Shared:=⟨boot_heap w.params,Array.mk [],boot_drawn,boot_toks,os⟩
noncomputable abbrev Zjt(w:World)(os:OsState):SharedT:=⟨mkT (boot_heap w.params).objs.toList 0 .nil,(boot_heap w.params).objs.size,(boot_heap w.params).life,Array.mk [],boot_drawn,boot_toks,os⟩
theorem boot_abs(w:World)(os:OsState):(Zjt w os).abs=Em w os:=by kernel_rfl
noncomputable abbrev Wv(p:Program)(N:Nat)(w:World)(os:OsState):Option SharedT:=ir treeTable p w (boot_heap w.params).objs.size ((boot_heap w.params).nsMap mainGlobals "__annotations__") N (Zjt w os) (topStub p)
noncomputable abbrev rb(p:Program)(w:World)(s:Shared):Bool:=staticsOk (importedModules p.main.body) (boot_heap w.params) s.heap && namesBound p s.heap && gensDone s && laidKept (boot_heap w.params) s.heap
theorem ns_ok(w:World):((boot_heap w.params).isNs mainGlobals && (Array.mk []:Array GenState).size == 0)=true:=by kernel_rfl
theorem Dm{Z:Type _}{o:Option SharedT}{f:Shared->Z}{r:Z}(h:(o.map fun s=>f s.abs)=some r):∃s,o=some s/\f s.abs=r:=by
 obtain⟨s,e,q⟩:=Yj.mp h;exact⟨s,e,q⟩
theorem top_of{Z U:Type}{p:Program}{N:Nat}{w:World}{os:OsState}{f:Shared->Z}{g:Shared->U}{x:Z}{y:U}(h1:((Wv p N w os).map fun s=>rb p w s.abs)=some true)
  (h2:((Wv p N w os).map fun s=>f s.abs)=some x) (h3:((Wv p N w os).map fun s=>g s.abs)=some y) :
  (topFrom treeTable p w N (Em w os)).map (fun s=>(f s,g s))=some (x,y):=by
 obtain⟨s,e,c⟩:=Dm h1;obtain⟨s2,e2,c2⟩:=Dm h2;obtain⟨s3,e3,c3⟩:=Dm h3;rw[e]at e2 e3;cases e2;cases e3;have r:=Ir e;rw[boot_abs]at r;unfold topFrom;rw[show ((Em w os).heap.isNs mainGlobals && (Em w os).gens.size == 0)=true from ns_ok w];show Option.map _ (Option.bind (topRun treeTable p w (boot_heap w.params).objs.size ((boot_heap w.params).nsMap mainGlobals "__annotations__") N (Em w os) (topStub p)) _)=_;rw[r];show Option.map _ (match rb p w s.abs with | true=>some s.abs | false=>none)=_;rw[c];show some (f s.abs,g s.abs)=_;rw[c2,c3]
end L2
namespace K77
open PySem PySem.Spec PyProof.Rows L2
def viewK:Program:={ PySem.Challenge.pw_makes_k77_fleets with main:={ PySem.Challenge.pw_makes_k77_fleets.main with body:=[top 1,top 2,top 3,top 4,top 5,top 7,top 8,top 9,top 11,top 12,top 13,top 14,top 15,top 16,top 17,top 18,top 19,top 20,top 21,top 22,top 23,top 24,top 25,top 26,top 27,top 28] } }
def Yd:ZD:=[]
abbrev en(P:Params)(x:Str)(t:Tok)(v:Value):DictEntry:=⟨PyData.keyHash P x,.str x t,v⟩
abbrev fo(cls:Value)(nm q:Str)(s:Stmt)(kw doc pm:Value)(an:ZP)(cd ct:Value)(sl:ZF):Obj:=⟨cls,none,.func (W.fnOf nm q (L2.J3 s) (L2.Y2 s) (L2.Zk s) .none kw doc pm an cd ct),sl⟩
abbrev fn(nm q:Str)(s:Stmt)(md:Str)(t:Nat)(c:Addr):Obj:=fo (.type "function") nm q s .none .none (.str md t) .none (.ref c) .none #[]
abbrev cd(x:Str)(a:Nat)(q:Str)(b c:Nat)(l k:Int)(r1 r2 r3 r4 r5:Addr)(e f:Int)(g:Nat):Obj:=⟨.type "code",.none,.fields #[.str x a,.str q b,.str "/claim/cut.py" c,.int l 0,.int k 0,.int 0 0,.int 0 0,.int 3 0,.ref r1,.bool Bool.true,.int 181 0,.ref r2,.none,.ref r3,.ref r4,.ref r5,.int e 0,.int f 0,.str "/claim/cut.py" g], #[]⟩
noncomputable def heapK:Params->W.Frag:=fun P =>
 (nat_lit 3,⟨.type "dict",.none,.dict #[en P "__name__" 165 (.str "law_makes_k77_fleets" 236),en P "__doc__" 166 (.none),en P "__package__" 167 (.none),en P "__loader__" 168 (.builtin "__main__.__loader__#opaque"),en P "__spec__" 169 (.none),en P "__annotations__" 170 (.ref 6),en P "__builtins__" 171 (.ref 4),en P "__file__" 173 (.str "/claim/cut.py" 172),en P "__cached__" 174 (.none),en P "LETTERS" 190 (.str "abcdefghijklmnopqrstuvwxyz" 189),en P "LONGEST_NAME" 192 (.int 8 191),en P "is_name" 198 (.ref 19),en P "rises" 204 (.ref 24),en P "are_labels" 210 (.ref 29),en P "is_fleet" 220 (.ref 36),en P "is_fleet_of" 226 (.ref 41),en P "is_program" 235 (.ref 48),en P "_law_cell_at" 245 (.ref 55),en P "_law_draws" 257 (.ref 62),en P "_law_take" 265 (.ref 69),en P "_law_shape" 277 (.ref 76),en P "_law_is_plain" 284 (.ref 83),en P "_law_default" 293 (.ref 90),en P "_law_part" 305 (.ref 97),en P "_law_parts" 316 (.ref 104),en P "_law_make" 330 (.ref 111),en P "_law_base" 337 (.ref 118),en P "_law_other_shape" 343 (.ref 123),en P "_law_second" 349 (.ref 128),en P "_law_makes" 355 (.ref 133),en P "_law_is_fleet" 361 (.ref 138),en P "_law_any" 367 (.ref 143),en P "_law_odd" 377 (.ref 150),en P "_law_bent" 388 (.ref 157),en P "law" 402 (.ref 164)] 35, #[]⟩) ::
 (nat_lit 18,⟨.type "code",.none,.fields #[.str "is_name" 193,.str "is_name" 194,.str "/claim/cut.py" 195,.int 4 0,.int 1 0,.int 0 0,.int 0 0,.int 3 0,.ref 15,.bool Bool.true,.int 181 0,.ref 16,.none,.none,.none,.ref 17,.int 196 0,.int 4 0,.str "/claim/cut.py" 197], #[]⟩) ::
 (nat_lit 19,fn "is_name" "is_name" (top 3) "makes.items" 187 18) ::
 (nat_lit 23,⟨.type "code",.none,.fields #[.str "rises" 199,.str "rises" 200,.str "/claim/cut.py" 201,.int 8 0,.int 1 0,.int 0 0,.int 0 0,.int 3 0,.ref 20,.bool Bool.true,.int 181 0,.ref 21,.none,.none,.none,.ref 22,.int 202 0,.int 8 0,.str "/claim/cut.py" 203], #[]⟩) ::
 (nat_lit 24,fn "rises" "rises" (top 4) "makes.items" 187 23) ::
 (nat_lit 28,⟨.type "code",.none,.fields #[.str "are_labels" 205,.str "are_labels" 206,.str "/claim/cut.py" 207,.int 10 0,.int 2 0,.int 0 0,.int 0 0,.int 3 0,.ref 25,.bool Bool.true,.int 181 0,.ref 26,.none,.none,.none,.ref 27,.int 208 0,.int 10 0,.str "/claim/cut.py" 209], #[]⟩) ::
 (nat_lit 29,fn "are_labels" "are_labels" (top 5) "makes.items" 187 28) ::
 (nat_lit 35,cd "is_fleet" 213 "is_fleet" 214 215 13 2 30 31 32 33 34 218 13 219) ::
 (nat_lit 36,fn "is_fleet" "is_fleet" (top 7) "makes.fleets" 211 35) ::
 (nat_lit 40,⟨.type "code",.none,.fields #[.str "is_fleet_of" 221,.str "is_fleet_of" 222,.str "/claim/cut.py" 223,.int 15 0,.int 2 0,.int 0 0,.int 0 0,.int 3 0,.ref 37,.bool Bool.true,.int 181 0,.ref 38,.none,.none,.none,.ref 39,.int 224 0,.int 15 0,.str "/claim/cut.py" 225], #[]⟩) ::
 (nat_lit 41,fn "is_fleet_of" "is_fleet_of" (top 8) "makes.fleets" 211 40) ::
 (nat_lit 47,cd "is_program" 227 "is_program" 228 229 25 3 42 43 44 45 46 233 25 234) ::
 (nat_lit 48,fn "is_program" "is_program" (top 9) "makes.fleets" 211 47) ::
 (nat_lit 54,cd "_law_cell_at" 238 "_law_cell_at" 239 240 28 2 49 50 51 52 53 243 28 244) ::
 (nat_lit 55,fn "_law_cell_at" "_law_cell_at" (top 11) "law_makes_k77_fleets" 236 54) ::
 (nat_lit 61,cd "_law_draws" 246 "_law_draws" 247 248 32 2 56 57 58 59 60 255 32 256) ::
 (nat_lit 62,fn "_law_draws" "_law_draws" (top 12) "law_makes_k77_fleets" 236 61) ::
 (nat_lit 68,cd "_law_take" 258 "_law_take" 259 260 46 2 63 64 65 66 67 263 46 264) ::
 (nat_lit 69,fn "_law_take" "_law_take" (top 13) "law_makes_k77_fleets" 236 68) ::
 (nat_lit 75,cd "_law_shape" 266 "_law_shape" 267 268 49 2 70 71 72 73 74 275 49 276) ::
 (nat_lit 76,fn "_law_shape" "_law_shape" (top 14) "law_makes_k77_fleets" 236 75) ::
 (nat_lit 82,cd "_law_is_plain" 278 "_law_is_plain" 279 280 63 1 77 78 79 80 81 282 63 283) ::
 (nat_lit 83,fn "_law_is_plain" "_law_is_plain" (top 15) "law_makes_k77_fleets" 236 82) ::
 (nat_lit 89,cd "_law_default" 285 "_law_default" 286 287 65 2 84 85 86 87 88 291 65 292) ::
 (nat_lit 90,fn "_law_default" "_law_default" (top 16) "law_makes_k77_fleets" 236 89) ::
 (nat_lit 96,cd "_law_part" 294 "_law_part" 295 296 74 5 91 92 93 94 95 303 74 304) ::
 (nat_lit 97,fn "_law_part" "_law_part" (top 17) "law_makes_k77_fleets" 236 96) ::
 (nat_lit 103,cd "_law_parts" 306 "_law_parts" 307 308 79 3 98 99 100 101 102 314 79 315) ::
 (nat_lit 104,fn "_law_parts" "_law_parts" (top 18) "law_makes_k77_fleets" 236 103) ::
 (nat_lit 110,cd "_law_make" 317 "_law_make" 318 319 85 1 105 106 107 108 109 328 85 329) ::
 (nat_lit 111,fn "_law_make" "_law_make" (top 19) "law_makes_k77_fleets" 236 110) ::
 (nat_lit 117,cd "_law_base" 331 "_law_base" 332 333 102 1 112 113 114 115 116 335 102 336) ::
 (nat_lit 118,fn "_law_base" "_law_base" (top 20) "law_makes_k77_fleets" 236 117) ::
 (nat_lit 122,⟨.type "code",.none,.fields #[.str "_law_other_shape" 338,.str "_law_other_shape" 339,.str "/claim/cut.py" 340,.int 108 0,.int 3 0,.int 0 0,.int 0 0,.int 3 0,.ref 119,.bool Bool.true,.int 181 0,.ref 120,.none,.none,.none,.ref 121,.int 341 0,.int 108 0,.str "/claim/cut.py" 342], #[]⟩) ::
 (nat_lit 123,fn "_law_other_shape" "_law_other_shape" (top 21) "law_makes_k77_fleets" 236 122) ::
 (nat_lit 127,⟨.type "code",.none,.fields #[.str "_law_second" 344,.str "_law_second" 345,.str "/claim/cut.py" 346,.int 131 0,.int 2 0,.int 0 0,.int 0 0,.int 3 0,.ref 124,.bool Bool.true,.int 181 0,.ref 125,.none,.none,.none,.ref 126,.int 347 0,.int 131 0,.str "/claim/cut.py" 348], #[]⟩) ::
 (nat_lit 128,fn "_law_second" "_law_second" (top 22) "law_makes_k77_fleets" 236 127) ::
 (nat_lit 132,⟨.type "code",.none,.fields #[.str "_law_makes" 350,.str "_law_makes" 351,.str "/claim/cut.py" 352,.int 145 0,.int 2 0,.int 0 0,.int 0 0,.int 3 0,.ref 129,.bool Bool.true,.int 181 0,.ref 130,.none,.none,.none,.ref 131,.int 353 0,.int 145 0,.str "/claim/cut.py" 354], #[]⟩) ::
 (nat_lit 133,fn "_law_makes" "_law_makes" (top 23) "law_makes_k77_fleets" 236 132) ::
 (nat_lit 137,⟨.type "code",.none,.fields #[.str "_law_is_fleet" 356,.str "_law_is_fleet" 357,.str "/claim/cut.py" 358,.int 156 0,.int 2 0,.int 0 0,.int 0 0,.int 3 0,.ref 134,.bool Bool.true,.int 181 0,.ref 135,.none,.none,.none,.ref 136,.int 359 0,.int 156 0,.str "/claim/cut.py" 360], #[]⟩) ::
 (nat_lit 138,fn "_law_is_fleet" "_law_is_fleet" (top 24) "law_makes_k77_fleets" 236 137) ::
 (nat_lit 142,⟨.type "code",.none,.fields #[.str "_law_any" 362,.str "_law_any" 363,.str "/claim/cut.py" 364,.int 171 0,.int 2 0,.int 0 0,.int 0 0,.int 3 0,.ref 139,.bool Bool.true,.int 181 0,.ref 140,.none,.none,.none,.ref 141,.int 365 0,.int 171 0,.str "/claim/cut.py" 366], #[]⟩) ::
 (nat_lit 143,fn "_law_any" "_law_any" (top 25) "law_makes_k77_fleets" 236 142) ::
 (nat_lit 149,cd "_law_odd" 368 "_law_odd" 369 370 178 3 144 145 146 147 148 375 178 376) ::
 (nat_lit 150,fn "_law_odd" "_law_odd" (top 26) "law_makes_k77_fleets" 236 149) ::
 (nat_lit 156,cd "_law_bent" 378 "_law_bent" 379 380 183 4 151 152 153 154 155 386 183 387) ::
 (nat_lit 157,fn "_law_bent" "_law_bent" (top 27) "law_makes_k77_fleets" 236 156) ::
 (nat_lit 163,cd "law" 389 "law" 390 391 188 1 158 159 160 161 162 400 188 401) ::
 (nat_lit 164,fn "law" "law" (top 28) "law_makes_k77_fleets" 236 163) ::
 []
def asK:ZU:=[3,18,19,23,24,28,29,35,36,40,41,47,48,54,55,61,62,68,69,75,76,82,83,89,90,96,97,103,104,110,111,117,118,122,123,127,128,132,133,137,138,142,143,149,150,156,157,163,164]
theorem Pk(P:Params):asK=(heapK P).map (·.1):=by kernel_rfl
noncomputable abbrev Mq:W.Hook:=W.kHook heapK asK Pk
abbrev xtK(s:Shared):Bool:=W.xlAt viewK [] s && W.recOk (W.RowW.records PySem.Challenge.rw_makes_k77_fleets.row.toRowW) s
abbrev Ad(w:World):Prop:=(W.openEnds treeTable PySem.Challenge.pw_makes_k77_fleets w 1648).map (fun s=>(W.openSeen viewK Yd (importedModules PySem.Challenge.pw_makes_k77_fleets.main.body) xtK true s,Mq.obs s))=some (W.openGood viewK Yd,Mq.val w)
abbrev Vo(s:Shared):=W.openSeen viewK Yd (importedModules PySem.Challenge.pw_makes_k77_fleets.main.body) xtK true s
abbrev wK(w:World)(b:Bool):World:=w.withFollow "special-get-raises" b
theorem chkF(w:World)(os:OsState):((L2.Wv PySem.Challenge.pw_makes_k77_fleets 1648 (wK w false) os).map fun s=>L2.rb PySem.Challenge.pw_makes_k77_fleets (wK w false) s.abs)=some true:=by kernel_rfl
theorem chkR(w:World)(os:OsState):((L2.Wv PySem.Challenge.pw_makes_k77_fleets 1648 (wK w true) os).map fun s=>L2.rb PySem.Challenge.pw_makes_k77_fleets (wK w true) s.abs)=some true:=by kernel_rfl
theorem seenF1(w:World)(os:OsState):((L2.Wv PySem.Challenge.pw_makes_k77_fleets 1648 (wK w false) os).map fun s=>(Vo s.abs).1)=some (W.openGood viewK Yd).1:=by kernel_rfl
theorem seenF2(w:World)(os:OsState):((L2.Wv PySem.Challenge.pw_makes_k77_fleets 1648 (wK w false) os).map fun s=>(Vo s.abs).2.1)=some (W.openGood viewK Yd).2.1:=by kernel_rfl
theorem seenF3(w:World)(os:OsState):((L2.Wv PySem.Challenge.pw_makes_k77_fleets 1648 (wK w false) os).map fun s=>(Vo s.abs).2.2)=some (W.openGood viewK Yd).2.2:=by kernel_rfl
theorem seenT1(w:World)(os:OsState):((L2.Wv PySem.Challenge.pw_makes_k77_fleets 1648 (wK w true) os).map fun s=>(Vo s.abs).1)=some (W.openGood viewK Yd).1:=by kernel_rfl
theorem seenT2(w:World)(os:OsState):((L2.Wv PySem.Challenge.pw_makes_k77_fleets 1648 (wK w true) os).map fun s=>(Vo s.abs).2.1)=some (W.openGood viewK Yd).2.1:=by kernel_rfl
theorem seenT3(w:World)(os:OsState):((L2.Wv PySem.Challenge.pw_makes_k77_fleets 1648 (wK w true) os).map fun s=>(Vo s.abs).2.2)=some (W.openGood viewK Yd).2.2:=by kernel_rfl
theorem Iy{w:World}{os:OsState}(h1:((L2.Wv PySem.Challenge.pw_makes_k77_fleets 1648 w os).map fun s=>(Vo s.abs).1)=some (W.openGood viewK Yd).1)(h2:((L2.Wv PySem.Challenge.pw_makes_k77_fleets 1648 w os).map fun s=>(Vo s.abs).2.1)=some (W.openGood viewK Yd).2.1)
  (h3:((L2.Wv PySem.Challenge.pw_makes_k77_fleets 1648 w os).map fun s=>(Vo s.abs).2.2)=some (W.openGood viewK Yd).2.2):((L2.Wv PySem.Challenge.pw_makes_k77_fleets 1648 w os).map fun s=>Vo s.abs)=some (W.openGood viewK Yd):=by
 obtain⟨s,e,c1⟩:=L2.Dm (f:=fun s=>(Vo s).1) h1;obtain⟨s2,e2,c2⟩:=L2.Dm (f:=fun s=>(Vo s).2.1) h2;obtain⟨s3,e3,c3⟩:=L2.Dm (f:=fun s=>(Vo s).2.2) h3;rw[e]at e2 e3;cases e2;cases e3;rw[e];exact congrArg some (Prod.ext c1 (Prod.ext c2 c3))
theorem seenF(w:World)(os:OsState):((L2.Wv PySem.Challenge.pw_makes_k77_fleets 1648 (wK w false) os).map fun s=>Vo s.abs)=some (W.openGood viewK Yd):=Iy (seenF1 w os) (seenF2 w os) (seenF3 w os)
theorem seenT(w:World)(os:OsState):((L2.Wv PySem.Challenge.pw_makes_k77_fleets 1648 (wK w true) os).map fun s=>Vo s.abs)=some (W.openGood viewK Yd):=Iy (seenT1 w os) (seenT2 w os) (seenT3 w os)
theorem obsF(w:World)(os:OsState):((L2.Wv PySem.Challenge.pw_makes_k77_fleets 1648 (wK w false) os).map fun s=>Mq.obs s.abs)=some (Mq.val (wK w false)):=by kernel_rfl
theorem obsT(w:World)(os:OsState):((L2.Wv PySem.Challenge.pw_makes_k77_fleets 1648 (wK w true) os).map fun s=>Mq.obs s.abs)=some (Mq.val (wK w true)):=by kernel_rfl
theorem Xc(w:World)(h1:∀os,((L2.Wv PySem.Challenge.pw_makes_k77_fleets 1648 w os).map fun s=>L2.rb PySem.Challenge.pw_makes_k77_fleets w s.abs)=some true)(h2:∀os,((L2.Wv PySem.Challenge.pw_makes_k77_fleets 1648 w os).map fun s=>Vo s.abs)=some (W.openGood viewK Yd))(h3:∀os,((L2.Wv PySem.Challenge.pw_makes_k77_fleets 1648 w os).map fun s=>Mq.obs s.abs)=some (Mq.val w)):Ad w:=by
 obtain⟨⟨hp,g,d,k,os⟩,hs,hv⟩:=Yj.mp (W.boot_open (p:=PySem.Challenge.pw_makes_k77_fleets) (N:=1648) rfl (by decide) (fun s=>rfl) w);simp only[Prod.mk.injEq]at hv;obtain⟨rfl,rfl,rfl,rfl⟩:=hv;show Option.map _ (Option.bind (W.fencedOpening treeTable PySem.Challenge.pw_makes_k77_fleets w 1648) (W.topFrom treeTable PySem.Challenge.pw_makes_k77_fleets w 1648))=_;rw[hs];exact L2.top_of (h1 os) (h2 os) (h3 os)
theorem leftF(w:World):Ad (w.withFollow "special-get-raises" false):=Xc _ (chkF w) (seenF w) (obsF w)
theorem leftT(w:World):Ad (w.withFollow "special-get-raises" true):=Xc _ (chkR w) (seenT w) (obsT w)
theorem leftK:W.LeftO PySem.Challenge.pw_makes_k77_fleets viewK Yd xtK Mq.obs Mq.val 1648:=W.byRow2 "special-get-raises" leftF leftT
end K77
namespace L2
open PySem PySem.Spec PyProof.Rows
abbrev Key:=Sum Int Str
noncomputable def G4:Key->Value->Bool
 | .inl k,v=>Value.isInt k v
 | .inr x,v=>Value.isStrOf x v
def keyH(w:World):Key->Int
 | .inl k=>hashInt k
 | .inr x=>hashStr w x
theorem Zb:∀{k:Key} {v:Value},G4 k v=true->(∃i t,k=Sum.inl i/\v=Value.int i t)\/(∃x t,k=Sum.inr x/\v=Value.str x t)
 | .inl i,v,h=>by
  obtain⟨t,e⟩:=Value.isInt_shape (k:=i) (v:=v) h;exact .inl ⟨i,t,rfl,e⟩
 | .inr x,v,h=>by
  obtain⟨t,e⟩:=Value.isStrOf_shape (x:=x) (v:=v) h;exact .inr ⟨x,t,rfl,e⟩
theorem Li(i:Int)(t:Tok):G4 (.inl i) (.int i t)=true:=by simp[G4,Value.isInt]
theorem Lo(x:Str)(t:Tok):G4 (.inr x) (.str x t)=true:=by simp[G4,Value.isStrOf]
theorem key_ll(a b:Int):decide ((Sum.inl a:Key)=Sum.inl b)=(a == b):=by
 by_cases e:a=b
 .subst e;simp
 .have h:¬ (Sum.inl a:Key)=Sum.inl b:=fun q=>e (Sum.inl.inj q);rw[Mp h];exact(B0n.mpr e).symm
theorem key_rr(a b:Str):decide ((Sum.inr a:Key)=Sum.inr b)=decide (a=b):=by
 by_cases e:a=b
 .subst e;simp
 .have h:¬ (Sum.inr a:Key)=Sum.inr b:=fun q=>e (Sum.inr.inj q);rw[Mp h,Mp e]
theorem key_lr(a:Int)(b:Str):decide ((Sum.inl a:Key)=Sum.inr b)=false:=Mp (fun q=>nomatch q)
theorem key_rl(a:Str)(b:Int):decide ((Sum.inr a:Key)=Sum.inl b)=false:=Mp (fun q=>nomatch q)
noncomputable def Zg(prog:Program)(w:World):PySem.KeyKind prog w Key where
 is:=G4
 hash:=keyH w
 inj:=fun v a b ha hb=>by
  rcases Zb ha with ⟨i,t,rfl,rfl⟩ | ⟨x,t,rfl,rfl⟩
  .rcases Zb hb with ⟨j,u,rfl,e⟩ | ⟨y,u,rfl,e⟩
   .injection e with e1 _;rw[e1]
   .exact nomatch e
  .rcases Zb hb with ⟨j,u,rfl,e⟩ | ⟨y,u,rfl,e⟩
   .exact nomatch e
   .injection e with e1 _;rw[e1]
 byValue:=fun k v h=>by
  rcases Zb h with ⟨i,t,rfl,rfl⟩ | ⟨x,t,rfl,rfl⟩<;>rfl
 pyHash:=fun hv h=>by
  rcases Zb hv with ⟨i,t,rfl,rfl⟩ | ⟨x,t,rfl,rfl⟩
  .exact wpAny_pyHash_int h
  .exact wpAny_pyHash_str h
 eqBool:=fun hu hv h=>by
  rcases Zb hu with ⟨i,t,rfl,rfl⟩ | ⟨x,t,rfl,rfl⟩
  .rcases Zb hv with ⟨j,u,rfl,rfl⟩ | ⟨y,u,rfl,rfl⟩
   .rw[key_ll]at h;exact wpAny_eqBool_int h
   .rw[key_lr]at h;exact SeqAt.EqAt.int_str i t y u _ _ _ _ h
  .rcases Zb hv with ⟨j,u,rfl,rfl⟩ | ⟨y,u,rfl,rfl⟩
   .rw[key_rl]at h;exact SeqAt.EqAt.str_int x t j u _ _ _ _ h
   .rw[key_rr]at h;exact wpAny_eqBool_str h
 «strs»:=fun k x t v h=>by
  rcases Zb h with ⟨i,u,rfl,e⟩ | ⟨y,u,rfl,e⟩
  .exact nomatch e
  .injection e with e1 _
   subst e1;cases v<;>rfl
theorem O4(prog:Program)(w:World)(i:Int)(t:Tok):(Zg prog w).is (.inl i) (.int i t)=true:=Li i t
theorem O3(prog:Program)(w:World)(x:Str)(t:Tok):(Zg prog w).is (.inr x) (.str x t)=true:=Lo x t
inductive V where
 | non | bl(b:Bool) | int(i:Int) | str(x:Str) | byt(b:Array UInt8) | flt(b:UInt64) | ref(a:Addr) | ty(n:String)
 deriving DecidableEq
abbrev ZQ:=List V
abbrev ZJ:=List (Option V)
def RelV:V->Value->Prop
 | .non,u=>u=Value.none
 | .bl b,u=>u=Value.bool b
 | .int i,u=>∃t,u=Value.int i t
 | .str x,u=>∃t,u=Value.str x t
 | .byt b,u=>∃t,u=Value.bytes b t
 | .flt b,u=>∃t,u=Value.float b t
 | .ref a,u=>u=Value.ref a
 | .ty n,u=>u=Value.type n
abbrev Zv:ZQ->ZM->Prop:=Paired RelV
theorem Zv.length{xs:ZQ}{us:ZM}(r:Zv xs us):xs.length=us.length:=Paired.length r
theorem Zv.get:∀{xs:ZQ} {us:ZM} {i:Nat} {x:V},Zv xs us->xs[i]?=some x->∃u,us[i]?=some u/\RelV x u
 | _,_,_,_,.nil,e=>by simp at e
 | _,_,0,_,.cons r _,e=>by simp at e;subst e;exact⟨_,rfl,r⟩
 | _,_,i+1,x,.cons _ t,e=>by
  obtain⟨u,h1,h2⟩:=Zv.get (i:=i) (x:=x) t (by simpa using e);exact⟨u,by simpa using h1,h2⟩
theorem Zv.set{x:V}{u:Value}(r:RelV x u):∀{xs:ZQ} {us:ZM} (i:Nat),Zv xs us->Zv (xs.set i x) (us.set i u)
 | _,_,_,.nil=>.nil
 | _,_,0,.cons _ t=>.cons r t
 | _,_,i+1,.cons q t=>.cons q (Zv.set r i t)
theorem Zv.append:∀{xs ys:ZQ} {us ws:ZM},Zv xs us->Zv ys ws->Zv (xs++ys) (us++ws)
 | _,_,_,_,.nil,s=>s
 | _,_,_,_,.cons r t,s=>.cons r (Zv.append t s)
theorem Zv.take:∀{xs:ZQ} {us:ZM} (n:Nat),Zv xs us->Zv (xs.take n) (us.take n)
 | _,_,0,_=>.nil
 | _,_,_+1,.nil=>.nil
 | _,_,n+1,.cons r t=>.cons r (Zv.take n t)
theorem Zv.drop:∀{xs:ZQ} {us:ZM} (n:Nat),Zv xs us->Zv (xs.drop n) (us.drop n)
 | _,_,0,r=>r
 | _,_,_+1,.nil=>.nil
 | _,_,n+1,.cons _ t=>Zv.drop n t
def B7:Option V->ZT->Prop
 | some v,some u=>RelV v u
 | none,none=>True
 | _,_=>False
def KV{Z:Type}:List (Z×V)->List (Z×Value)->Prop:=Paired fun(p:Z×V) (q:Z×Value)=>p.1=q.1/\RelV p.2 q.2
def kV:Key->V
 | .inl i=>.int i
 | .inr x=>.str x
inductive HO where
 | lst(xs:ZQ)
 | tup (xs:ZQ)
 | dK (XB:List (Key×V)) | dT (XB:List (List Key×V))
 | set (S:Int->Bool) (n:Nat)
 | ins (C dx:Addr) (fs:List (Str×V))
 | own (x:Addr)
 | xd (fs:List (Str×V))
 | met (f x:Addr)
 | rng (lo hi:Int)
 | frz (o:Obj) (u:HO)
 | tbl (ps:ZN)
 | ext (φ:Heap->Prop)
abbrev Hp:=Addr->Option HO
def upd(H:Hp)(a:Addr)(o:HO):Hp:=fun b=>if b=a then some o else H b
theorem Zw{H:Hp}{a:Addr}{o:HO}:upd H a o a=some o:=by unfold upd;rw[if_pos rfl]
theorem Zz{H:Hp}{a b:Addr}{o:HO}(h:b≠a):upd H a o b=H b:=by unfold upd;rw[if_neg h]
theorem ne_of{H:Hp}{a b:Addr}{o u:HO}(h:H a=some o)(h':H b=some u)(d:o≠u):a≠b:=by
 intro e;subst e;rw[h]at h';exact d (D3 h')
theorem Za{H:Hp}{a b:Addr}{o:HO}(h:H a=some o)(h':H b=none):a≠b:=by
 intro e;subst e;rw[h]at h';cases h'
section
variable(P:Program)(w:World)
def Wx(h:Heap)(a:Addr)(XM:ZN):Prop:=∃o,h.get? a=some o/\o.cls=.type "tuple" /\ (∃n,o.data=.seq XM n)/\o.dict=none
theorem Wx.tup{h:Heap}{a:Addr}{XM:ZN}(x:Wx h a XM):IsTup h a XM:=let ⟨o,e,c,d,_⟩:=x;⟨o,e,c,d⟩
theorem Wx.lt{h:Heap}{a:Addr}{XM:ZN}(x:Wx h a XM):a<h.objs.size:=x.tup.lt
theorem Wx.new(h:Heap)(XM:ZN):Wx (h.push { cls:=.type "tuple",data:=.seq XM }) h.objs.size XM:=⟨_,U1 _ rfl,rfl,⟨_,rfl⟩,rfl⟩
def Zp(H:Hp)(h:Heap)(a:Addr):HO->Prop
 | .lst xs=>xs.length<=sizeLine/\∃(XM:ZM) (n:Nat),Zv xs XM/\h.get? a=some { cls:=.type "list",data:=.seq XM.toArray n }
 | .tup xs=>xs.length<=sizeLine/\∃XM:ZM,Zv xs XM/\Wx h a XM.toArray
 | .dK XB=>XB.length<=sizeLine/\(a == sysModules)=false/\∃vs,KV XB vs/\h.DictOf (Zg P w) a vs
 | .dT XB=>XB.length<=sizeLine/\(a == sysModules)=false/\∃xs:List (List Key×Addr×Value),
   Paired (fun(p:List Key×V) (q:List Key×Addr×Value)=>p.1=q.1/\H q.2.1=some (.tup (p.1.map kV))/\RelV p.2 q.2.2) XB xs /\
   ∃o es ep,h.get? a=some o/\o.ExactDict/\o.data=.dict es ep/\es.toList=xs.map (entryOfKey (tupleKind (Zg P w)))/\(xs.map (·.1)).Nodup
 | .set S n=>h.SetOf (intKind P w) a S n
 | .ins C dx fs=>H dx=some (.own a)/\fs.length<=1000/\dx≠a/\h.get? a=some (W.instObj C dx) /\
   ∃mA,h.Ns1 dx mA/\(∀f,B7 (fs.lookup f) (mA f))/\PySem.Within mA (fs.map (·.1))
 | .own _=>∃o,h.get? a=some o
 | .xd fs=>∃mA,h.Ns1 a mA/\∀f,B7 (fs.lookup f) (mA f)
 | .rng lo hi=>∃t u v,h.get? a=some { cls:=.type "range",data:=.fields #[.int lo t,.int hi u,.int 1 v] }
 | .frz o u=>h.get? a=some o/\Zp H h a u
 | .tbl ps=>h.get? a=some { cls:=.none,data:=.fields ps }
 | .met f x=>h.get? a=some (W.methodObj (.ref f) (.ref x))
 | .ext φ=>φ h/\(∃o,h.get? a=some o)/\∀h1 h2:Heap,φ h1->(∀o,h1.get? a=some o->h2.get? a=some o)->φ h2
def Mo(H:Hp)(h:Heap):Prop:=∀a o,H a=some o->Zp P w H h a o
end
section
variable{P:Program}{w:World}{H H':Hp}{h h':Heap}{a:Addr}{o:HO}
theorem Zp.lt(x:Zp P w H h a o):a<h.objs.size:=by
 cases o with
 | lst xs=>obtain⟨_,_,_,_,e⟩:=x;exact Y7 e
 | tup xs=>obtain⟨_,_,_,p⟩:=x;exact p.lt
 | dK XB=>obtain⟨_,_,_,_,o,_,_,e,_⟩:=x;exact Y7 e
 | dT XB=>obtain⟨_,_,_,_,o,_,_,e,_⟩:=x;exact Y7 e
 | set S n=>obtain⟨o,_,_,_,e,_⟩:=x;exact Y7 e
 | ins C dx fs=>obtain⟨_,_,_,e,_⟩:=x;exact Y7 e
 | own y=>obtain⟨_,e⟩:=x;exact Y7 e
 | xd fs=>obtain⟨_,⟨_,_,_,e,_⟩,_⟩:=x;exact Y7 e
 | rng lo hi=>obtain⟨_,_,_,e⟩:=x;exact Y7 e
 | frz ob u=>obtain⟨e,_⟩:=x;exact Y7 e
 | tbl ps=>exact Y7 (show h.get? a=some _ from x)
 | met f y=>exact Y7 (show h.get? a=some _ from x)
 | ext φ=>obtain⟨_,⟨_,e⟩,_⟩:=x;exact Y7 e
theorem Paired.mapP{Z U:Type}{F G:Z->U->Prop}:∀{l₁:List Z} {l₂:List U},Paired F l₁ l₂->(∀a b,F a b->G a b)->Paired G l₁ l₂
 | _,_,.nil,_=>.nil
 | _,_,.cons r t,f=>.cons (f _ _ r) (Paired.mapP t f)
theorem Zp.stay(x:Zp P w H h a o)(k:∀b u,(b=a\/H b=some (.own a))->h.get? b=some u->h'.get? b=some u)
  (ho:∀b,H b=some (.own a)->H' b=some (.own a)) (ht:∀b xs,H b=some (.tup xs)->H' b=some (.tup xs)):Zp P w H' h' a o:=by
 induction o with
 | lst xs=>obtain⟨z,XM,n,r,e⟩:=x;exact⟨z,XM,n,r,k _ _ (.inl rfl) e⟩
 | tup xs=>obtain⟨z,XM,r,ob,e,c⟩:=x;exact⟨z,XM,r,ob,k _ _ (.inl rfl) e,c⟩
 | dK XB=>obtain⟨z,y,vs,r,ob,es,ep,e,c⟩:=x;exact⟨z,y,vs,r,ob,es,ep,k _ _ (.inl rfl) e,c⟩
 | dT XB =>
  obtain⟨z,y,xs,r,ob,es,ep,e,c⟩:=x;exact⟨z,y,xs,Paired.mapP r fun p q z=>⟨z.1,ht _ _ z.2.1,z.2.2⟩,ob,es,ep,k _ _ (.inl rfl) e,c⟩
 | set S n=>obtain⟨ob,es,ep,t,e,c⟩:=x;exact⟨ob,es,ep,t,k _ _ (.inl rfl) e,c⟩
 | ins C dx fs =>
  obtain⟨d,z,ne,e,mA,⟨od,es,ep,e2,c⟩,r⟩:=x;exact⟨ho _ d,z,ne,k _ _ (.inl rfl) e,mA,⟨od,es,ep,k _ _ (.inr d) e2,c⟩,r⟩
 | own y=>obtain⟨ob,e⟩:=x;exact⟨ob,k _ _ (.inl rfl) e⟩
 | xd fs=>obtain⟨mA,⟨od,es,ep,e,c⟩,r⟩:=x;exact⟨mA,⟨od,es,ep,k _ _ (.inl rfl) e,c⟩,r⟩
 | rng lo hi=>obtain⟨t,u,v,e⟩:=x;exact⟨t,u,v,k _ _ (.inl rfl) e⟩
 | frz ob u ih=>obtain⟨e,q⟩:=x;exact⟨k _ _ (.inl rfl) e,ih q⟩
 | tbl ps =>
  have e:h.get? a=some { cls:=.none,data:=.fields ps }:=x;show h'.get? a=some { cls:=.none,data:=.fields ps };exact k a _ (.inl rfl) e
 | met f y =>
  have e:h.get? a=some (W.methodObj (.ref f) (.ref y)):=x;show h'.get? a=some (W.methodObj (.ref f) (.ref y));exact k a _ (.inl rfl) e
 | ext φ=>obtain⟨p,⟨o,e⟩,st⟩:=x;exact⟨st _ _ p fun o q=>k _ _ (.inl rfl) q,⟨o,k _ _ (.inl rfl) e⟩,st⟩
theorem Mo.lt(x:Mo P w H h)(e:H a=some o):a<h.objs.size:=(x a o e).lt
theorem Mo.fresh(x:Mo P w H h)(e:h.objs.size<=a):H a=none:=by
 cases q:H a with
 | none=>rfl
 | some u=>exact absurd (W6 (x.lt q) e) (Nat.lt_irrefl _)
theorem Mo.kept(x:Mo P w H h)(k:∀b u,h.get? b=some u->h'.get? b=some u):Mo P w H h':=fun a o e =>
 (x a o e).stay (fun b u _ q=>k b u q) (fun _ q=>q) fun _ _ q=>q
theorem Mo.laid(x:Mo P w H h)(k:∀b u,h.get? b=some u->h'.get? b=some u)(hp:h.objs.size<=a)(new:Zp P w (upd H a o) h' a o):Mo P w (upd H a o) h':=fun b u e=>by
 have hn:=x.fresh hp;by_cases hb:b=a
 .subst hb;rw[Zw]at e;cases e;exact new
 .rw[Zz hb]at e;exact(x b u e).stay (fun c v _ q=>k c v q) (fun c q=>by rw[Zz (Za q hn)];exact q) fun c xs q=>by rw[Zz (Za q hn)];exact q
end
def Rd(H:Hp)(a:Addr)(u:HO):Prop:=H a=some u\/∃o,H a=some (.frz o u)
theorem Rd.of{H:Hp}{a:Addr}{u:HO}(h:H a=some u):Rd H a u:=.inl h
theorem Rd.ok{P:Program}{w:World}{H:Hp}{h:Heap}{a:Addr}{u:HO}(r:Rd H a u)(x:Mo P w H h):Zp P w H h a u:=by
 rcases r with r | ⟨o,r⟩
 .exact x a u r
 .obtain⟨_,q⟩:=x a _ r;exact q
def Mut:Option HO->Prop
 | some (.lst _)=>True
 | some (.dK _)=>True
 | some (.dT _)=>True
 | some (.set _ _)=>True
 | some (.ins _ _ _)=>True
 | some (.ext _)=>True
 | _=>False
section
variable{P:Program}{w:World}{H:Hp}{h h':Heap}{x e:Addr}{o':HO}
theorem Mo.write(ok:Mo P w H h)(mu:Mut (H x))(he:e=x\/H e=some (.own x))(k:∀b u,b≠e->h.get? b=some u->h'.get? b=some u)(heo:∃u,h'.get? e=some u)
  (new:Zp P w (upd H x o') h' x o'):Mo P w (upd H x o') h':=fun b u q=>by
 have nown:∀c y,H c=some (.own y)->c≠x:=fun c y r z=>by subst z;rw[r]at mu;exact mu
 have ntup:∀c xs,H c=some (.tup xs)->c≠x:=fun c xs r z=>by subst z;rw[r]at mu;exact mu
 by_cases hb:b=x
 .subst hb;rw[Zw]at q;cases q;exact new
 .rw[Zz hb]at q;by_cases hbe:b=e
  .have q':H b=some (.own x):=by
    rcases he with z | z
    .exact absurd (hbe.trans z) hb
    .rw[hbe];exact z
   rw[q]at q';cases q';obtain⟨v,hv⟩:=heo;exact⟨v,by rw[hbe];exact hv⟩
  .refine(ok b u q).stay (fun c v hc r=>k c v ?_ r) (fun c r=>by rw[Zz (nown c b r)];exact r) fun c xs r=>by rw[Zz (ntup c xs r)];exact r
   rcases hc with rfl | hc
   .exact hbe
   .rintro rfl;rcases he with z | z
    .exact nown c b hc z
    .rw[hc]at z;cases z;exact hb rfl
end
structure Un(fs ex:ZU)(H H':Hp)(h h':Heap):Prop where
 keep:∀b o,h.get? b=some o->H b=none->b ∉ fs->b ∉ ex->h'.get? b=some o
 slot:∀b o,h.get? b=some o->H b=none->b∈fs->b ∉ ex->∃sl,h'.get? b=some { o with slots:=sl }
 free:∀b o,h.get? b=some o->H b=none->b ∉ ex->H' b=none
 there:∀b o,h.get? b=some o->b ∉ ex->∃o',h'.get? b=some o'
 tups:∀b xs,H b=some (.tup xs)->H' b=some (.tup xs)
 frzs:∀b o u,H b=some (.frz o u)->H' b=some (.frz o u)
 tbls:∀b ps,H b=some (.tbl ps)->∃more,H' b=some (.tbl (ps++more))
section
variable{fs fs' ex ex':ZU}{H H1 H2:Hp}{h h1 h2 h':Heap}{a x e:Addr}{o:HO}
theorem Un.any(u:Un fs ex H H1 h h1){b:Addr}{ob:Obj}(q:h.get? b=some ob)(n:H b=none)(hx:b ∉ ex):∃sl,h1.get? b=some { ob with slots:=sl }:=by
 by_cases hb:b∈fs
 .exact u.slot b ob q n hb hx
 .exact⟨ob.slots,u.keep b ob q n hb hx⟩
theorem Un.trans(a:Un fs ex H H1 h h1)(b:Un fs ex H1 H2 h1 h2):Un fs ex H H2 h h2 where
 keep:=fun c ob q n hc hx=>b.keep c ob (a.keep c ob q n hc hx) (a.free c ob q n hx) hc hx
 slot:=fun c ob q n hc hx=>by
  obtain⟨sl,e1⟩:=a.slot c ob q n hc hx;obtain⟨sl',e2⟩:=b.slot c _ e1 (a.free c ob q n hx) hc hx;exact⟨sl',e2⟩
 free:=fun c ob q n hx=>by
  obtain⟨o',e1⟩:=a.there c ob q hx;exact b.free c o' e1 (a.free c ob q n hx) hx
 there:=fun c ob q hx=>by
  obtain⟨o',e1⟩:=a.there c ob q hx;exact b.there c o' e1 hx
 tups:=fun c xs q=>b.tups c xs (a.tups c xs q)
 frzs:=fun c ob xs q=>b.frzs c ob xs (a.frzs c ob xs q)
 tbls:=fun c ps q=>by
  obtain⟨m1,e1⟩:=a.tbls c ps q;obtain⟨m2,e2⟩:=b.tbls c _ e1;exact⟨m1++m2,by rw[e2,Array.append_assoc]⟩
theorem Un.kept(k:∀b u,h.get? b=some u->h'.get? b=some u):Un fs ex H H h h' :=
 ⟨fun b ob q _ _ _=>k b ob q,fun b ob q _ _ _=>⟨ob.slots,k b ob q⟩,fun _ _ _ n _=>n,fun b ob q _=>⟨ob,k b ob q⟩,fun _ _ q=>q,fun _ _ _ q=>q,fun _ ps q=>⟨#[],by rw[q];simp⟩⟩
theorem Un.refl:Un fs ex H H h h:=Un.kept fun _ _ q=>q
theorem Un.laid(k:∀b u,h.get? b=some u->h'.get? b=some u)(hp:h.objs.size<=a)(hn:H a=none):Un fs ex H (upd H a o) h h' where
 keep:=fun b u q _ _ _=>k b u q
 slot:=fun b u q _ _ _=>⟨u.slots,k b u q⟩
 free:=fun b u q n _=>by rw[Zz (Gk (W6 (Y7 q) hp))];exact n
 there:=fun b u q _=>⟨u,k b u q⟩
 tups:=fun b xs q=>by rw[Zz (Za q hn)];exact q
 frzs:=fun b u xs q=>by rw[Zz (Za q hn)];exact q
 tbls:=fun b ps q=>⟨#[],by rw[Zz (Za q hn),q];simp⟩
theorem Un.write(mu:Mut (H x))(he:e=x\/H e=some (.own x))(k:∀b u,b≠e->h.get? b=some u->h'.get? b=some u)(heo:∃u,h'.get? e=some u):Un fs ex H (upd H x o) h h':=by
 have hx:∀b,H b=none->b≠x:=fun b n z=>by subst z;rw[n]at mu;exact mu
 have hb:∀b,H b=none->b≠e:=fun b n z=>by
  subst z;rcases he with r | r
  .exact hx b n r
  .rw[n]at r;cases r
 have hm:∀b u,H b=some u->¬ Mut (some u)->b≠x:=fun b u q nm z=>by subst z;rw[q]at mu;exact nm mu
 refine⟨fun b u q n _ _=>k b u (hb b n) q,fun b u q n _ _=>⟨u.slots,k b u (hb b n) q⟩,fun b u q n _=>by rw[Zz (hx b n)];exact n,fun b u q _=>?_,
  fun b xs q=>by rw[Zz (hm b _ q fun z=>z)];exact q,fun b u xs q=>by rw[Zz (hm b _ q fun z=>z)];exact q,fun b ps q=>⟨#[],by rw[Zz (hm b _ q fun z=>z),q];simp⟩⟩
 by_cases hbe:b=e
 .subst hbe;exact heo
 .exact⟨u,k b u hbe q⟩
end
noncomputable def trk(h:Heap)(H:Hp):ZU:=(List.range h.objs.size).filter fun a=>(H a).isSome
def Qu(h:Heap)(H:Hp):Heap:=W.hideAll h (trk h H)
theorem jg(h:Heap)(H:Hp):(Qu h H).objs.size=h.objs.size:=W.hideAll_size _ _
theorem c8{h:Heap}{H:Hp}{b:Addr}{o:Obj}(e:h.get? b=some o)(n:H b=none):(Qu h H).get? b=some o :=
 W.hideAll_get _ e fun hm=>by
  have q:(H b).isSome=true:=(List.mem_filter.mp hm).2;rw[n]at q;simp at q
theorem Zz0{h:Heap}{H:Hp}{b:Addr}{o:Obj}(e:(Qu h H).get? b=some o):h.get? b=some o/\H b=none:=by
 have e':h.get? b=some o:=W.of_hideAll (trk h H) e;refine⟨e', ?_⟩;cases q:H b with
 | none=>rfl
 | some x =>
  have hm:b∈trk h H:=List.mem_filter.mpr ⟨List.mem_range.mpr (Y7 e'),by simp[q]⟩;have z:(Qu h H).get? b=none:=W.hideAll_none (trk h H) hm;rw[z]at e;cases e
structure Mod(K:W.Frag)(mg:ZV)(base:Heap):Prop where
 kin:K.In base
 glob:base.Ns mainGlobals mg
 blt:∃mb,base.Ns builtinsNs mb/\∀x:Str,x ≠ "__name__" -> mb x=bootBuiltins x
 nolimit:base.NoLimit
structure Cx where
 prog:Program
 w:World
 K:W.Frag
 mg:ZV
 base:Heap
 A:Around
 N:ZD
 s₀:Shared
 H₀:Hp
 env:Env
 outer:List Env
 stack:List Env
 ex:ZU
 fn:Str->Bool
 calm:Bool
 pn:ZY
 xe:ZW
noncomputable def frs(l:List Env):ZU:=l.filterMap (·.frame)
abbrev Cx.fs(X:Cx):ZU:=frs X.outer
def Vis(sc:Scope)(x:Str):Prop:=sc.names.lookup x=some .local\/sc.names.lookup x=some .cell\/sc.names.lookup x=some .free
def Loc(sc:Scope)(x:Str):Prop:=sc.names.lookup x=some .local\/sc.names.lookup x=some .cell
def Look(env:Env)(h:Heap)(m:ZV)(x:Str)(u:Value):Prop :=
 (env.kindOf x=some .local/\m x=some u)\/((env.kindOf x=some .cell\/env.kindOf x=some .free)/\∃c,env.cells.lookup x=some c/\h.IsCell c (some u))
structure Cx.Ok(X:Cx):Prop where
 mod:Mod X.K X.mg X.base
 kind:X.env.scope.kind=.function
 glob:X.env.globals=mainGlobals
 blt:X.env.builtins=builtinsNs
 above:X.s₀.heap.objs.size<=X.env.locals
 inj:∀x y c,X.env.cells.lookup x=some c->X.env.cells.lookup y=some c->x=y
 has:∀x,(X.env.kindOf x=some .cell\/X.env.kindOf x=some .free)->∃c,X.env.cells.lookup x=some c
 cab:∀x c,X.fn x=true->X.env.cells.lookup x=some c->X.s₀.heap.objs.size<=c
 hd:X.calm=true->X.A.handled=none
 frames:X.A.frames=some X.stack
 stk:X.stack=X.outer\/(X.stack=X.env::X.outer/\X.env.frame=some X.env.locals)
 exf:∀b∈X.ex,b≠X.env.locals/\∀x c,X.env.cells.lookup x=some c->c≠b
 bs:∀b o,X.base.get? b=some o->X.s₀.heap.get? b=some o/\X.H₀ b=none
 bsz:X.base.objs.size<=X.s₀.heap.objs.size
 noex:∀b o,X.base.get? b=some o->b ∉ X.ex
 exfs:∀b∈X.ex,b ∉ X.fs
 funs:X.s₀.heap.FunFrames X.base X.outer
 frf:∀b∈X.fs,X.H₀ b=none
structure Inv(X:Cx)(XF:ZY)(Z:ZJ)(H:Hp)(s:Shared):Prop where
 ok:X.Ok
 os:s.os=X.s₀.os
 bare:AllBare s.gens
 base:Un X.fs X.ex X.H₀ H X.s₀.heap s.heap
 loc:∃m,s.heap.Ns X.env.locals m/\∀(i:Nat) (x:Str) (v:V),X.N[i]?=some x->Z[i]?=some (some v)->Vis X.env.scope x->∃u,RelV v u/\Look X.env s.heap m x u
 cell:∀x c,X.env.cells.lookup x=some c->∃v,s.heap.IsCell c v
 free:H X.env.locals=none
 freeC:∀x c,X.env.cells.lookup x=some c->H c=none
 pin:∀p∈X.pn++XF,s.heap.get? p.1=some p.2/\H p.1=none/\p.1≠X.env.locals/\p.1 ∉ X.fs/\∀v,p.2.data≠.cell v
 hok:Mo X.prog X.w H s.heap
 len:Z.length=X.N.length
section
variable{X:Cx}{XF:ZY}{Z:ZJ}{H H':Hp}{s:Shared}{h':Heap}
theorem Cx.Ok.nofr(ok:X.Ok){b:Addr}{o:Obj}(e:X.base.get? b=some o):b ∉ X.fs:=fun hb=>by
 have:=(ok.funs.mem hb).1;rw[e]at this;cases this
theorem Inv.bs(I:Inv X XF Z H s):∀b o,X.base.get? b=some o->s.heap.get? b=some o/\H b=none:=fun b o e =>
 ⟨I.base.keep b o (I.ok.bs b o e).1 (I.ok.bs b o e).2 (I.ok.nofr e) (I.ok.noex b o e),I.base.free b o (I.ok.bs b o e).1 (I.ok.bs b o e).2 (I.ok.noex b o e)⟩
theorem Inv.bk(I:Inv X XF Z H s):∀b o,X.base.get? b=some o->s.heap.get? b=some o:=fun b o e=>(I.bs b o e).1
theorem Inv.mod(I:Inv X XF Z H s):Mod X.K X.mg X.base:=I.ok.mod
theorem Inv.kIn(I:Inv X XF Z H s):X.K.In s.heap:=I.ok.mod.kin.keeps I.bk
theorem Inv.fr(I:Inv X XF Z H s):∃m,Fr X.base X.env.locals s.heap m :=
 let ⟨m,hn,_⟩:=I.loc
 ⟨m,hn,I.bk,U0 I.ok.bsz I.ok.above⟩
theorem Inv.lt(I:Inv X XF Z H s):X.env.locals<s.heap.objs.size:=let ⟨_,hn,_⟩:=I.loc;hn.lt
theorem Inv.sz(I:Inv X XF Z H s):X.s₀.heap.objs.size<=s.heap.objs.size:=U0 I.ok.above (Nat.le_of_lt I.lt)
theorem Inv.nofs(I:Inv X XF Z H s){a:Addr}(h:s.heap.objs.size<=a):a ∉ X.fs:=fun hb=>by
 obtain⟨_,o,ho,_⟩:=I.ok.funs.mem hb;exact absurd (W6 (Y7 ho) (U0 I.sz h)) (Nat.lt_irrefl _)
theorem Inv.cne(I:Inv X XF Z H s):∀x c,X.env.cells.lookup x=some c->c≠X.env.locals:=fun x c e z=>by
 obtain⟨v,o,ho,hd⟩:=I.cell x c e;obtain⟨m,⟨o',es,ep,Wn,hd',_⟩,_⟩:=I.loc;rw[z,Wn]at ho;cases ho;rw[hd']at hd;cases hd
theorem Inv.funs(I:Inv X XF Z H s):s.heap.FunFrames X.base X.outer:=by
 have all:∀(l:List Env),(∀b∈frs l,b∈X.fs)->X.s₀.heap.FunFrames X.base l->s.heap.FunFrames X.base l:=by
  intro l
  induction l with
  | nil=>intro _ _;trivial
  | cons env r ih =>
   intro hs hl;obtain⟨hk,⟨L,o,hf,hn,ho,hd⟩,hr⟩:=hl;have hL:L∈X.fs:=hs L (by unfold frs;rw[List.filterMap_cons,hf];exact Vt);obtain⟨sl,e⟩:=I.base.slot L o ho (I.ok.frf L hL) hL fun z=>I.ok.exfs L z hL;exact⟨hk,⟨L,_,hf,hn,e,hd⟩,ih (fun b hb=>hs b (by unfold frs;rw[List.filterMap_cons,hf];exact Vf _ hb)) hr⟩
 exact all X.outer (fun _ hb=>hb) I.ok.funs
theorem Inv.stack(I:Inv X XF Z H s):s.heap.FunFrames X.base X.stack:=by
 rcases I.ok.stk with e | ⟨e,hf⟩
 .rw[e];exact I.funs
 .rw[e];obtain⟨m,hn,_⟩:=I.loc;refine .cons (by rw[I.ok.kind];decide) hf hn ?_ I.funs;exact Heap.get?_none_of_le (U0 I.ok.bsz I.ok.above)
theorem Inv.stkSub(I:Inv X XF Z H s):∀b∈frs X.stack,b∈X.env.locals::X.fs:=fun b hb=>by
 rcases I.ok.stk with e | ⟨e,hf⟩
 .rw[e]at hb;exact Vf _ hb
 .rw[e]at hb;unfold frs at hb;rw[List.filterMap_cons,hf]at hb;exact hb
theorem Inv.stkFree(I:Inv X XF Z H s):∀b∈frs X.stack,H b=none:=fun b hb=>by
 rcases Y3.mp (I.stkSub b hb) with e | hb
 .rw[e];exact I.free
 .obtain⟨_,o,ho,_⟩:=I.ok.funs.mem hb;exact I.base.free b o ho (I.ok.frf b hb) fun z=>I.ok.exfs b z hb
theorem Inv.step{g':Array GenState}{t':Nat}{d':Drawn}{ch:ZU}(I:Inv X XF Z H s)
  (p9:∀b∈ch,(b∈X.ex\/X.s₀.heap.objs.size<=b)/\b≠X.env.locals/\(∀x c,X.env.cells.lookup x=some c->c≠b)/\∀p∈X.pn++XF,p.1≠b)
  (keep:∀b o,b≠X.env.locals->b ∉ X.fs->b ∉ ch->s.heap.get? b=some o->H b=none->h'.get? b=some o)
  (slot:∀b o,b≠X.env.locals->b∈X.fs->b ∉ ch->s.heap.get? b=some o->H b=none->∃sl,h'.get? b=some { o with slots:=sl }) (free:∀b o,b ∉ ch->s.heap.get? b=some o->H b=none->H' b=none)
  (there:∀b o,b ∉ ch->s.heap.get? b=some o->∃o',h'.get? b=some o')
  (tups:∀b xs,H b=some (.tup xs)->H' b=some (.tup xs)) (frzs:∀b o u,H b=some (.frz o u)->H' b=some (.frz o u)) (tbls:∀b ps,H b=some (.tbl ps)->∃more,H' b=some (.tbl (ps++more)))
  (ns:∀m,s.heap.Ns X.env.locals m->h'.Ns X.env.locals m) (hok:Mo X.prog X.w H' h') (hg:AllBare g') :
  Inv X XF Z H' { s with heap:=h',gens:=g',drawn:=d',toks:=t' }:=by
 have neL:∀b o,X.s₀.heap.get? b=some o->b≠X.env.locals:=fun b o e=>Gk (W6 (Y7 e) I.ok.above)
 have neC:∀b o,X.s₀.heap.get? b=some o->b ∉ X.ex->b ∉ ch:=fun b o e hx hb=>by
  rcases(p9 b hb).1 with z | z
  .exact hx z
  .exact absurd (W6 (Y7 e) z) (Nat.lt_irrefl _)
 have cellK:∀x c,X.env.cells.lookup x=some c->∀v,s.heap.IsCell c v->h'.IsCell c v:=fun x c e v ⟨o,ho,hd⟩=>by
  have nch:c ∉ ch:=fun z=>(p9 c z).2.2.1 x c e rfl;by_cases hc:c∈X.fs
  .obtain⟨sl,q⟩:=slot c o (I.cne x c e) hc nch ho (I.freeC x c e);exact⟨_,q,hd⟩
  .exact⟨o,keep c o (I.cne x c e) hc nch ho (I.freeC x c e),hd⟩
 refine⟨I.ok,I.os,hg,⟨fun b o e n hb hx=>?_,fun b o e n hb hx=>?_,fun b o e n hx=>?_,fun b o e hx=>?_,fun b xs e=>tups b xs (I.base.tups b xs e),fun b o xs e=>frzs b o xs (I.base.frzs b o xs e),fun b ps e=>?_⟩, ?_,fun x c e=>?_, ?_,fun x c e=>?_,fun p hp=>?_,hok,I.len⟩
 .exact keep b o (neL b o e) hb (neC b o e hx) (I.base.keep b o e n hb hx) (I.base.free b o e n hx)
 .obtain⟨sl,e1⟩:=I.base.slot b o e n hb hx;obtain⟨sl',e2⟩:=slot b _ (neL b o e) hb (neC b o e hx) e1 (I.base.free b o e n hx);exact⟨sl',e2⟩
 .obtain⟨o',e1⟩:=I.base.there b o e hx;exact free b o' (neC b o e hx) e1 (I.base.free b o e n hx)
 .obtain⟨o',e1⟩:=I.base.there b o e hx;exact there b o' (neC b o e hx) e1
 .obtain⟨m1,e1⟩:=I.base.tbls b ps e;obtain⟨m2,e2⟩:=tbls b _ e1;exact⟨m1++m2,by rw[e2,Array.append_assoc]⟩
 .obtain⟨m,hn,hl⟩:=I.loc;refine⟨m,ns m hn,fun i x v e1 e2 e3=>?_⟩;obtain⟨u,r,l⟩:=hl i x v e1 e2 e3;refine⟨u,r, ?_⟩;rcases l with l | ⟨k,c,e,z⟩
  .exact .inl l
  .exact .inr ⟨k,c,e,cellK x c e _ z⟩
 .obtain⟨v,z⟩:=I.cell x c e;exact⟨v,cellK x c e v z⟩
 .obtain⟨m,⟨o,_,_,ho,_⟩,_⟩:=I.loc;exact free _ o (fun z=>(p9 _ z).2.1 rfl) ho I.free
 .obtain⟨v,o,ho,hd⟩:=I.cell x c e;exact free c o (fun z=>(p9 c z).2.2.1 x c e rfl) ho (I.freeC x c e)
 .obtain⟨e,n,ne,nf,d⟩:=I.pin p hp;have nch:p.1 ∉ ch:=fun z=>(p9 p.1 z).2.2.2 p hp rfl;exact⟨keep p.1 p.2 ne nf nch e n,free p.1 p.2 nch e n,ne,nf,d⟩
theorem Inv.un{t':Nat}(I:Inv X XF Z H s)(u:Un X.fs [] H H' s.heap h')(hok:Mo X.prog X.w H' h'):Inv X XF Z H' { s with heap:=h',toks:=t' }:=by
 obtain⟨m,⟨o,es,ep,ho,r⟩,_⟩:=id I.loc;obtain⟨sl,hL⟩:=u.any ho I.free (by simp)
 exact I.step (g':=s.gens) (d':=s.drawn) (ch:=[]) (fun _ z=>nomatch z) (fun b o _ hb _ e n=>u.keep b o e n hb (by simp)) (fun b o _ hb _ e n=>u.slot b o e n hb (by simp)) (fun b o _ e n=>u.free b o e n (by simp)) (fun b o _ e=>u.there b o e (by simp)) u.tups u.frzs u.tbls (fun m' hm=>by
  obtain⟨o',Hm,ep',Wn,r'⟩:=hm;rw[ho]at Wn;cases Wn;exact⟨_,Hm,ep',hL,r'⟩) hok I.bare
theorem Inv.call{g':Array GenState}{t':Nat}{d':Drawn}{ch:ZU}(I:Inv X XF Z H s)(u:Un (frs X.stack) ch H H' s.heap h')(hok:Mo X.prog X.w H' h')(hg:AllBare g')
  (p9:∀b∈ch,(b∈X.ex\/X.s₀.heap.objs.size<=b)/\b≠X.env.locals/\(∀x c,X.env.cells.lookup x=some c->c≠b)/\∀p∈X.pn++XF,p.1≠b) :
  Inv X XF Z H' { s with heap:=h',gens:=g',drawn:=d',toks:=t' }:=by
 obtain⟨m,⟨o,es,ep,ho,r⟩,_⟩:=id I.loc;obtain⟨sl,hL⟩:=u.any ho I.free fun z=>(p9 _ z).2.1 rfl
 exact I.step (ch:=ch) p9 (fun b o hL hb hc e n=>u.keep b o e n (fun z=>(Y3.mp (I.stkSub b z)).elim hL hb) hc) (fun b o _ _ hc e n=>u.any e n hc) (fun b o hc e n=>u.free b o e n hc) (fun b o hc e=>u.there b o e hc) u.tups u.frzs u.tbls (fun m' hm=>by
  obtain⟨o',Hm,ep',Wn,r'⟩:=hm;rw[ho]at Wn;cases Wn;exact⟨_,Hm,ep',hL,r'⟩) hok hg
theorem Inv.turned{t':Nat}{it:Addr}(I:Inv X XF Z H s)(k:∀b o,b≠it->s.heap.get? b=some o->h'.get? b=some o)(hn:H it=none)(hL:it≠X.env.locals)
  (h1:it∈X.ex\/X.s₀.heap.objs.size<=it) (h2:∀x c,X.env.cells.lookup x=some c->c≠it) (h3:∀p∈X.pn++XF,p.1≠it):Inv X XF Z H { s with heap:=h',toks:=t' }:=by
 have nit:∀b u,H b=some u->b≠it:=fun b u e z=>by rw[z,hn]at e;cases e
 refine I.step (g':=s.gens) (d':=s.drawn) (ch:=[it]) (fun b hb=>?_) (fun b o _ _ hc e _=>k b o (fun z=>hc (by simp[z])) e) (fun b o _ _ hc e _=>⟨o.slots,k b o (fun z=>hc (by simp[z])) e⟩) (fun _ _ _ _ n=>n)
  (fun b o hc e=>⟨o,k b o (fun z=>hc (by simp[z])) e⟩) (fun _ _ e=>e) (fun _ _ _ e=>e) (fun b ps e=>⟨#[],by rw[e];simp⟩) (fun m hm=>?_) (fun b u e=>?_) I.bare
 .have e:b=it:=by simpa using hb
  subst e;exact⟨h1,hL,h2,h3⟩
 .obtain⟨o,es,ep,ho,r⟩:=hm;exact⟨o,es,ep,k _ o (Ne.symm hL) ho,r⟩
 .refine(I.hok b u e).stay (fun c v hc q=>k c v ?_ q) (fun _ q=>q) fun _ _ q=>q;rcases hc with z | z
  .rw[z];exact nit b u e
  .exact nit c _ z
theorem Inv.tok(I:Inv X XF Z H s)(t:Nat):Inv X XF Z H { s with toks:=t }:=I.un (h':=s.heap) (t':=t) Un.refl I.hok
theorem Inv.kept{t':Nat}(I:Inv X XF Z H s)(k:∀b u,s.heap.get? b=some u->h'.get? b=some u):Inv X XF Z H { s with heap:=h',toks:=t' }:=I.un (Un.kept k) (I.hok.kept k)
theorem Inv.laid{a:Addr}{o:HO}{t':Nat}(I:Inv X XF Z H s)(k:∀b u,s.heap.get? b=some u->h'.get? b=some u)(hp:s.heap.objs.size<=a)(new:Zp X.prog X.w (upd H a o) h' a o) :
  Inv X XF Z (upd H a o) { s with heap:=h',toks:=t' }:=I.un (Un.laid k hp (I.hok.fresh hp)) (I.hok.laid k hp new)
theorem Inv.write{x e:Addr}{o:HO}{t':Nat}(I:Inv X XF Z H s)(mu:Mut (H x))(he:e=x\/H e=some (.own x))(k:∀b u,b≠e->s.heap.get? b=some u->h'.get? b=some u)(heo:∃u,h'.get? e=some u)
  (new:Zp X.prog X.w (upd H x o) h' x o):Inv X XF Z (upd H x o) { s with heap:=h',toks:=t' }:=I.un (Un.write mu he k heo) (I.hok.write mu he k heo new)
theorem Inv.pins_of{pins':ZY}(I:Inv X XF Z H s)(h:∀p∈pins',s.heap.get? p.1=some p.2/\H p.1=none/\p.1≠X.env.locals/\p.1 ∉ X.fs/\∀v,p.2.data≠.cell v):Inv X pins' Z H s :=
 ⟨I.ok,I.os,I.bare,I.base,I.loc,I.cell,I.free,I.freeC,fun p hp=>(Cb.mp hp).elim (fun z=>I.pin p (List.mem_append_left _ z)) (h p),I.hok,I.len⟩
theorem O2{N:ZD}(hN:N.Nodup){i j:Nat}{x:Str}(a:N[i]?=some x)(b:N[j]?=some x):i=j:=by
 obtain⟨h1,e1⟩:=Bz.mp a;obtain⟨h2,e2⟩:=Bz.mp b;exact(List.getElem_inj hN).mp (e1.trans e2.symm)
theorem Lv{M:Model}{A:Around}{E:ZW}{i:Nat}{x:Str}{v:V}{u:Value}{Q:ZA}(I:Inv X XF Z H s)(hN:X.N.Nodup)(hi:X.N[i]?=some x)(hx:Loc X.env.scope x)(r:RelV v u)
  (h:∀s',Inv X XF (Z.set i (some v)) H s'->(∃a,Heap.SameBut a s.heap s'.heap/\(a=X.env.locals\/X.env.cells.lookup x=some a))->Q () s') (hf:X.fn x=true\/X.env.scope.names.lookup x=some .local:=by first | exact .inl rfl | exact .inr rfl | assumption):wpAny M A (storeName X.env x u) Q E s:=by
 obtain⟨m,hn,hl⟩:=id I.loc;have hcls:(X.env.scope.kind == .class || (X.env.scope.kind == .module && X.env.locals != X.env.globals))=false:=by rw[I.ok.kind];rfl
 have hiσ:i<Z.length:=by rw[I.len];exact(Bz.mp hi).1
 have cne:=I.cne
 have tracked:∀{a:Addr} {h':Heap},(∃o,s.heap.get? a=some o/\H a=none)->Heap.SameBut a s.heap h'->Mo X.prog X.w H h':=fun {a h'} ha hs b ob e=>by
  obtain⟨_,_,Sy⟩:=ha;refine(I.hok b ob e).stay (fun c w' hc q=>(hs.2 c ?_).trans q) (fun _ q=>q) fun _ _ q=>q;rintro rfl;rcases hc with rfl | hc
  .rw[Sy]at e;cases e
  .rw[Sy]at hc;cases hc
 rcases hx with hk | hk
 .refine wpAny_storeName_local hk hn (fun h' hn' hs=>?_) hcls;obtain⟨oL,_,_,hoL,_⟩:=id hn;refine h _ ⟨I.ok,I.os,I.bare,⟨fun b o e n hb hx=>?_,fun b o e n hb hx=>?_,I.base.free,fun b o e hx=>?_,I.base.tups,I.base.frzs,I.base.tbls⟩,⟨_,hn',fun j y v' e1 e2 e3=>?_⟩,fun y c e=>?_,I.free,I.freeC,fun p hp=>?_,tracked ⟨oL,hoL,I.free⟩ hs,by simpa using I.len⟩ ⟨_,hs,.inl rfl⟩
  .exact(hs.2 b (Gk (W6 (Y7 e) I.ok.above))).trans (I.base.keep b o e n hb hx)
  .obtain⟨sl,e1⟩:=I.base.slot b o e n hb hx;exact⟨sl,(hs.2 b (Gk (W6 (Y7 e) I.ok.above))).trans e1⟩
  .obtain⟨o',e1⟩:=I.base.there b o e hx;exact⟨o',(hs.2 b (Gk (W6 (Y7 e) I.ok.above))).trans e1⟩
  .by_cases hj:j=i
   .subst hj;rw[hi]at e1;cases e1;rw[List.getElem?_set_self hiσ]at e2;cases e2;exact⟨u,r,.inl ⟨hk,by simp⟩⟩
   .rw[List.getElem?_set_ne (Ne.symm hj)]at e2;obtain⟨u',r',q⟩:=hl j y v' e1 e2 e3;refine⟨u',r', ?_⟩;rcases q with ⟨k,e⟩ | ⟨k,c,e,z⟩
    .refine .inl ⟨k, ?_⟩;have:y≠x:=fun e=>hj (O2 hN e1 (e ▸ hi));simp[this,e]
    .exact .inr ⟨k,c,e,z.sameBut hs (cne y c e)⟩
  .obtain⟨w',z⟩:=I.cell y c e;exact⟨w',z.sameBut hs (cne y c e)⟩
  .obtain⟨e,n,ne,nf,d⟩:=I.pin p hp;exact⟨(hs.2 p.1 ne).trans e,n,ne,nf,d⟩
 .have hfn:X.fn x=true:=by
   rcases hf with z | z
   .exact z
   .rw[z]at hk;cases hk
  obtain⟨c,hc⟩:=I.ok.has x (.inl hk);obtain⟨w',z⟩:=I.cell x c hc;refine wpAny_storeName_cell I.ok.kind hk hc z (fun h' uz hs=>?_);obtain⟨oc,hoc,hocd⟩:=id z;refine h { s with heap:=h' } ⟨I.ok,I.os,I.bare,⟨fun b o e n hb hx=>?_,fun b o e n hb hx=>?_,I.base.free,fun b o e hx=>?_,I.base.tups,I.base.frzs,I.base.tbls⟩,⟨m,hn.sameBut hs (Ne.symm (cne x c hc)),fun j y v' e1 e2 e3=>?_⟩,fun y c' e=>?_,I.free,I.freeC,fun p hp=>?_,tracked ⟨oc,hoc,I.freeC x c hc⟩ hs,by simpa using I.len⟩ ⟨c,hs,.inr hc⟩
  .exact(hs.2 b (Gk (W6 (Y7 e) (I.ok.cab x c hfn hc)))).trans (I.base.keep b o e n hb hx)
  .obtain⟨sl,e1⟩:=I.base.slot b o e n hb hx;exact⟨sl,(hs.2 b (Gk (W6 (Y7 e) (I.ok.cab x c hfn hc)))).trans e1⟩
  .obtain⟨o',e1⟩:=I.base.there b o e hx;exact⟨o',(hs.2 b (Gk (W6 (Y7 e) (I.ok.cab x c hfn hc)))).trans e1⟩
  .by_cases hj:j=i
   .subst hj;rw[hi]at e1;cases e1;rw[List.getElem?_set_self hiσ]at e2;cases e2;exact⟨u,r,.inr ⟨.inl hk,c,hc,uz⟩⟩
   .rw[List.getElem?_set_ne (Ne.symm hj)]at e2;obtain⟨u',r',q⟩:=hl j y v' e1 e2 e3;refine⟨u',r', ?_⟩;rcases q with q | ⟨k,c',e,z'⟩
    .exact .inl q
    .refine .inr ⟨k,c',e,z'.sameBut hs ?_⟩;rintro rfl;exact hj (O2 hN e1 (I.ok.inj _ _ _ e hc ▸ hi))
  .by_cases hcc:c'=c
   .subst hcc;exact⟨_,uz⟩
   .obtain⟨w2,z2⟩:=I.cell y c' e;exact⟨w2,z2.sameBut hs hcc⟩
  .obtain⟨e,n,ne,nf,d⟩:=I.pin p hp;refine⟨(hs.2 p.1 ?_).trans e,n,ne,nf,d⟩;intro q;rw[q,hoc]at e;have q':oc=p.2:=D3 e;exact d w' (by rw[<-q'];exact hocd)
theorem Oz{M:Model}{A:Around}{E:ZW}{i:Nat}{x:Str}{v:V}{u:Value}{Q:ZA}(I:Inv X XF Z H s)(hN:X.N.Nodup)(hi:X.N[i]?=some x)(hx:Loc X.env.scope x)(r:RelV v u)
  (h:∀s',Inv X XF (Z.set i (some v)) H s'->Q () s') (hf:X.fn x=true\/X.env.scope.names.lookup x=some .local:=by first | exact .inl rfl | exact .inr rfl | assumption):wpAny M A (storeName X.env x u) Q E s :=
 Lv I hN hi hx r (fun s' I' _=>h s' I') hf
theorem Inv.call'{s':Shared}{ch:ZU}(I:Inv X XF Z H s)(ho:s'.os=s.os)(u:Un (frs X.stack) ch H H' s.heap s'.heap)(hok:Mo X.prog X.w H' s'.heap)(hg:AllBare s'.gens)
  (p9:∀b∈ch,(b∈X.ex\/X.s₀.heap.objs.size<=b)/\b≠X.env.locals/\(∀x c,X.env.cells.lookup x=some c->c≠b)/\∀p∈X.pn++XF,p.1≠b):Inv X XF Z H' s':=by
 obtain⟨h',g',d',t',o'⟩:=s';have e:o'=s.os:=ho;subst e;exact I.call (g':=g') (t':=t') (d':=d') u hok hg p9
end
abbrev XK:=Value->ZP->Hp->Prop
abbrev St:=ZJ
abbrev VK:=V->Hp->Prop
abbrev TE:=St->Hp->VK->Prop
abbrev TT:=St->Hp->(Bool->Hp->Prop)->Prop
abbrev TA:=St->Hp->(ZQ->Hp->Prop)->Prop
structure Ends where
 nx:St->Hp->Prop
 rt:VK
 bk:St->Hp->Prop:=fun _ _=>False
 ct:St->Hp->Prop:=fun _ _=>False
abbrev TS:=Ends->St->Hp->Prop
def EP(X:Cx)(XF:ZY)(Z:St)(Q:VK)(u:Value)(s':Shared):Prop:=∃v H',Inv X XF Z H' s'/\RelV v u/\Q v H'
def TP(X:Cx)(XF:ZY)(Z:St)(Q:Bool->Hp->Prop)(b:Bool)(s':Shared):Prop:=∃H',Inv X XF Z H' s'/\Q b H'
def AP(X:Cx)(XF:ZY)(Z:St)(Q:ZQ->Hp->Prop)(us:ZM)(s':Shared):Prop:=∃vs H',Inv X XF Z H' s'/\Zv vs us/\Q vs H'
def SP(X:Cx)(XF:ZY)(D:Ends)(f:Flow)(s':Shared):Prop :=
 match f with
 | .next=>∃σ' H',Inv X XF σ' H' s'/\D.nx σ' H'
 | .brk=>∃σ' H',Inv X XF σ' H' s'/\D.bk σ' H'
 | .cont=>∃σ' H',Inv X XF σ' H' s'/\D.ct σ' H'
 | .ret u=>∃v σ' H',Inv X XF σ' H' s'/\RelV v u/\D.rt v H'
def PE(X:Cx)(e:Expr)(t:TE):Prop :=
 ∀(XF:ZY) (s:Shared) (Z:St) (H:Hp) (Q:VK),Inv X XF Z H s->t Z H Q->wpAny (model X.prog X.w) X.A (eval e X.env) (EP X XF Z Q) X.xe s
def PT(X:Cx)(e:Expr)(t:TT):Prop :=
 ∀(XF:ZY) (s:Shared) (Z:St) (H:Hp) (Q:Bool->Hp->Prop),Inv X XF Z H s->t Z H Q->wpAny (model X.prog X.w) X.A (isTrue e X.env (eval e X.env)) (TP X XF Z Q) X.xe s
def PW(X:Cx)(e:Expr)(t:TT):Prop :=
 ∀(whole:Sem Value) (XF:ZY) (s:Shared) (Z:St) (H:Hp) (Q:Bool->Hp->Prop),Inv X XF Z H s->t Z H Q->wpAny (model X.prog X.w) X.A (isTrue e X.env whole) (TP X XF Z Q) X.xe s
theorem PW.pt{X:Cx}{e:Expr}{t:TT}(h:PW X e t):PT X e t:=h _
def PA(X:Cx)(es:ZC)(t:TA):Prop :=
 ∀(pos:Pos) (XF:ZY) (s:Shared) (Z:St) (H:Hp) (Q:ZQ->Hp->Prop),Inv X XF Z H s->t Z H Q->wpAny (model X.prog X.w) X.A (spliced (backTo pos (starEach es X.env))) (AP X XF Z Q) X.xe s
def PS(X:Cx)(st:Stmt)(t:TS):Prop :=
 ∀(XF:ZY) (s:Shared) (Z:St) (H:Hp) (D:Ends),Inv X XF Z H s->t D Z H->wpAny (model X.prog X.w) X.A (exec st X.env) (SP X XF D) X.xe s
def W5(X:Cx)(st:List Stmt)(t:TS):Prop :=
 ∀(XF:ZY) (s:Shared) (Z:St) (H:Hp) (D:Ends),Inv X XF Z H s->t D Z H->wpAny (model X.prog X.w) X.A (execs st X.env) (SP X XF D) X.xe s
theorem Z9{Z:Type}{t:Sem Z}{Q Q':Z->Shared->Prop}{M:Model}{A:Around}{E:ZW}{s:Shared}(h:wpAny M A t Q E s)(hQ:∀a s,Q a s->Q' a s):wpAny M A t Q' E s:=wpAny_mono h hQ fun _ _ x=>x
section
variable{X:Cx}
inductive ym(i:Nat)(Z:St)(H:Hp)(Q:VK):Prop
 | mk(v)(Y1:Z[i]?=some (some v))(Y0:Q v H):ym i Z H Q
def tVar(i:Nat):TE:=fun Z H Q=>ym i Z H Q
def tC(v:V):TE:=fun _ H Q=>Q v H
theorem pe_var{i:Nat}{x:Str}{pos:Pos}(hN:X.N[i]?=some x)(hv:Vis X.env.scope x)(hd:(x == ("__debug__" : Str))=false:=by decide)(Hy:(x == ("__classdict__" : Str))=false:=by decide):PE X (.Name x pos) (tVar i):=by
 intro XF s Z H Q I h;obtain⟨v,e,h⟩:=h;obtain⟨m,hn,hl⟩:=I.loc;obtain⟨u,r,l⟩:=hl i x v hN e hv;have fin:EP X XF Z Q u s:=⟨v,H,I,r,h⟩;rcases l with ⟨hk,hm⟩ | ⟨hk,c,hc,Sf⟩
 .exact wpAny_Name (wpAny_loadName_local I.ok.kind hk hn hm fin) hd
 .rcases hk with hk | hk
  .exact wpAny_Name (wpAny_loadName_cell I.ok.kind hk hc Sf fin) hd
  .exact wpAny_Name (wpAny_loadName_free I.ok.kind hk hc Sf fin Hy) hd
theorem bu{i j pos}:PE X (.Constant (.int i) j pos) (tC (.int i)):=fun _ _ _ H _ I h=>wpAny_Constant_int ⟨.int i,H,I.tok _,⟨_,rfl⟩,h⟩
theorem pe_bl{b j pos}:PE X (.Constant (.bool b) j pos) (tC (.bl b)):=fun _ _ _ H _ I h=>Constant_bool ⟨.bl b,H,I,rfl,h⟩
theorem pe_non{j pos}:PE X (.Constant .none j pos) (tC .non):=fun _ _ _ H _ I h=>Constant_none ⟨.non,H,I,rfl,h⟩
theorem pe_str{x j pos}:PE X (.Constant (.str x) j pos) (tC (.str x)):=fun _ _ _ H _ I h=>Calls.Constant_str ⟨.str x,H,I.tok _,⟨_,rfl⟩,h⟩
def Gl(X:Cx)(x:Str):Prop:=X.env.kindOf x=some .globalImplicit
theorem Xn{E:ZW}{XF:ZY}{s:Shared}{Z:St}{H:Hp}{x:Str}{u:Value}{pos:Pos}{Q:ZW}(I:Inv X XF Z H s)(hg:Gl X x)(hm:X.mg x=some u)(h:Q u s)
  (hd:(x == ("__debug__" : Str))=false:=by decide):wpAny (model X.prog X.w) X.A (eval (.Name x pos) X.env) Q E s :=
 Calls.Name_function_global I.ok.kind hg (Calls.loadGlobal_global (by rw[I.ok.glob];exact I.mod.glob.keeps I.bk) hm h) hd
theorem Bp{E:ZW}{XF:ZY}{s:Shared}{Z:St}{H:Hp}{x:Str}{u:Value}{pos:Pos}{Q:ZW}(I:Inv X XF Z H s)(hg:Gl X x)(hm:X.mg x=none)(hv:bootBuiltins x=some u)(h:Q u s)
  (hn:x ≠ "__name__" := by decide) (hd:(x == ("__debug__" : Str))=false:=by decide):wpAny (model X.prog X.w) X.A (eval (.Name x pos) X.env) Q E s:=by
 obtain⟨mb,h1,h2⟩:=I.mod.blt;exact Calls.Name_function_global I.ok.kind hg (Calls.loadGlobal_builtin (by rw[I.ok.glob];exact I.mod.glob.keeps I.bk) hm (by rw[I.ok.blt];exact h1.keeps I.bk) ((h2 x hn).trans hv) h) hd
theorem Zzy{x:Str}{v:V}{u:Value}{pos:Pos}(hg:Gl X x)(hm:X.mg x=some u)(r:RelV v u)(hd:(x == ("__debug__" : Str))=false:=by decide):PE X (.Name x pos) (tC v) :=
 fun _ _ _ H _ I h=>Xn I hg hm ⟨v,H,I,r,h⟩ hd
theorem Zzb{x:Str}{v:V}{u:Value}{pos:Pos}(hg:Gl X x)(hm:X.mg x=none)(hv:bootBuiltins x=some u)(r:RelV v u)(hn:x ≠ "__name__" := by decide)(hd:(x == ("__debug__" : Str))=false:=by decide):PE X (.Name x pos) (tC v) :=
 fun _ _ _ H _ I h=>Bp I hg hm hv ⟨v,H,I,r,h⟩ hn hd
variable{a b:Expr}{ta tb:TE}{pos:Pos}
inductive tB_I(Q:(Bool->Hp->Prop))(x:V)(H1:Hp):Prop
 | mk(c)(Y1:x=.bl c)(Y0:Q c H1):tB_I Q x H1
def tB(t:TE):TT:=fun Z H Q=>t Z H fun x H1=>tB_I Q x H1
theorem pt_val{e:Expr}{t:TE}(h:PE X e t)(he:∀whole,isTrue e X.env whole=(do let v <-whole;standAt e.pos;holding [v] (truthy v)):=by intro _;rfl):PT X e (tB t):=by
 intro XF s Z H Q I hw;refine isTrue_plain (Z9 (h XF s Z H _ I hw) fun v s1 ⟨x,H1,I1,r1,q1⟩=>?_) (he _);obtain⟨d,rfl,q⟩:=q1;cases r1;exact wpAny_truthy_bool ⟨H1,I1,q⟩
variable{tA tB':TT}{rest:ZC}
def tAnd(t u:TT):TT:=fun Z H Q=>t Z H fun c H1=>if c=true then u Z H1 Q else Q false H1
def tOr(t u:TT):TT:=fun Z H Q=>t Z H fun c H1=>if c=true then Q true H1 else u Z H1 Q
def tNot(t:TT):TT:=fun Z H Q=>t Z H fun c H1=>Q (!c) H1
theorem pw_and1(ha:PT X a tA):PW X (.BoolOp .And [a] pos) tA:=by
 intro wh XF s Z H Q I h;refine isTrue_and (Z9 (ha XF s Z H Q I h) fun c s1 e=>?_);cases c with
 | true=>exact isTrue_and_nil e
 | false=>exact e
theorem pw_or1(ha:PT X a tA):PW X (.BoolOp .Or [a] pos) tA:=by
 intro wh XF s Z H Q I h;refine isTrue_or (Z9 (ha XF s Z H Q I h) fun c s1 e=>?_);cases c with
 | false=>exact isTrue_or_nil e
 | true=>exact e
theorem pw_and(ha:PT X a tA)(hb:PW X (.BoolOp .And (b::rest) pos) tB'):PW X (.BoolOp .And (a::b::rest) pos) (tAnd tA tB'):=by
 intro wh XF s Z H Q I h;refine isTrue_and (Z9 (ha XF s Z H _ I h) fun c s1 ⟨H1,I1,q1⟩=>?_);cases c with
 | true=>exact hb wh XF s1 Z H1 Q I1 q1
 | false=>exact⟨H1,I1,q1⟩
theorem pw_or(ha:PT X a tA)(hb:PW X (.BoolOp .Or (b::rest) pos) tB'):PW X (.BoolOp .Or (a::b::rest) pos) (tOr tA tB'):=by
 intro wh XF s Z H Q I h;refine isTrue_or (Z9 (ha XF s Z H _ I h) fun c s1 ⟨H1,I1,q1⟩=>?_);cases c with
 | true=>exact⟨H1,I1,q1⟩
 | false=>exact hb wh XF s1 Z H1 Q I1 q1
theorem pt_not(ha:PT X a tA):PT X (.UnaryOp .Not a pos) (tNot tA):=by
 intro XF s Z H Q I h;exact isTrue_not (ha XF s Z H (fun c H1=>Q (!c) H1) I h)
inductive A1(tb:TE)(Z:St)(Q:VK)(x:V)(H1:Hp):Prop
 | mk(c)(Y1:x=.bl c)(Y0:if c=true then tb Z H1 Q else Q (.bl false) H1):A1 tb Z Q x H1
def tAndV(ta tb:TE):TE:=fun Z H Q=>ta Z H fun x H1=>A1 tb Z Q x H1
inductive yn(tb:TE)(Z:St)(Q:VK)(x:V)(H1:Hp):Prop
 | mk(c)(Y1:x=.bl c)(Y0:if c=true then Q (.bl true) H1 else tb Z H1 Q):yn tb Z Q x H1
def tOrV(ta tb:TE):TE:=fun Z H Q=>ta Z H fun x H1=>yn tb Z Q x H1
inductive A0(Q:VK)(x:V)(H1:Hp):Prop
 | mk(c)(Y1:x=.bl c)(Y0:Q (.bl (!c)) H1):A0 Q x H1
def tNotV(ta:TE):TE:=fun Z H Q=>ta Z H fun x H1=>A0 Q x H1
theorem bp{op}{t:TE}(h:PE X a t):PE X (.BoolOp op [a] pos) t:=fun XF s Z H Q I hw=>BoolOp_one (h XF s Z H Q I hw)
theorem pe_and(ha:PE X a ta)(hb:PE X (.BoolOp .And (b::rest) pos) tb):PE X (.BoolOp .And (a::b::rest) pos) (tAndV ta tb):=by
 intro XF s Z H Q I h;refine BoolOp_and (Z9 (ha XF s Z H _ I h) fun v s1 ⟨x,H1,I1,r1,q1⟩=>?_);obtain⟨c,rfl,q1⟩:=q1;cases r1;refine wpAny_truthy_bool ?_;cases c with
 | true=>exact hb XF s1 Z H1 Q I1 q1
 | false=>exact⟨.bl false,H1,I1,rfl,q1⟩
theorem pe_or(ha:PE X a ta)(hb:PE X (.BoolOp .Or (b::rest) pos) tb):PE X (.BoolOp .Or (a::b::rest) pos) (tOrV ta tb):=by
 intro XF s Z H Q I h;refine BoolOp_or (Z9 (ha XF s Z H _ I h) fun v s1 ⟨x,H1,I1,r1,q1⟩=>?_);obtain⟨c,rfl,q1⟩:=q1;cases r1;refine wpAny_truthy_bool ?_;cases c with
 | false=>exact hb XF s1 Z H1 Q I1 q1
 | true=>exact⟨.bl true,H1,I1,rfl,q1⟩
theorem pe_not(ha:PE X a ta):PE X (.UnaryOp .Not a pos) (tNotV ta):=by
 intro XF s Z H Q I h;refine UnaryOp_ (Z9 (ha XF s Z H _ I h) fun v s1 ⟨x,H1,I1,r1,q1⟩=>?_);obtain⟨c,rfl,q1⟩:=q1;cases r1;exact not_of (wpAny_truthy_bool ⟨.bl (!c),H1,I1,rfl,q1⟩)
def tIf(t:TT)(ta tb:TE):TE:=fun Z H Q=>t Z H fun c H1=>if c=true then ta Z H1 Q else tb Z H1 Q
theorem ba{c:Expr}(hc:PT X c tA)(ha:PE X a ta)(hb:PE X b tb):PE X (.IfExp c a b pos) (tIf tA ta tb):=by
 intro XF s Z H Q I h;refine wpAny_IfExp (Z9 (hc XF s Z H _ I h) fun d s1 ⟨H1,I1,q1⟩=>?_);cases d with
 | true=>exact ha XF s1 Z H1 Q I1 q1
 | false=>exact hb XF s1 Z H1 Q I1 q1
end
def Vi(K:W.Frag)(H:Hp)(a:Addr)(xs:ZQ):Prop :=
 Rd H a (.lst xs) \/
  ∃(o:Obj) (XM:ZN) (n:Nat),K.lookup a=some o/\o.cls=.type "list" /\ o.dict=none/\o.data=.seq XM n/\XM.size<=sizeLine/\Zv xs XM.toList
def Yu(K:W.Frag)(H:Hp)(a:Addr)(xs:ZQ):Prop :=
 Rd H a (.tup xs) \/
  ∃(o:Obj) (XM:ZN) (n:Nat),K.lookup a=some o/\o.cls=.type "tuple" /\ o.dict=none/\o.data=.seq XM n/\XM.size<=sizeLine/\Zv xs XM.toList
noncomputable def absV:Value->Option V
 | .none=>some .non
 | .bool b=>some (.bl b)
 | .int i _=>some (.int i)
 | .str x _=>some (.str x)
 | .bytes b _=>some (.byt b)
 | .float b _=>some (.flt b)
 | .ref a=>some (.ref a)
 | .type n=>some (.ty n)
 | _=>none
theorem RelV.abs{x:V}{u:Value}(r:RelV x u):absV u=some x:=by
 cases x with
 | non=>cases r;rfl
 | bl _=>cases r;rfl
 | int _=>obtain⟨t,rfl⟩:=r;rfl
 | str _=>obtain⟨t,rfl⟩:=r;rfl
 | byt _=>obtain⟨t,rfl⟩:=r;rfl
 | flt _=>obtain⟨t,rfl⟩:=r;rfl
 | ref _=>cases r;rfl
 | ty _=>cases r;rfl
theorem RelV.inj{x y:V}{u:Value}(r:RelV x u)(q:RelV y u):x=y:=D3 (r.abs.symm.trans q.abs)
theorem Zv.inj:∀{xs ys:ZQ} {us:ZM},Zv xs us->Zv ys us->xs=ys
 | _,_,_,.nil,.nil=>rfl
 | _,_,_,.cons r t,.cons r' t'=>by rw[r.inj r',Zv.inj t t']
section
variable{X:Cx}{XF:ZY}{Z:St}{H:Hp}{s:Shared}{a:Addr}{xs ys:ZQ}
theorem Vi.of{K:W.Frag}(h:H a=some (.lst xs)):Vi K H a xs:=.inl (.inl h)
theorem Yu.of{K:W.Frag}(h:H a=some (.tup xs)):Yu K H a xs:=.inl (.inl h)
theorem Inv.list(I:Inv X XF Z H s)(h:Vi X.K H a xs):∃XM:ZM,Zv xs XM/\PlainL s.heap a XM.toArray/\xs.length<=sizeLine:=by
 rcases h with h | ⟨o,XM,n,hk,hc,hd,hs,hz,r⟩
 .obtain⟨z,XM,n,r,e⟩:=h.ok I.hok;exact⟨XM,r,⟨_,n,e,rfl,rfl,rfl⟩,z⟩
 .refine⟨XM.toList,r,⟨o,n,I.kIn a o hk,hc,hd,by simpa using hs⟩, ?_⟩;have e:=r.length;simp only[W8]at e;omega
theorem Inv.tuple(I:Inv X XF Z H s)(h:Yu X.K H a xs):∃XM:ZM,Zv xs XM/\IsTup s.heap a XM.toArray/\xs.length<=sizeLine:=by
 rcases h with h | ⟨o,XM,n,hk,hc,hd,hs,hz,r⟩
 .obtain⟨z,XM,r,p⟩:=h.ok I.hok;exact⟨XM,r,p.tup,z⟩
 .refine⟨XM.toList,r,⟨o,I.kIn a o hk,hc,n,by simpa using hs⟩, ?_⟩;have e:=r.length;simp only[W8]at e;omega
theorem Inv.list_inj(I:Inv X XF Z H s)(h:Vi X.K H a xs)(h':Vi X.K H a ys):xs=ys:=by
 obtain⟨XM,r,⟨o,n,e,_,_,d⟩,_⟩:=I.list h;obtain⟨its',r',⟨o',n',e',_,_,d'⟩,_⟩:=I.list h';rw[e]at e';cases e';rw[d]at d'
 injection d' with d1 _
 have:XM=its':=by simpa using congrArg Array.toList d1
 subst this;exact r.inj r'
theorem Inv.tuple_inj(I:Inv X XF Z H s)(h:Yu X.K H a xs)(h':Yu X.K H a ys):xs=ys:=by
 obtain⟨XM,r,⟨o,e,_,n,d⟩,_⟩:=I.tuple h;obtain⟨its',r',⟨o',e',_,n',d'⟩,_⟩:=I.tuple h';rw[e]at e';cases e';rw[d]at d'
 injection d' with d1 _
 have:XM=its':=by simpa using congrArg Array.toList d1
 subst this;exact r.inj r'
end
noncomputable abbrev Cx.wish(X:Cx)(E:ZW):Cx:={ X with xe:=E }
noncomputable abbrev Cx.nox(X:Cx):Cx:=X.wish fun _ _=>False
theorem Cx.Ok.wish{X:Cx}(ok:X.Ok)(E:ZW):(X.wish E).Ok :=
 ⟨ok.mod,ok.kind,ok.glob,ok.blt,ok.above,ok.inj,ok.has,ok.cab,ok.hd,ok.frames,ok.stk,ok.exf,ok.bs,ok.bsz,ok.noex,ok.exfs,ok.funs,ok.frf⟩
theorem Cx.Ok.unwish{X:Cx}{E:ZW}(ok:(X.wish E).Ok):X.Ok :=
 ⟨ok.mod,ok.kind,ok.glob,ok.blt,ok.above,ok.inj,ok.has,ok.cab,ok.hd,ok.frames,ok.stk,ok.exf,ok.bs,ok.bsz,ok.noex,ok.exfs,ok.funs,ok.frf⟩
section
variable{X:Cx}{XF:ZY}{Z:St}{H:Hp}{s:Shared}{E:ZW}
theorem Inv.wish(I:Inv X XF Z H s)(E:ZW):Inv (X.wish E) XF Z H s:=⟨I.ok.wish E,I.os,I.bare,I.base,I.loc,I.cell,I.free,I.freeC,I.pin,I.hok,I.len⟩
theorem Inv.unwish(I:Inv (X.wish E) XF Z H s):Inv X XF Z H s:=⟨I.ok.unwish,I.os,I.bare,I.base,I.loc,I.cell,I.free,I.freeC,I.pin,I.hok,I.len⟩
theorem SP.unwish{D:Ends}{f:Flow}{s':Shared}(h:SP (X.wish E) XF D f s'):SP X XF D f s':=by
 cases f with
 | next=>obtain⟨σ',H',I,q⟩:=h;exact⟨σ',H',I.unwish,q⟩
 | brk=>obtain⟨σ',H',I,q⟩:=h;exact⟨σ',H',I.unwish,q⟩
 | cont=>obtain⟨σ',H',I,q⟩:=h;exact⟨σ',H',I.unwish,q⟩
 | ret u=>obtain⟨v,σ',H',I,r,q⟩:=h;exact⟨v,σ',H',I.unwish,r,q⟩
theorem W5.nox{st:List Stmt}{t:TS}(h:W5 X.nox st t):W5 X st t:=fun XF s Z H D I hw =>
 wpAny_mono (h XF s Z H D (I.wish _) hw) (fun _ _ q=>q.unwish) fun _ _ z=>False.elim z
end
section
variable{X:Cx}{st:Stmt}{rest:List Stmt}{t u:TS}{e:Expr}{te:TE}{pos:Pos}
def Zqi:TS:=fun D Z H=>D.nx Z H
def tSeq(t u:TS):TS:=fun D Z H=>t { D with nx:=u D } Z H
theorem i9:W5 X [] Zqi:=fun _ _ Z H _ I h=>wpAny_execs_nil ⟨Z,H,I,h⟩
theorem fe(h1:PS X st t)(h2:W5 X rest u):W5 X (st::rest) (tSeq t u):=by
 intro XF s Z H D I h;refine wpAny_execs_cons (Z9 (h1 XF s Z H { D with nx:=u D } I h) fun f s1 q=>?_);cases f with
 | next =>
  obtain⟨σ',H',I',q⟩:=q;exact h2 XF s1 σ' H' D I' q
 | ret v=>exact q
 | brk=>exact q
 | cont=>exact q
def tBreak:TS:=fun D Z H=>D.bk Z H
def tCont:TS:=fun D Z H=>D.ct Z H
theorem eg:PS X (.Pass pos) Zqi:=fun _ _ Z H _ I h=>wpAny_Pass ⟨Z,H,I,h⟩
theorem bx:PS X (.Break pos) tBreak:=fun _ _ Z H _ I h=>wpAny_Break ⟨Z,H,I,h⟩
theorem Ou:PS X (.Continue pos) tCont:=fun _ _ Z H _ I h=>wpAny_Continue ⟨Z,H,I,h⟩
theorem Inv.quiet{XF:ZY}{Z:St}{H:Hp}{s:Shared}(I:Inv X XF Z H s):interactive X.env=false:=by simp[interactive,I.ok.kind]
def tDrop(te:TE):TS:=fun D Z H=>te Z H fun _ H1=>D.nx Z H1
theorem ed(he:PE X e te)(hs:swapsWith e none pos.line X.env=pure false:=by rfl):PS X (.Expr e pos) (tDrop te):=by
 intro XF s Z H D I h;exact wpAny_Expr_any (Z9 (he XF s Z H _ I h) fun v s1 ⟨x,H1,I1,r1,q1⟩=>⟨Z,H1,I1,q1⟩) I.quiet hs
def tRet(te:TE):TS:=fun D Z H=>te Z H D.rt
theorem ps_ret(he:PE X e te):PS X (.Return (some e) pos) (tRet te):=by
 intro XF s Z H D I h;exact wpAny_Return_some (Z9 (he XF s Z H _ I h) fun v s1 ⟨x,H1,I1,r1,q1⟩=>⟨x,Z,H1,I1,r1,q1⟩)
def tRetN:TS:=fun D _ H=>D.rt .non H
theorem ej:PS X (.Return none pos) tRetN:=fun _ _ Z H _ I h=>wpAny_Return_none ⟨.non,Z,H,I,rfl,h⟩
def tIfS(c:TT)(t u:TS):TS:=fun D Z H=>c Z H fun b H1=>if b=true then t D Z H1 else u D Z H1
theorem ps_if{c:Expr}{a b:List Stmt}{tc:TT}(hc:PT X c tc)(ha:W5 X a t)(hb:W5 X b u):PS X (.If c a b pos) (tIfS tc t u):=by
 intro XF s Z H D I h;refine wpAny_If (Z9 (hc XF s Z H _ I h) fun d s1 ⟨H1,I1,q1⟩=>?_);cases d with
 | true=>exact ha XF s1 Z H1 D I1 q1
 | false=>exact hb XF s1 Z H1 D I1 q1
end
abbrev TG:=V->St->Hp->(St->Hp->Prop)->Prop
abbrev ux:=ZQ->St->Hp->(St->Hp->Prop)->Prop
def PG(X:Cx)(target:Expr)(t:TG):Prop :=
 ∀(XF:ZY) (s:Shared) (Z:St) (H:Hp) (v:V) (u:Value) (Q:St->Hp->Prop),Inv X XF Z H s->RelV v u->t v Z H Q ->
  wpAny (model X.prog X.w) X.A (assign target X.env u) (fun _ s'=>∃σ' H',Inv X XF σ' H' s'/\Q σ' H') X.xe s
def PGs(X:Cx)(ts:ZC)(t:ux):Prop :=
 ∀(XF:ZY) (s:Shared) (Z:St) (H:Hp) (vs:ZQ) (us:ZM) (Q:St->Hp->Prop),Inv X XF Z H s->Zv vs us->t vs Z H Q ->
  wpAny (model X.prog X.w) X.A (assignInOrder ((assignEach ts X.env).map (·.2)) us) (fun _ s'=>∃σ' H',Inv X XF σ' H' s'/\Q σ' H') X.xe s
abbrev TSet:=V->V->V->Hp->(Hp->Prop)->Prop
def PSet(X:Cx)(t:TSet):Prop :=
 ∀(XF:ZY) (s:Shared) (Z:St) (H:Hp) (o i v:V) (ov iv u:Value) (Q:Hp->Prop),Inv X XF Z H s->RelV o ov->RelV i iv->RelV v u->t o i v H Q ->
  wpAny (model X.prog X.w) X.A (setItem ov iv u) (fun _ s'=>∃H',Inv X XF Z H' s'/\Q H') X.xe s
section
variable{X:Cx}{pos:Pos}
def ng(i:Nat):TG:=fun v Z H Q=>Q (Z.set i (some v)) H
theorem Zzw{i:Nat}{x:Str}(hN:X.N.Nodup)(hi:X.N[i]?=some x)(hx:Loc X.env.scope x)(hf:X.fn x=true\/X.env.scope.names.lookup x=some .local:=by first | exact .inl rfl | exact .inr rfl | assumption):PG X (.Name x pos) (ng i):=by
 intro XF s Z H v u Q I r h;exact wpAny_assign_Name (Oz I hN hi hx r (fun s' I'=>⟨_,H,I',h⟩) hf)
def gNil:ux:=fun vs Z H Q=>vs=[]/\Q Z H
inductive X2(t:TG)(u:ux)(vs:ZQ)(Z:St)(H:Hp)(Q:(St->Hp->Prop)):Prop
 | mk(v r)(Y1:vs=v::r)(Y0:t v Z H fun σ' H'=>u r σ' H' Q):X2 t u vs Z H Q
def gCons(t:TG)(u:ux):ux:=fun vs Z H Q=>X2 t u vs Z H Q
theorem Zzj:PGs X [] gNil:=by
 intro XF s Z H vs us Q I r h;obtain⟨e,h⟩:=h;subst e;cases r;exact assignInOrder_nil ⟨Z,H,I,h⟩
theorem bh{e:Expr}{es:ZC}{t:TG}{u:ux}(h1:PG X e t)(h2:PGs X es u)
  (hs:(assignEach (e::es) X.env).map (·.2)=assign e X.env::(assignEach es X.env).map (·.2):=by rfl):PGs X (e::es) (gCons t u):=by
 intro XF s Z H vs us Q I r h;obtain⟨v,vr,e1,h⟩:=h;subst e1;cases r with
 | cons r rr =>
  rw[hs];refine assignInOrder_cons (Z9 (h1 XF s Z H _ _ _ I r h) fun _ s1 ⟨σ1,H1,I1,q1⟩=>?_);exact h2 XF s1 σ1 H1 _ _ Q I1 rr q1
inductive nv(K:W.Frag)(n:Nat)(t:ux)(v:V)(Z:St)(H:Hp)(Q:(St->Hp->Prop)):Prop
 | mk(a xs)(Y1:v=.ref a)(Y0:Yu K H a xs)(V7:xs.length=n)(Wr:t xs Z H Q):nv K n t v Z H Q
def gTup(K:W.Frag)(n:Nat)(t:ux):TG:=fun v Z H Q=>nv K n t v Z H Q
theorem pg_tup{es:ZC}{k:Nat}{t:ux}{n:Nat}(hc:X.calm=true)(h:PGs X es t)
  (hn:(assignEach es X.env).length=n:=by rfl) (Bo:(assignEach es X.env).findIdx? (·.1)=none:=by rfl):PG X (.Tuple es k pos) (gTup X.K n t):=by
 intro XF s Z H v u Q I r hw;obtain⟨a,xs,e1,hq,hl,hw⟩:=hw;subst e1;cases r;obtain⟨XM,rv,ht,hz⟩:=I.tuple hq;refine assign_Tuple_tuple (I.ok.hd hc) ht (by simp[hn, <-hl,rv.length]) Bo fun h' hx=>?_;have I1:Inv X XF Z H { s with heap:=h' }:=I.kept (t':=s.toks) fun b o e=>hx b o (Gk (Y7 e)) e;exact h XF _ Z H xs _ Q I1 (by simpa using rv) hw
def gSub(to ti:TE)(t:TSet):TG:=fun v Z H Q=>to Z H fun o H1=>ti Z H1 fun i H2=>t o i v H2 fun H3=>Q Z H3
theorem pg_sub{o i:Expr}{to ti:TE}{t:TSet}(ho:PE X o to)(hi:PE X i ti)(hs:PSet X t)
  (ha:∀v,assign (.Subscript o i pos) X.env v=(do
   let ov <-holding [v] (eval o X.env)
   let iv <-holding [v,ov] (eval i X.env)
   standAt pos
   holding [v,ov,iv] (setItem ov iv v)
   release [v,ov,iv] []):=by intro _;rfl):PG X (.Subscript o i pos) (gSub to ti t):=by
 intro XF s Z H v u Q I r h;rw[ha];refine Zx (wpAny_holding (Z9 (ho XF s Z H _ I h) fun ov s1 ⟨x,H1,I1,r1,q1⟩=>?_));refine Zx (wpAny_holding (Z9 (hi XF s1 Z H1 _ I1 q1) fun iv s2 ⟨y,H2,I2,r2,q2⟩=>?_));refine Zx (wpAny_standAt (Zx (wpAny_holding (Z9 (hs XF s2 Z H2 x y v ov iv u _ I2 r1 r2 r q2) fun _ s3 ⟨H3,I3,q3⟩=>?_))));exact wpAny_release ⟨Z,H3,I3,q3⟩
def tAsg(te:TE)(g:TG):TS:=fun D Z H=>te Z H fun x H1=>g x Z H1 D.nx
theorem bj{tg e:Expr}{te:TE}{g:TG}(he:PE X e te)(hg:PG X tg g)(hs:swapsWithSole [tg] e pos.line X.env=pure false:=by rfl)(hw:swappedStores [tg] e X.env=pure none:=by rfl)
  (h1:(assignEach [tg] X.env).map (·.2)=[assign tg X.env]:=by rfl):PS X (.Assign [tg] e pos) (tAsg te g):=by
 intro XF s Z H D I h;refine wpAny_Assign_stores (Z9 (he XF s Z H _ I h) fun v s1 ⟨x,H1,I1,r1,q1⟩=>?_) hs hw;rw[h1];exact Z9 (hg XF s1 Z H1 x v _ I1 r1 q1) fun _ s2 q=>q
theorem ps_set{i:Nat}{x:Str}{e:Expr}{te:TE}{pos':Pos}(hN:X.N.Nodup)(hi:X.N[i]?=some x)(hx:Loc X.env.scope x)(he:PE X e te)(hs:swapsWith e (some (.Name x pos')) pos.line X.env=pure false:=by rfl)(hf:X.fn x=true\/X.env.scope.names.lookup x=some .local:=by first | exact .inl rfl | exact .inr rfl | assumption) :
  PS X (.Assign [.Name x pos'] e pos) (tAsg te (ng i)):=by
 intro XF s Z H D I h;refine wpAny_Assign_Name (Z9 (he XF s Z H _ I h) fun v s1 ⟨y,H1,I1,r1,q1⟩=>?_) hs;exact Oz I1 hN hi hx r1 (fun s2 I2=>⟨_,H1,I2,q1⟩) hf
end
section
variable{X:Cx}{pos:Pos}
def tWhile(c:TT)(tb:TS):TS:=fun D Z H=>∃W:Nat->St->Hp->Prop,(∃m,W m Z H)/\∀m Z H,W m Z H ->
 c Z H fun b H1=>if b=true then ∃N:St->Hp->Prop,(∀σ' H',N σ' H'->∃m',m'<m/\W m' σ' H')/\tb { D with nx:=N,ct:=N,bk:=D.nx } Z H1 else D.nx Z H1
theorem bz{c:Expr}{body:List Stmt}{tc:TT}{tb:TS}(hp:PassesOwn (model X.prog X.w) X.A X.env X.xe)(hc:PT X c tc)(hb:W5 X body tb):PS X (.While c body [] pos) (tWhile tc tb):=by
 intro XF s Z H D I h;obtain⟨W,⟨m0,w0⟩,turn⟩:=h;refine wpAny_While (codeAny_whileLoop (fun n s'=>∃σ' H',Inv X XF σ' H' s'/\W n σ' H') ?_ m0 ⟨Z,H,I,w0⟩);rintro n s1 ⟨σ1,H1,I1,w1⟩;refine wpAny_passesOwn hp (Z9 (hc XF s1 σ1 H1 _ I1 (turn n σ1 H1 w1)) fun b s2 ⟨H2,I2,q2⟩=>?_);cases b with
 | true =>
  obtain⟨N,hN,q2⟩:=q2;rw[if_pos rfl];refine wpAny_passesOwn hp (Z9 (hb XF s2 σ1 H2 _ I2 q2) fun f s3 q3=>?_);cases f with
  | next =>
   obtain⟨σ3,H3,I3,n3⟩:=q3;obtain⟨m',hm,w3⟩:=hN σ3 H3 n3;exact⟨m',hm,σ3,H3,I3,w3⟩
  | cont =>
   obtain⟨σ3,H3,I3,n3⟩:=q3;obtain⟨m',hm,w3⟩:=hN σ3 H3 n3;exact⟨m',hm,σ3,H3,I3,w3⟩
  | brk=>exact q3
  | ret v=>exact q3
 | false =>
  rw[if_neg Ti];exact wpAny_execs_nil ⟨σ1,H2,I2,q2⟩
end
structure It where
 go:Nat->Hp->Prop
 yld:Nat->Hp->V->Hp->Prop
 stop:Nat->Hp->Prop
def Bx(X:Cx)(XF:ZY)(H:Hp)(b:Addr):Prop :=
 H b=none/\b≠X.env.locals/\b ∉ X.fs/\(b∈X.ex\/X.s₀.heap.objs.size<=b)/\(∀x c,X.env.cells.lookup x=some c->c≠b)/\∀p∈X.pn++XF,p.1≠b
theorem Inv.fpOk{X:Cx}{XF:ZY}{Z:St}{H H':Hp}{s:Shared}{b:Addr}(I:Inv X XF Z H s)(hb:s.heap.objs.size<=b)(hn:H' b=none):Bx X XF H' b:=by
 refine⟨hn,Nat.ne_of_gt (W6 I.lt hb),I.nofs hb,.inr (U0 I.sz hb),fun x c e z=>?_,fun p hp z=>?_⟩
 .obtain⟨v,q⟩:=I.cell x c e;exact absurd (W6 q.lt (by rw[z];exact hb)) (Nat.lt_irrefl _)
 .exact absurd (W6 (Y7 (I.pin p hp).1) (by rw[z];exact hb)) (Nat.lt_irrefl _)
structure Turn(P:Program)(w:World)(K:W.Frag)(tg:Expr)(J:It)(fp:ZU)(it:Addr)(tn:Nat->Heap->Prop):Prop where
 mem:it∈fp
 obj:∀i h,tn i h->∀b∈fp,∃o,h.get? b=some o/\∀v,o.data≠.cell v
 keep:∀i h h',tn i h->(∀b∈fp,∀o,h.get? b=some o->h'.get? b=some o)->tn i h'
 item:∀(X:Cx),X.prog=P->X.w=w->X.K=K->X.calm=true->∀(i:Nat) (XF:ZY) (s:Shared) (Z:St) (H:Hp) (E:ZW),Inv X XF Z H s->(∀b∈fp,Bx X XF H b)->tn i s.heap->J.go i H ->
  wpAny (model P w) X.A (pyNext (.ref it)) (fun r s1=>∃u,r=some u /\
   wpAny (model P w) X.A (letOwnedTupleGo tg (.ref it) u) (fun _ s2=>∃x H',Inv X XF Z H' s2/\RelV x u/\J.yld i H x H'/\tn (i+1) s2.heap/\∀b∈fp,H' b=none) E s1) E s
 done:∀(X:Cx),X.prog=P->X.w=w->X.K=K->X.calm=true->∀(i:Nat) (XF:ZY) (s:Shared) (Z:St) (H:Hp) (E:ZW),Inv X XF Z H s->(∀b∈fp,Bx X XF H b)->tn i s.heap->J.stop i H ->
  wpAny (model P w) X.A (pyNext (.ref it)) (fun r s1=>r=none/\Inv X XF Z H s1) E s
 self:∀(A:Around) (i:Nat) (s:Shared) (Q:ZW) (E:ZW),tn i s.heap->Q (.ref it) s->wpAny (model P w) A (pyIter (.ref it)) Q E s
abbrev TI:=St->Hp->(It->Hp->Prop)->Prop
def PIE(X:Cx)(XF:ZY)(Z:St)(tg:Expr)(R:It->Hp->Prop)(itv:Value)(s2:Shared):Prop :=
 ∃(it:Addr) (fp:ZU) (tn:Nat->Heap->Prop) (J:It) (H':Hp),itv=.ref it/\Inv X XF Z H' s2/\Turn X.prog X.w X.K tg J fp it tn/\tn 0 s2.heap/\(∀b∈fp,Bx X XF H' b)/\R J H'
def PI(X:Cx)(tg iter:Expr)(wi:TI):Prop :=
 ∀(XF:ZY) (s:Shared) (Z:St) (H:Hp) (R:It->Hp->Prop),Inv X XF Z H s->wi Z H R ->
  wpAny (model X.prog X.w) X.A (eval iter X.env) (fun v s1=>wpAny (model X.prog X.w) X.A (pyIter v) (PIE X XF Z tg R) X.xe s1) X.xe s
theorem Sm{M:Model}{A:Around}{E:ZW}{s:Shared}{tg:Expr}{it:Addr}{u:Value}{o:Obj}{n:String}{vs:ZN}{Q:ZA}(ho:s.heap.get? it=some o)(hc:o.cls=.type n)(hd:o.data=.fields vs)
    (hn:["enumerate","zip","dict_itemiterator","dict_reverseitemiterator","odict_iterator","itertools.zip_longest","itertools.pairwise"].contains n=false) (hQ:Q () s):wpAny M A (letOwnedTupleGo tg (.ref it) u) Q E s:=by
  unfold letOwnedTupleGo
  cases tg<;>first
    | exact Zf hQ
    | (cases u<;>first
        | exact Zf hQ
        | (refine Zx (wpAny_load ho ?_)
           rw[hc,hd];show wpAny M A (if (["enumerate","zip","dict_itemiterator","dict_reverseitemiterator","odict_iterator","itertools.zip_longest","itertools.pairwise"].contains n && vs[0]? == some (rawInt _))=true then _ else _) Q E s;rw[if_neg (by intro h;rw[hn,B0x]at h;cases h)];exact Zf hQ))
def Itl(K:W.Frag)(a:Addr):It :=
 ⟨fun i H=>∃xs x,Vi K H a xs/\xs[i]?=some x,fun i H x H'=>H'=H/\∀xs,Vi K H a xs->xs[i]?=some x,fun i H=>∃xs,Vi K H a xs/\xs.length<=i⟩
def Itt(K:W.Frag)(a:Addr):It :=
 ⟨fun i H=>∃xs x,Yu K H a xs/\xs[i]?=some x,fun i H x H'=>H'=H/\∀xs,Yu K H a xs->xs[i]?=some x,fun i H=>∃xs,Yu K H a xs/\xs.length<=i⟩
def Itr(lo:Int)(n:Nat):It:=⟨fun i _=>i<n,fun i H x H'=>H'=H/\x=.int (lo+i),fun i _=>n<=i⟩
theorem z8{P:Program}{w:World}{K:W.Frag}{tg:Expr}(a it:Addr):Turn P w K tg (Itl K a) [it] it (fun i h=>h.IsListIter it a i) where
 mem:=by simp
 obj:=fun i h st b hb=>by
  have e:b=it:=by simpa using hb
  subst e;obtain⟨o,e,c,d⟩:=st;exact⟨o,e,fun v z=>by rw[d]at z;cases z⟩
 keep:=fun i h h' st k=>st.at fun o e=>k it (by simp) o e
 item:=by
  intro X hP hw hK hc i XF s Z H E I hf st hg;subst hP hw hK;obtain⟨xs,x,hq,hx⟩:=hg;obtain⟨XM,rv,p,hz⟩:=I.list hq;obtain⟨u,hu,ru⟩:=rv.get hx;obtain⟨f0,f1,f2,f3,f4,f5⟩:=hf it (by simp);refine wpAny_pyNext_list_item st p.isList (x:=u) (by simpa using hu) fun h' E2 sb=>?_;have I1:Inv X XF Z H { s with heap:=h' }:=I.turned (t':=s.toks) (fun b o hb e=>(sb.2 b hb).trans e) f0 f1 f3 f4 f5;obtain⟨o,e,c,d⟩:=id E2;exact⟨u,rfl,Sm (s:={ s with heap:=h' }) e c d (by decide) ⟨x,H,I1,ru,⟨rfl,fun ys hy=>by rw[I.list_inj hy hq];exact hx⟩,E2,fun b hb=>(hf b hb).1⟩⟩
 done:=by
  intro X hP hw hK hc i XF s Z H E I hf st hg;subst hP hw hK;obtain⟨xs,hq,hx⟩:=hg;obtain⟨XM,rv,p,hz⟩:=I.list hq;obtain⟨f0,f1,f2,f3,f4,f5⟩:=hf it (by simp);have hl:=rv.length;exact wpAny_pyNext_list_end (I.ok.hd hc) st p.isList (by simp;omega) fun h' eb=>⟨rfl,I.turned (t':=s.toks) (fun b o hb e=>eb b o hb e) f0 f1 f3 f4 f5⟩
 self:=fun _ _ _ _ _ st h=>wpAny_pyIter_listiter st h
theorem Kk{P:Program}{w:World}{K:W.Frag}{tg:Expr}(a it:Addr):Turn P w K tg (Itt K a) [it] it (fun i h=>h.IsTupleIter it a i) where
 mem:=by simp
 obj:=fun i h st b hb=>by
  have e:b=it:=by simpa using hb
  subst e;obtain⟨o,e,c,d⟩:=st;exact⟨o,e,fun v z=>by rw[d]at z;cases z⟩
 keep:=fun i h h' st k=>st.at fun o e=>k it (by simp) o e
 item:=by
  intro X hP hw hK hc i XF s Z H E I hf st hg;subst hP hw hK;obtain⟨xs,x,hq,hx⟩:=hg;obtain⟨XM,rv,p,hz⟩:=I.tuple hq;obtain⟨u,hu,ru⟩:=rv.get hx;obtain⟨f0,f1,f2,f3,f4,f5⟩:=hf it (by simp);refine wpAny_pyNext_tuple_item st (show s.heap.IsTuple a XM.toArray from p) (x:=u) (by simpa using hu) fun h' E2 sb=>?_;have I1:Inv X XF Z H { s with heap:=h' }:=I.turned (t':=s.toks) (fun b o hb e=>(sb.2 b hb).trans e) f0 f1 f3 f4 f5;obtain⟨o,e,c,d⟩:=id E2;exact⟨u,rfl,Sm (s:={ s with heap:=h' }) e c d (by decide) ⟨x,H,I1,ru,⟨rfl,fun ys hy=>by rw[I.tuple_inj hy hq];exact hx⟩,E2,fun b hb=>(hf b hb).1⟩⟩
 done:=by
  intro X hP hw hK hc i XF s Z H E I hf st hg;subst hP hw hK;obtain⟨xs,hq,hx⟩:=hg;obtain⟨XM,rv,p,hz⟩:=I.tuple hq;obtain⟨f0,f1,f2,f3,f4,f5⟩:=hf it (by simp);have hl:=rv.length;exact wpAny_pyNext_tuple_end (I.ok.hd hc) st (show s.heap.IsTuple a XM.toArray from p) (by simp;omega) fun h' eb=>⟨rfl,I.turned (t':=s.toks) (fun b o hb e=>eb b o hb e) f0 f1 f3 f4 f5⟩
 self:=fun _ _ _ _ _ st h=>wpAny_pyIter_tupleiter st h
theorem Kg{P:Program}{w:World}{K:PySem.W.Frag}{tg:Expr}(it:Addr)(lo:Int)(n:Nat):Turn P w K tg (Itr lo n) [it] it (fun i h=>IsRangeIter h it (lo+(i:Nat) * 1) ((n:Int) - (i:Nat)) 1) where
 mem:=by simp
 obj:=fun i h st b hb=>by
  have e:b=it:=by simpa using hb
  subst e
  exact⟨_,st,fun v z=>by
   have z':Data.fields _=Data.cell v:=z;cases z'⟩
 keep:=fun i h h' st k=>k it (by simp) _ st
 item:=by
  intro X hP hw hK hc i XF s Z H E I hf st hg;subst hP hw hK;obtain⟨f0,f1,f2,f3,f4,f5⟩:=hf it (by simp);have W:=Walks.range (prog:=X.prog) (w:=X.w) (I.ok.hd hc) it lo 1 n;refine W.item i s _ _ hg st fun v h' tk hv E2 kk=>?_;obtain⟨t,rfl⟩:=hv;have I1:Inv X XF Z H { s with heap:=h',toks:=tk }:=I.turned (fun b o hb e=>kk b o (by simpa using hb) e) f0 f1 f3 f4 f5;refine⟨_,rfl,Sm (s:={ s with heap:=h',toks:=tk }) (n:="range_iterator") E2 rfl rfl (by decide) ⟨.int (lo+i),H,I1,⟨t, ?_⟩,⟨rfl,rfl⟩,E2,fun b hb=>(hf b hb).1⟩⟩;rw[Int.mul_one]
 done:=by
  intro X hP hw hK hc i XF s Z H E I hf st hg;subst hP hw hK;obtain⟨f0,f1,f2,f3,f4,f5⟩:=hf it (by simp);exact wpAny_pyNext_range_end (I.ok.hd hc) st (by have:n<=i:=hg;omega) fun h' eb=>⟨rfl,I.turned (t':=s.toks) (fun b o hb e=>eb b o hb e) f0 f1 f3 f4 f5⟩
 self:=fun _ _ _ _ _ st h=>wpAny_pyIter_rangeiter st h
section
variable{X:Cx}{tg:Expr}
inductive Xo(K:W.Frag)(R:(It->Hp->Prop))(x:V)(H1:Hp):Prop
 | mk(a)(Y1:x=.ref a)(Y0:(∃xs,Vi K H1 a xs))(V7:R (Itl K a) H1):Xo K R x H1
def iList(K:W.Frag)(tl:TE):TI:=fun Z H R=>tl Z H fun x H1=>Xo K R x H1
inductive cb(K:W.Frag)(R:(It->Hp->Prop))(x:V)(H1:Hp):Prop
 | mk(a)(Y1:x=.ref a)(Y0:(∃xs,Yu K H1 a xs))(V7:R (Itt K a) H1):cb K R x H1
def iTup(K:W.Frag)(tl:TE):TI:=fun Z H R=>tl Z H fun x H1=>cb K R x H1
theorem Zzq{l:Expr}{tl:TE}(hl:PE X l tl):PI X tg l (iList X.K tl):=by
 intro XF s Z H R I h;refine Z9 (hl XF s Z H _ I h) fun v s1 ⟨x,H1,I1,r1,q1⟩=>?_;obtain⟨a,e,⟨xs,hq⟩,q⟩:=q1;subst e;cases r1;obtain⟨XM,rv,p,hz⟩:=I1.list hq;refine wpAny_pyIter_list p.isList ?_;refine⟨s1.heap.objs.size,[s1.heap.objs.size],_,_,H1,rfl,I1.kept (t':=s1.toks) fun b o e=>Yr _ e,z8 a _,⟨_,U1 _ rfl,rfl,rfl⟩,fun b hb=>?_,q⟩;have e:b=s1.heap.objs.size:=by simpa using hb
 subst e;exact I1.fpOk (Z5 _) (I1.hok.fresh (Z5 _))
theorem pi_tup{l:Expr}{tl:TE}(hl:PE X l tl):PI X tg l (iTup X.K tl):=by
 intro XF s Z H R I h;refine Z9 (hl XF s Z H _ I h) fun v s1 ⟨x,H1,I1,r1,q1⟩=>?_;obtain⟨a,e,⟨xs,hq⟩,q⟩:=q1;subst e;cases r1;obtain⟨XM,rv,p,hz⟩:=I1.tuple hq;refine wpAny_pyIter_tuple (show s1.heap.IsTuple a XM.toArray from p) ?_;refine⟨s1.heap.objs.size,[s1.heap.objs.size],_,_,H1,rfl,I1.kept (t':=s1.toks) fun b o e=>Yr _ e,Kk a _,⟨_,U1 _ rfl,rfl,rfl⟩,fun b hb=>?_,q⟩;have e:b=s1.heap.objs.size:=by simpa using hb
 subst e;exact I1.fpOk (Z5 _) (I1.hok.fresh (Z5 _))
theorem gp{XF:ZY}{Z:St}{H:Hp}{s:Shared}{R:It->Hp->Prop}{E:ZW}{lo hi:Int}{t u v:Tok}{tk:Nat}(I:Inv X XF Z H s)(h1:-(2 ^ 62)<=lo)(h2:lo<2 ^ 62)(h3:-(2 ^ 62)<=hi)(h4:hi<2 ^ 62)
  (q:R (Itr lo (hi - lo).toNat) H):wpAny (model X.prog X.w) X.A (pyIter (.ref s.heap.objs.size)) (PIE X XF Z tg R) E { s with heap:=s.heap.push { cls:=.type "range",data:=.fields #[.int lo t,.int hi u,.int 1 v] },toks:=tk }:=by
 refine wpAny_pyIter_range (IsRange.new ..) (small_one h1 h2 h3 h4) ?_;have I1:Inv X XF Z H { s with heap:=s.heap.push { cls:=.type "range",data:=.fields #[.int lo t,.int hi u,.int 1 v] },toks:=tk }:=I.kept fun b o e=>Yr _ e
 refine⟨(s.heap.push { cls:=.type "range",data:=.fields #[.int lo t,.int hi u,.int 1 v] }).objs.size,[(s.heap.push { cls:=.type "range",data:=.fields #[.int lo t,.int hi u,.int 1 v] }).objs.size],_,_,H,rfl,
  I1.kept (t':=tk) fun b o e=>Yr _ e,Kg _ lo (hi - lo).toNat, ?_,fun b hb=>?_,q⟩
 .have e1:lo+((0:Nat):Int) * 1=lo:=by simp
  have e2:(((hi - lo).toNat:Nat):Int) - ((0:Nat):Int)=Builtin.Range.rangeSize lo hi 1:=by rw[rangeSize_one];split<;>omega
  show IsRangeIter _ _ (lo+((0:Nat):Int) * 1) ((((hi - lo).toNat:Nat):Int) - ((0:Nat):Int)) 1;rw[e1,e2];exact U1 _ rfl
 .have e:b=(s.heap.push { cls:=.type "range",data:=.fields #[.int lo t,.int hi u,.int 1 v] }).objs.size:=by simpa using hb
  subst e;exact I1.fpOk (Z5 _) (I1.hok.fresh (Z5 _))
inductive Xa(R:(It->Hp->Prop))(vs:ZQ)(H1:Hp):Prop
 | mk(j:Int)(Y1:vs=[.int j])(Y0:-(2 ^ 62)<=j)(V7:j<2 ^ 62)(Wr:R (Itr 0 j.toNat) H1):Xa R vs H1
def iRng1(ta:TA):TI:=fun Z H R=>ta Z H fun vs H1=>Xa R vs H1
theorem qk{a:Expr}{ta:TA}{p pos:Pos}(hg:Gl X "range")(hm:X.mg "range" = none)(ha:PA X [a] ta)(hs:starEach [a] X.env=[(false,eval a X.env)]:=by rfl):PI X tg (.Call (.Name "range" p) [a] [] pos) (iRng1 ta):=by
 intro XF s Z H R I h;refine Call_ (Bp I hg hm boot_range (callWith_type1 (Z9 (ha pos XF s Z H _ I h) fun us s1 ⟨vs,H1,I1,r1,q1⟩=>?_) hs rfl));obtain⟨j,e,q1,q2,q⟩:=q1;subst e;cases r1 with
 | cons r rr =>
  cases rr;obtain⟨t,rfl⟩:=r;exact call_range_1 (gp I1 (by omega) (by omega) q1 q2 (by simpa using q))
def tFor(wi:TI)(g:TG)(tb:TS):TS:=fun D Z H=>wi Z H fun J H1=>∃W:Nat->Nat->St->Hp->Prop,(∃m,W 0 m Z H1)/\∀i m Z H,W i m Z H ->
 (J.stop i H/\D.nx Z H)\/(J.go i H/\∃N:St->Hp->Prop,(∀σ' H',N σ' H'->∃m',m'<m/\W (i+1) m' σ' H')/\∀x H',J.yld i H x H'->g x Z H' fun σ2 H2=>tb { D with nx:=N,ct:=N,bk:=D.nx } σ2 H2)
def C8(fp:ZU)(h:Heap):ZY:=fp.filterMap fun b=>(h.get? b).map fun o=>(b,o)
theorem Jh{fp:ZU}{h:Heap}{b:Addr}{o:Obj}(hb:b∈fp)(e:h.get? b=some o):(b,o)∈C8 fp h:=List.mem_filterMap.mpr ⟨b,hb,by rw[e];rfl⟩
theorem qp{fp:ZU}{h:Heap}{p:Addr×Obj}(hp:p∈C8 fp h):p.1∈fp/\h.get? p.1=some p.2:=by
 obtain⟨b,hb,e⟩:=List.mem_filterMap.mp hp;cases q:h.get? b with
 | none=>rw[q]at e;cases e
 | some o =>
  rw[q]at e;have e':(b,o)=p:=D3 e;subst e';exact⟨hb,q⟩
theorem Inv.pinned{XF:ZY}{Z:St}{H:Hp}{s:Shared}{fp:ZU}(I:Inv X XF Z H s)(hf:∀b∈fp,Bx X XF H b)(ho:∀b∈fp,∃o,s.heap.get? b=some o/\∀v,o.data≠.cell v):Inv X (XF++C8 fp s.heap) Z H s :=
 I.pins_of fun p hp=>(Cb.mp hp).elim (fun z=>I.pin p (zc _ z)) fun z=>by
  obtain⟨hb,e⟩:=qp z;obtain⟨f0,f1,f2,_⟩:=hf p.1 hb;obtain⟨o,e',d⟩:=ho p.1 hb;rw[e]at e';cases e';exact⟨e,f0,f1,f2,d⟩
theorem Inv.unpinned{XF pl:ZY}{Z:St}{H:Hp}{s:Shared}(I:Inv X (XF++pl) Z H s):Inv X XF Z H s:=I.pins_of fun p hp=>I.pin p (zc _ (List.mem_append_left _ hp))
theorem ps_for{iter:Expr}{body:List Stmt}{wi:TI}{g:TG}{tb:TS}{pos:Pos}(hp:PassesOwn (model X.prog X.w) X.A X.env X.xe)(hc:X.calm=true)(hi:PI X tg iter wi)(hg:PG X tg g)(hb:W5 X body tb)
  (hs:∀x,foldedSetIterable iter X.env x=pure x:=by intro _;rfl):PS X (.For tg iter body [] pos) (tFor wi g tb):=by
 intro XF s Z H D I h;refine wpAny_For (Z9 (hi XF s Z H _ I h) fun v s1 h1=>Z9 h1 fun itv s2 h2=>?_) hs;obtain⟨it,fp,tn,J,H2,e,I2,T,yu,f2,W,⟨m0,w0⟩,turn⟩:=h2;subst e;have stat:∀{H':Hp},(∀b∈fp,H' b=none)->∀b∈fp,Bx X XF H' b:=fun hn b hb=>⟨hn b hb,(f2 b hb).2⟩;refine codeAny_forLoop_any (fun n s'=>∃i σ' H',Inv X XF σ' H' s'/\tn i s'.heap/\(∀b∈fp,H' b=none)/\W i n σ' H') ?_ m0 ⟨0,Z,H2,I2,yu,fun b hb=>(f2 b hb).1,w0⟩;rintro n s3 ⟨i,σ3,H3,I3,st3,fr3,w3⟩;rcases turn i n σ3 H3 w3 with ⟨stop,qn⟩ | ⟨go,N,hN,step⟩
 .refine wpAny_passesOwn hp (Z9 (T.done X rfl rfl rfl hc i XF s3 σ3 H3 X.xe I3 (stat fr3) st3 stop) fun r s4 ⟨hr,I4⟩=>?_);subst hr;exact wpAny_execs_nil ⟨σ3,H3,I4,qn⟩
 .refine wpAny_passesOwn hp (Z9 (T.item X rfl rfl rfl hc i XF s3 σ3 H3 X.xe I3 (stat fr3) st3 go) fun r s4 ⟨u,hr,h4⟩=>?_);subst hr;refine wpAny_passesOwn hp (Z9 h4 fun _ s5 ⟨x,H5,I5,r5,y5,st5,fr5⟩=>?_);have I5':=I5.pinned (stat fr5) (T.obj _ _ st5);refine wpAny_passesOwn hp (Z9 (hg _ s5 σ3 H5 x u _ I5' r5 (step x H5 y5)) fun _ s6 ⟨σ6,H6,I6,q6⟩=>?_);refine wpAny_passesOwn hp (Z9 (hb _ s6 σ6 H6 _ I6 q6) fun f s7 q7=>?_)
  have again:∀{σ7:St} {H7:Hp},Inv X (XF++C8 fp s5.heap) σ7 H7 s7->N σ7 H7->∃m,m<n/\∃i σ' H',Inv X XF σ' H' s7/\tn i s7.heap/\(∀b∈fp,H' b=none)/\W i m σ' H':=fun {σ7 H7} I7 n7=>by
   obtain⟨m',hm,w7⟩:=hN σ7 H7 n7;refine⟨m',hm,i+1,σ7,H7,I7.unpinned,T.keep _ _ _ st5 fun b hb o e=>(I7.pin (b,o) (zc _ (zc _ (Jh hb e)))).1,fun b hb=>?_,w7⟩;obtain⟨o,e,d⟩:=T.obj _ _ st5 b hb;exact(I7.pin (b,o) (zc _ (zc _ (Jh hb e)))).2.1
  cases f with
  | next=>obtain⟨σ7,H7,I7,n7⟩:=q7;exact again I7 n7
  | cont=>obtain⟨σ7,H7,I7,n7⟩:=q7;exact again I7 n7
  | brk=>obtain⟨σ7,H7,I7,q7⟩:=q7;exact⟨σ7,H7,I7.unpinned,q7⟩
  | ret v=>obtain⟨x7,σ7,H7,I7,r7,q7⟩:=q7;exact⟨x7,σ7,H7,I7.unpinned,r7,q7⟩
end
abbrev R2:=V->V->Hp->VK->Prop
def Jb(X:Cx)(f:Value->Value->Sem Value)(r:R2):Prop :=
 ∀(XF:ZY) (s:Shared) (Z:St) (H:Hp) (x y:V) (v u:Value) (Q:VK),Inv X XF Z H s->RelV x v->RelV y u->r x y H Q ->
  wpAny (model X.prog X.w) X.A (f v u) (EP X XF Z Q) X.xe s
def UnR(X:Cx)(f:Value->Sem Value)(r:V->Hp->VK->Prop):Prop :=
 ∀(XF:ZY) (s:Shared) (Z:St) (H:Hp) (x:V) (v:Value) (Q:VK),Inv X XF Z H s->RelV x v->r x H Q ->
  wpAny (model X.prog X.w) X.A (f v) (EP X XF Z Q) X.xe s
def Ye(X:Cx)(f:Value)(r:ZQ->Hp->VK->Prop):Prop :=
 ∀(XF:ZY) (s:Shared) (Z:St) (H:Hp) (xs:ZQ) (us:ZM) (Q:VK),Inv X XF Z H s->Zv xs us->r xs H Q ->
  wpAny (model X.prog X.w) X.A (call f us) (EP X XF Z Q) X.xe s
def tOp(r:R2)(ta tb:TE):TE:=fun Z H Q=>ta Z H fun x H1=>tb Z H1 fun y H2=>r x y H2 Q
def tUn(r:V->Hp->VK->Prop)(ta:TE):TE:=fun Z H Q=>ta Z H fun x H1=>r x H1 Q
inductive rI_I(C:Int->Int->Prop)(g:Int->Int->V)(x:V)(y:V)(H:Hp)(Q:VK):Prop
 | mk(i j)(Y1:x=.int i)(Y0:y=.int j)(V7:C i j)(Wr:Q (g i j) H):rI_I C g x y H Q
def rI(C:Int->Int->Prop)(g:Int->Int->V):R2:=fun x y H Q=>rI_I C g x y H Q
inductive Zq7(g:Int->Int->V)(x:V)(y:V)(H:Hp)(Q:VK):Prop
 | mk(i j)(Y1:x=.int i)(Y0:y=.int j)(V7:Q (g i j) H):Zq7 g x y H Q
def rI0(g:Int->Int->V):R2:=fun x y H Q=>Zq7 g x y H Q
inductive rU_I(g:Int->V)(x:V)(H:Hp)(Q:VK):Prop
 | mk(i)(Y1:x=.int i)(Y0:Q (g i) H):rU_I g x H Q
def rU(g:Int->V):V->Hp->VK->Prop:=fun x H Q=>rU_I g x H Q
section
variable{X:Cx}{a b c:Expr}{ta tb tc:TE}{pos:Pos}
theorem binT(ha:PE X a ta)(hb:PE X b tb){XF:ZY}{s:Shared}{Z:St}{H:Hp}{R:V->V->Hp->Prop}(I:Inv X XF Z H s)
  (h:ta Z H fun x H1=>tb Z H1 fun y H2=>R x y H2) {Q:ZW} {f:Value->Value->Sem Value}
  (hf:∀v u s2 x y H2,Inv X XF Z H2 s2->RelV x v->RelV y u->R x y H2->wpAny (model X.prog X.w) X.A (f v u) Q X.xe s2) :
  wpAny (model X.prog X.w) X.A (eval a X.env) (fun v s₁=>wpAny (model X.prog X.w) X.A (eval b X.env) (fun u s₂=>wpAny (model X.prog X.w) X.A (f v u) Q X.xe s₂) X.xe s₁) X.xe s:=by
 refine Z9 (ha XF s Z H _ I h) fun v s1 ⟨x,H1,I1,r1,q1⟩=>?_;refine Z9 (hb XF s1 Z H1 _ I1 q1) fun u s2 ⟨y,H2,I2,r2,q2⟩=>?_;exact hf v u s2 x y H2 I2 r1 r2 q2
theorem pe_op{op:Operator}{r:R2}(ho:Jb X (binaryOp op) r)(ha:PE X a ta)(hb:PE X b tb):PE X (.BinOp a op b pos) (tOp r ta tb):=by
 intro XF s Z H Q I h;exact wpAny_BinOp (binT ha hb I h fun v u s2 x y H2 I2 rx ry q=>ho XF s2 Z H2 x y v u Q I2 rx ry q)
theorem Zq9{op:UnaryOp}{r:V->Hp->VK->Prop}(ho:UnR X (unaryOp op) r)(ha:PE X a ta):PE X (.UnaryOp op a pos) (tUn r ta):=by
 intro XF s Z H Q I h;exact UnaryOp_ (Z9 (ha XF s Z H _ I h) fun v s1 ⟨x,H1,I1,r1,q1⟩=>ho XF s1 Z H1 x v Q I1 r1 q1)
theorem opI{f:Value->Value->Sem Value}{C:Int->Int->Prop}{g:Int->Int->Int}
  (rule:∀(i j:Int) (t u:Tok) (s:Shared) (Q:ZW) (E:ZW),C i j->Q (.int (g i j) s.toks) { s with toks:=s.toks+1 }->wpAny (model X.prog X.w) X.A (f (.int i t) (.int j u)) Q E s) :
  Jb X f (rI C fun i j=>.int (g i j)):=by
 intro XF s Z H x y v u Q I rx ry h;obtain⟨i,j,rfl,rfl,hc,q⟩:=h;obtain⟨t,rfl⟩:=rx;obtain⟨t',rfl⟩:=ry;exact rule i j t t' s _ _ hc ⟨.int (g i j),H,I.tok _,⟨_,rfl⟩,q⟩
theorem opI0{f:Value->Value->Sem Value}{g:Int->Int->Int}
  (rule:∀(i j:Int) (t u:Tok) (s:Shared) (Q:ZW) (E:ZW),Q (.int (g i j) s.toks) { s with toks:=s.toks+1 }->wpAny (model X.prog X.w) X.A (f (.int i t) (.int j u)) Q E s) :
  Jb X f (rI0 fun i j=>.int (g i j)):=by
 intro XF s Z H x y v u Q I rx ry h;obtain⟨i,j,rfl,rfl,q⟩:=h;obtain⟨t,rfl⟩:=rx;obtain⟨t',rfl⟩:=ry;exact rule i j t t' s _ _ ⟨.int (g i j),H,I.tok _,⟨_,rfl⟩,q⟩
theorem Zzi{f:Value->Value->Sem Value}{g:Int->Int->Bool}
  (rule:∀(i j:Int) (t u:Tok) (s:Shared) (Q:ZW) (E:ZW),Q (.bool (g i j)) s->wpAny (model X.prog X.w) X.A (f (.int i t) (.int j u)) Q E s) :
  Jb X f (rI0 fun i j=>.bl (g i j)):=by
 intro XF s Z H x y v u Q I rx ry h;obtain⟨i,j,rfl,rfl,q⟩:=h;obtain⟨t,rfl⟩:=rx;obtain⟨t',rfl⟩:=ry;exact rule i j t t' s _ _ ⟨.bl (g i j),H,I,rfl,q⟩
def CDiv(i j:Int):Prop:=0<j/\j<1073741824
def CPow(i j:Int):Prop:=0<=j/\j<=1000000/\i.natAbs<2 ^ 64
def CMul(i j:Int):Prop:=(-(2 ^ 64)<i/\i<2 ^ 64)\/(-(2 ^ 64)<j/\j<2 ^ 64)
theorem CMul.ok{i j:Int}(h:CMul i j):IntMulOk i j:=by
 rcases h with ⟨h1,h2⟩ | ⟨h1,h2⟩
 .exact .of_left (intBits_le_64 h1 h2)
 .exact .of_right (intBits_le_64 h1 h2)
theorem op_add:Jb X (binaryOp .Add) (rI0 fun i j=>.int (i+j)):=opI0 fun _ _ _ _ _ _ _ q=>add_int q
theorem op_sub:Jb X (binaryOp .Sub) (rI0 fun i j=>.int (i - j)):=opI0 fun _ _ _ _ _ _ _ q=>sub_int q
theorem op_mul:Jb X (binaryOp .Mult) (rI CMul fun i j=>.int (i * j)):=opI fun _ _ _ _ _ _ _ hc q=>mul_int q hc.ok
theorem Zzp:Jb X (binaryOp .FloorDiv) (rI CDiv fun i j=>.int (i / j)):=opI fun i j _ _ _ _ _ hc q=>by
 have h1:(0:Int)<j:=hc.1;have h2:j<1073741824:=hc.2;exact floordiv_int (by omega) (by rw[Int.fdiv_eq_ediv_of_nonneg i (by omega)];exact q) (.inl (PyProof.noPylong_small (by omega)))
theorem op_mod:Jb X (binaryOp .Mod) (rI (fun _ j=>0<j) fun i j=>.int (i % j)):=opI fun i j _ _ _ _ _ hc q=>by
 have h1:(0:Int)<j:=hc;exact mod_int' (by omega) (by rw[Int.fmod_eq_emod_of_nonneg i (by omega)];exact q)
theorem op_pow:Jb X (binaryOp .Pow) (rI CPow fun i j=>.int (i ^ j.toNat)):=opI fun _ _ _ _ _ _ _ hc q=>pow_int_small hc.1 hc.2.1 hc.2.2 q
theorem unI{f:Value->Sem Value}{g:Int->Int}
  (rule:∀(i:Int) (t:Tok) (s:Shared) (Q:ZW) (E:ZW),Q (.int (g i) s.toks) { s with toks:=s.toks+1 }->wpAny (model X.prog X.w) X.A (f (.int i t)) Q E s) :
  UnR X f (rU fun i=>.int (g i)):=by
 intro XF s Z H x v Q I rx h;obtain⟨i,rfl,q⟩:=h;obtain⟨t,rfl⟩:=rx;exact rule i t s _ _ ⟨.int (g i),H,I.tok _,⟨_,rfl⟩,q⟩
theorem yw:UnR X (unaryOp .USub) (rU fun i=>.int (-i)):=unI fun _ _ _ _ _ q=>neg_int q
end
noncomputable def scal:V->V->Bool
 | .non,.non=>true | .non,.int _=>true | .int _,.non=>true | .non,.bl _=>true | .bl _,.non=>true | .non,.str _=>true | .str _,.non=>true
 | .int _,.int _=>true | .bl _,.bl _=>true | .str _,.str _=>true | .byt _,.byt _=>true
 | .int _,.str _=>true | .str _,.int _=>true | .bl _,.str _=>true | .str _,.bl _=>true
 | _,_=>false
section
variable{X:Cx}{a b c:Expr}{ta tb tc:TE}{pos:Pos}
theorem Je{XF:ZY}{Z:St}{H:Hp}{s:Shared}{Q:VK}{k k':Bool}(I:Inv X XF Z H s)(q:Q (.bl k) H)(e:k=k'):EP X XF Z Q (.bool k') s:=by
 subst e;exact⟨.bl k,H,I,rfl,q⟩
theorem op_lt:Jb X (compareOp .Lt) (rI0 fun i j=>.bl (decide (i<j))):=Zzi fun _ _ _ _ _ _ _ q=>lt_int q
theorem op_le:Jb X (compareOp .LtE) (rI0 fun i j=>.bl (decide (i<=j))):=Zzi fun _ _ _ _ _ _ _ q=>le_int q
theorem op_gt:Jb X (compareOp .Gt) (rI0 fun i j=>.bl (decide (j<i))):=Zzi fun _ _ _ _ _ _ _ q=>gt_int q
theorem op_ge:Jb X (compareOp .GtE) (rI0 fun i j=>.bl (decide (j<=i))):=Zzi fun _ _ _ _ _ _ _ q=>ge_int q
inductive Tx(x:V)(y:V)(H:Hp)(Q:VK):Prop
 | mk(i j)(Y1:x=.str i)(Y0:y=.str j)(V7:Q (.bl (decide (i.cps.toList<j.cps.toList))) H):Tx x y H Q
theorem qd:Jb X (compareOp .Lt) (fun x y H Q=>Tx x y H Q):=by
 intro XF s Z H x y v u Q I rx ry h;obtain⟨i,j,rfl,rfl,q⟩:=h;obtain⟨t,rfl⟩:=rx;obtain⟨t',rfl⟩:=ry;exact lt_str (Je I q rfl)
inductive Tv(x:V)(y:V)(H:Hp)(Q:VK):Prop
 | mk(i j)(Y1:x=.str i)(Y0:y=.str j)(V7:Q (.bl (!(Builtin.Str.occurrences j i 0 j.length 1).isEmpty)) H):Tv x y H Q
theorem ql:Jb X (compareOp .In) (fun x y H Q=>Tv x y H Q):=by
 intro XF s Z H x y v u Q I rx ry h;obtain⟨i,j,rfl,rfl,q⟩:=h;obtain⟨t,rfl⟩:=rx;obtain⟨t',rfl⟩:=ry;exact in_str (Je I q rfl)
theorem dq:Jb X (compareOp .Is) (fun x y H Q=>y=.non/\Q (.bl (decide (x=.non))) H):=by
 intro XF s Z H x y v u Q I rx ry h;obtain⟨rfl,q⟩:=h;cases ry;refine is_none_gen (Je I q ?_)
 cases x<;>first
  | (cases rx;rfl)
  | (obtain⟨t,rfl⟩:=rx;rfl)
theorem Xg:Jb X (compareOp .IsNot) (fun x y H Q=>y=.non/\Q (.bl (!decide (x=.non))) H):=by
 intro XF s Z H x y v u Q I rx ry h;obtain⟨rfl,q⟩:=h;cases ry;refine isnot_none_gen (Je I q ?_)
 cases x<;>first
  | (cases rx;rfl)
  | (obtain⟨t,rfl⟩:=rx;rfl)
inductive Ge(x:V)(y:V)(H:Hp)(Q:VK):Prop
 | mk(i j)(Y1:x=.str i)(Y0:y=.str j)(V7:Q (.bl (!(!(Builtin.Str.occurrences j i 0 j.length 1).isEmpty))) H):Ge x y H Q
theorem Qg:Jb X (compareOp .NotIn) (fun x y H Q=>Ge x y H Q):=by
 intro XF s Z H x y v u Q I rx ry h;obtain⟨i,j,rfl,rfl,q⟩:=h;obtain⟨t,rfl⟩:=rx;obtain⟨t',rfl⟩:=ry;exact notIn_str (Je I q rfl)
theorem Zzg{op:CmpOp}{r:R2}(ho:Jb X (compareOp op) r)(ha:PE X a ta)(hb:PE X b tb)(hm:behindInMarks op b=false):PE X (.Compare a [op] [b] pos) (tOp r ta tb):=by
 intro XF s Z H Q I h;exact wpAny_Compare1 (binT ha hb I h fun v u s2 x y H2 I2 rx ry q=>ho XF s2 Z H2 x y v u Q I2 rx ry q) hm
inductive Fu(Q:(Bool->Hp->Prop))(x:V)(H':Hp):Prop
 | mk(k)(Y1:x=.bl k)(Y0:Q k H'):Fu Q x H'
def Zqo(t:TE):TT:=fun Z H Q=>t Z H fun x H'=>Fu Q x H'
theorem i8{op:CmpOp}{r:R2}(ho:Jb X (compareOp op) r)(ha:PE X a ta)(hb:PE X b tb)(hm:behindInMarks op b=false):PT X (.Compare a [op] [b] pos) (Zqo (tOp r ta tb)):=by
 intro XF s Z H Q I h
 refine wpAny_isTrue_Compare1 (Z9 (ha XF s Z H _ I h) fun v s1 ⟨x,H1,I1,r1,q1⟩=>Z9 (hb XF s1 Z H1 _ I1 q1) fun u s2 ⟨y,H2,I2,r2,q2⟩ =>
  Z9 (ho XF s2 Z H2 x y v u _ I2 r1 r2 q2) fun c s3 ⟨z,H3,I3,r3,k,e,q3⟩=>?_) hm
 subst e;cases r3;exact wpAny_truthy_bool ⟨H3,I3,q3⟩
inductive P7(r':R2)(tc:TE)(Z:St)(Q:VK)(y:V)(z:V)(H3:Hp):Prop
 | mk(k)(Y1:z=.bl k)(Y0:(if k=true then tc Z H3 fun w' H4=>r' y w' H4 Q else Q (.bl false) H3)):P7 r' tc Z Q y z H3
def Kb(r r':R2)(ta tb tc:TE):TE:=fun Z H Q=>ta Z H fun x H1=>tb Z H1 fun y H2=>r x y H2 fun z H3=>P7 r' tc Z Q y z H3
theorem b7{op E3:CmpOp}{r r':R2}(ho:Jb X (compareOp op) r)(Wn:Jb X (compareOp E3) r')(ha:PE X a ta)(hb:PE X b tb)(hc:PE X c tc)
  (hm:lastMarks [op,E3] [b,c]=false:=by with_unfolding_all rfl):PE X (.Compare a [op,E3] [b,c] pos) (Kb r r' ta tb tc):=by
 intro XF s Z H Q I h
 refine Compare_chain (Z9 (ha XF s Z H _ I h) fun v s1 ⟨x,H1,I1,r1,q1⟩=>chain_link (Z9 (hb XF s1 Z H1 _ I1 q1) fun u s2 ⟨y,H2,I2,r2,q2⟩ =>
  Z9 (ho XF s2 Z H2 x y v u _ I2 r1 r2 q2) fun d s3 ⟨z,H3,I3,r3,k,e,q3⟩=>?_)) hm
 subst e;cases r3;refine wpAny_truthy_bool ?_;cases k with
 | false=>exact ite_ff ⟨.bl false,H3,I3,rfl,q3⟩
 | true=>exact ite_tt (chain_last (Z9 (hc XF s3 Z H3 _ I3 q3) fun w' s4 ⟨z',H4,I4,r4,q4⟩=>Wn XF s4 Z H4 y z' u w' Q I4 r2 r4 q4))
theorem fu{op E3:CmpOp}{r r':R2}(ho:Jb X (compareOp op) r)(Wn:Jb X (compareOp E3) r')(ha:PE X a ta)(hb:PE X b tb)(hc:PE X c tc)
  (hm:lastMarks [op,E3] [b,c]=false:=by with_unfolding_all rfl):PT X (.Compare a [op,E3] [b,c] pos) (Zqo (Kb r r' ta tb tc)):=by
 intro XF s Z H Q I h
 refine isTrue_chain (Z9 (ha XF s Z H _ I h) fun v s1 ⟨x,H1,I1,r1,q1⟩=>test_link (Z9 (hb XF s1 Z H1 _ I1 q1) fun u s2 ⟨y,H2,I2,r2,q2⟩ =>
  Z9 (ho XF s2 Z H2 x y v u _ I2 r1 r2 q2) fun d s3 ⟨z,H3,I3,r3,k,e,q3⟩=>?_)) hm
 subst e;cases r3;refine wpAny_truthy_bool ?_;cases k with
 | false =>
  obtain⟨k',e',q'⟩:=q3;cases e';exact ite_ff ⟨H3,I3,q'⟩
 | true =>
  refine ite_tt (test_last (Z9 (hc XF s3 Z H3 _ I3 q3) fun w' s4 ⟨z',H4,I4,r4,q4⟩=>Z9 (Wn XF s4 Z H4 y z' u w' _ I4 r2 r4 q4) fun d' s5 ⟨z2,H5,I5,r5,k2,e2,q5⟩=>?_));subst e2;cases r5;exact wpAny_truthy_bool ⟨H5,I5,q5⟩
theorem Br:(sizeLine:Nat)<2 ^ 63:=by rw[sizeLine_eq];decide
inductive Nw(x:V)(y:V)(H:Hp)(Q:VK):Prop
 | mk(i j)(Y1:x=.str i)(Y0:y=.str j)(V7:i.length+j.length<=sizeLine)(Wr:Q (.str (i++j)) H):Nw x y H Q
theorem K5:Jb X (binaryOp .Add) (fun x y H Q=>Nw x y H Q):=by
 intro XF s Z H x y v u Q I rx ry h;obtain⟨i,j,rfl,rfl,hz,q⟩:=h;obtain⟨t,rfl⟩:=rx;obtain⟨t',rfl⟩:=ry;exact add_str (fun t' tk=>⟨.str (i++j),H,I.tok _,⟨_,rfl⟩,q⟩) hz
theorem vals1{x:V}{us:ZM}(r:Zv [x] us):∃u,us=[u]/\RelV x u:=by
 cases r with
 | cons r1 r2=>cases r2;exact⟨_,rfl,r1⟩
theorem vals2{x y:V}{us:ZM}(r:Zv [x,y] us):∃u w',us=[u,w']/\RelV x u/\RelV y w':=by
 cases r with
 | cons r1 r2 =>
  cases r2 with
  | cons r3 r4=>cases r4;exact⟨_,_,rfl,r1,r3⟩
inductive Tp(xs:ZQ)(H:Hp)(Q:VK):Prop
 | mk(i j)(Y1:xs=[.int i,.int j])(Y0:Q (.int (if j>i then j else i)) H):Tp xs H Q
theorem ju(hc:X.calm=true):Ye X (.builtin "max") (fun xs H Q=>Tp xs H Q):=by
 intro XF s Z H xs us Q I r h;obtain⟨i,j,rfl,q⟩:=h;obtain⟨u,w',rfl,⟨t,rfl⟩,⟨t',rfl⟩⟩:=vals2 r;refine max_two_ints (I.ok.hd hc) fun h' tk k=>⟨_,H,I.kept k, ?_,q⟩;by_cases hj:j>i
 .rw[if_pos hj,if_pos hj];exact⟨_,rfl⟩
 .rw[if_neg hj,if_neg hj];exact⟨_,rfl⟩
inductive Tr(xs:ZQ)(H:Hp)(Q:VK):Prop
 | mk(i j)(Y1:xs=[.int i,.int j])(Y0:Q (.int (if j<i then j else i)) H):Tr xs H Q
theorem jh(hc:X.calm=true):Ye X (.builtin "min") (fun xs H Q=>Tr xs H Q):=by
 intro XF s Z H xs us Q I r h;obtain⟨i,j,rfl,q⟩:=h;obtain⟨u,w',rfl,⟨t,rfl⟩,⟨t',rfl⟩⟩:=vals2 r;refine min_two_ints (I.ok.hd hc) fun h' tk k=>⟨_,H,I.kept k, ?_,q⟩;by_cases hj:j<i
 .rw[if_pos hj,if_pos hj];exact⟨_,rfl⟩
 .rw[if_neg hj,if_neg hj];exact⟨_,rfl⟩
theorem Fj:Ye X (.type "int") (fun xs H Q=>(∃i,xs=[.int i]/\Q (.int i) H)\/∃k,xs=[.bl k]/\Q (.int (if k then 1 else 0)) H):=by
 intro XF s Z H xs us Q I r h;rcases h with ⟨i,rfl,q⟩ | ⟨k,rfl,q⟩
 .obtain⟨u,rfl,t,rfl⟩:=vals1 r;exact call_int_int ⟨.int i,H,I,⟨_,rfl⟩,q⟩
 .obtain⟨u,rfl,r1⟩:=vals1 r;cases r1;exact call_int_bool ⟨.int (if k then 1 else 0),H,I.tok _,⟨_,rfl⟩,q⟩
def LenV(K:W.Frag)(x:V)(H:Hp)(n:Nat):Prop :=
 match x with
 | .str y=>y.length<=sizeLine/\n=y.length
 | .byt y=>y.size<=sizeLine/\n=y.size
 | .ref p=>(∃xs,Vi K H p xs/\n=xs.length)\/∃xs,Yu K H p xs/\n=xs.length
 | _=>False
inductive Ri(K:W.Frag)(xs:ZQ)(H:Hp)(Q:VK):Prop
 | mk(x n)(Y1:xs=[x])(Y0:LenV K x H n)(V7:Q (.int n) H):Ri K xs H Q
theorem rh:Ye X (.builtin "len") (fun xs H Q=>Ri X.K xs H Q):=by
 intro XF s Z H xs us Q I r h;obtain⟨x,n,rfl,e,q⟩:=h;obtain⟨u,rfl,rx⟩:=vals1 r;have hl:=Br;have hs:sizeLine=16777216:=sizeLine_eq;cases x with
 | str y =>
  obtain⟨t,rfl⟩:=rx;obtain⟨hy,e'⟩:y.length<=sizeLine/\n=y.length:=e;subst e';exact len_str (by omega) ⟨.int _,H,I.tok _,⟨_,rfl⟩,q⟩
 | byt y =>
  obtain⟨t,rfl⟩:=rx;obtain⟨hy,e'⟩:y.size<=sizeLine/\n=y.size:=e;subst e';exact W.len_bytes (by omega) ⟨.int _,H,I.tok _,⟨_,rfl⟩,q⟩
 | ref p =>
  cases rx;have e':(∃xs,Vi X.K H p xs/\n=xs.length)\/∃xs,Yu X.K H p xs/\n=xs.length:=e;rcases e' with ⟨xs,hx,e'⟩ | ⟨xs,hx,e'⟩
  .subst e';obtain⟨XM,r',pl,hz⟩:=I.list hx;have hlen:=r'.length;exact Calls.call_len_list pl.isList (by simp only[Vy];omega) ⟨.int xs.length,H,I.tok _,⟨_,by simp only[Vy];rw[hlen]⟩,q⟩
  .subst e';obtain⟨XM,r',pl,hz⟩:=I.tuple hx;have hlen:=r'.length;exact len_tuple pl (by simp only[Vy];omega) ⟨.int xs.length,H,I.tok _,⟨_,by simp only[Vy];rw[hlen]⟩,q⟩
 | _=>exact(show False from e).elim
end
structure ObjM(h:Heap)(x dx C:Addr)(mA:ZV):Prop where
 obj:h.get? x=some (W.instObj C dx)
 ns:h.Ns1 dx mA
 ne:dx≠x
theorem qa{h:Heap}{dx:Addr}{mA:ZV}(n:h.Ns1 dx mA):∃od,h.get? dx=some od/\∀name,W.lookIn name od=some (mA name):=by
 obtain⟨o,es,ep,ho,hd,hk,_,hm⟩:=n;refine⟨o,ho,fun name=>?_⟩;have e:=hm name;unfold nsFind findBy at e;rw[<-Array.find?_toList]at e;unfold W.lookIn;rw[hd];dsimp only
 split
 .rename_i y q
  rw[q]at e;exact congrArg some e
 .rename_i q
  rw[q]at e
  have a:es.toList.any (·.refKey)=false:=by
   rw[List.any_eq_false];intro y hy;obtain⟨z,t,c6⟩:=hk y (Array.mem_toList_iff.mp hy);simp[DictEntry.refKey,c6]
  have a':¬ es.toList.any (·.refKey)=true:=by rw[a];exact Ti
  rw[if_neg a'];exact congrArg some e
theorem ObjM.look{h:Heap}{x dx C:Addr}{mA:ZV}(I:ObjM h x dx C mA):∃od,W.InstAt h x (W.instObj C dx) C (some od)/\∀name,W.lookIn name od=some (mA name) :=
 let ⟨od,ho,hl⟩:=qa I.ns
 ⟨od,⟨I.obj,rfl,rfl,ho⟩,hl⟩
section
variable{prog:Program}{w:World}{A:Around}{E:ZW}{s:Shared}{K:W.Frag}{x dx C f:Addr}{mA:ZV}{name:Str}{v:Value}
end
theorem B7.some_of{v:V}{o:ZT}(r:B7 (some v) o):∃u,o=some u/\RelV v u:=by
 cases o with
 | none=>exact(show False from r).elim
 | some u=>exact⟨u,rfl,r⟩
section
variable{P:Program}{w:World}{H H':Hp}{h h':Heap}{a C dx:Addr}{fs fs':List (Str×V)}
theorem Zxf(hok:Mo P w H h)(e:H a=some (.ins C dx fs)):∃mA,ObjM h a dx C mA/\(∀f,B7 (fs.lookup f) (mA f))/\PySem.Within mA (fs.map (·.1))/\fs.length<=1000/\H dx=some (.own a):=by
 obtain⟨d,z,ne,ob,mA,n,r,q⟩:=(show Zp P w H h a (.ins C dx fs) from hok a _ e);exact⟨mA,⟨ob,n,ne⟩,r,q,z,d⟩
end
structure Cls(K:W.Frag)(C:Addr):Prop where
 pg:W.plainGet K C Str.empty=true
 hd:W.hasDictIn K C=true
 po:W.plainOver K C=true
 sa:W.findIn K (.ref C) "__setattr__" = some (some (.builtin "object.__setattr__"))
theorem Cls.get{K:W.Frag}{C:Addr}(c:Cls K C)(f:Str):W.plainGet K C f=true:=c.pg
section
variable{X:Cx}{XF:ZY}{Z:St}{H:Hp}{s:Shared}{a C dx:Addr}{fs:List (Str×V)}{f:Str}{v:V}{A:Around}{E:ZW}
end
section
variable{X:Cx}{o e value:Expr}{f:Str}{pos pos' tpos:Pos}{ta tv:TE}
end
section
variable{X:Cx}{XF:ZY}{Z:St}{H:Hp}{s:Shared}{A:Around}{E:ZW}{Q:ZW}{c:Value}{b:Bool}
inductive T9(K:W.Frag)(H:Hp):V->Value->Prop where
 | non:T9 K H .non (.type "NoneType")
 | bl (x:Bool):T9 K H (.bl x) (.type "bool")
 | int (i:Int):T9 K H (.int i) (.type "int")
 | str (x:Str):T9 K H (.str x) (.type "str")
 | flt (x:UInt64):T9 K H (.flt x) (.type "float")
 | lst {a:Addr} {xs:ZQ} (e:H a=some (.lst xs)):T9 K H (.ref a) (.type "list")
 | frz {a:Addr} {o:Obj} {xs:ZQ} (e:H a=some (.frz o (.lst xs))):T9 K H (.ref a) (.type "list")
 | tup {a:Addr} {xs:ZQ} (e:H a=some (.tup xs)):T9 K H (.ref a) (.type "tuple")
 | dK {a:Addr} {XB:List (Key×V)} (e:H a=some (.dK XB)):T9 K H (.ref a) (.type "dict")
 | dT {a:Addr} {XB:List (List Key×V)} (e:H a=some (.dT XB)):T9 K H (.ref a) (.type "dict")
 | ins {a C dx:Addr} {fs:List (Str×V)} (e:H a=some (.ins C dx fs)) (cl:Cls K C) (ha:W.findIn K (.ref C) "__class__" = some (some (.builtin "object.__class__")))
   (hn:W.specialIn K (.builtin "object.__class__") "__get__" = some (some (.builtin "getset_descriptor.__get__"))) (htk:W.takesIn K (.builtin "object.__class__")=some true)
   (hm:W.mroIn K C (.type "object")=some true):T9 K H (.ref a) (.ref C)
theorem V6{x:V}{u t:Value}(I:Inv X XF Z H s)(rx:RelV x u)(ty:T9 X.K H x t)(e:W.kitOne X.K t c=some b)(h:∀tk,Q (.bool b) { s with toks:=tk }) :
  wpAny (model X.prog X.w) A (call (.builtin "isinstance") [u,c]) Q E s:=by
 cases ty with
 | non=>cases(show u=Value.none from rx);exact W.kia_one W.kitx_none I.kIn True.intro e (fun z=>nomatch z) h
 | bl y=>cases(show u=Value.bool y from rx);exact W.kia_one W.kitx_bool I.kIn True.intro e (fun z=>nomatch z) h
 | int i=>obtain⟨t,q⟩:=(show ∃t,u=Value.int i t from rx);cases q;exact W.kia_one W.kitx_int I.kIn True.intro e (fun z=>nomatch z) h
 | str y=>obtain⟨t,q⟩:=(show ∃t,u=Value.str y t from rx);cases q;exact W.kia_one W.kitx_str I.kIn True.intro e (fun z=>nomatch z) h
 | flt y=>obtain⟨t,q⟩:=(show ∃t,u=Value.float y t from rx);cases q;exact W.kia_one W.kitx_float I.kIn True.intro e (fun z=>nomatch z) h
 | @lst a xs ea =>
  cases(show u=Value.ref a from rx);obtain⟨_,_,n,_,h1⟩:=(show Zp X.prog X.w H s.heap a (.lst xs) from I.hok a _ ea);exact W.kia_one W.kitx_list I.kIn ⟨_,h1,rfl⟩ e (fun z=>nomatch z) h
 | @frz a ob xs ea =>
  cases(show u=Value.ref a from rx);obtain⟨_,_,_,n,_,h1⟩:=(show Zp X.prog X.w H s.heap a (.frz ob (.lst xs)) from I.hok a _ ea);exact W.kia_one W.kitx_list I.kIn ⟨_,h1,rfl⟩ e (fun z=>nomatch z) h
 | @tup a xs ea =>
  cases(show u=Value.ref a from rx);obtain⟨_,_,_,p⟩:=(show Zp X.prog X.w H s.heap a (.tup xs) from I.hok a _ ea);obtain⟨o,h1,h2,_⟩:=p;exact W.kia_one W.kitx_tuple I.kIn ⟨o,h1,h2⟩ e (fun z=>nomatch z) h
 | @dK a XB ea =>
  cases(show u=Value.ref a from rx);obtain⟨_,_,vs,_,p⟩:=(show Zp X.prog X.w H s.heap a (.dK XB) from I.hok a _ ea);obtain⟨o,es,ep,h1,h2,_⟩:=p;exact W.kia_one W.kitx_dict I.kIn ⟨o,h1,h2.1⟩ e (fun z=>nomatch z) h
 | @dT a XB ea =>
  cases(show u=Value.ref a from rx);obtain⟨_,_,xs,_,o,es,ep,h1,h2,_⟩:=(show Zp X.prog X.w H s.heap a (.dT XB) from I.hok a _ ea);exact W.kia_one W.kitx_dict I.kIn ⟨o,h1,h2.1⟩ e (fun z=>nomatch z) h
 | @ins a C dx fs ea cl ha hn htk hm =>
  cases(show u=Value.ref a from rx);obtain⟨mA,O,_⟩:=Zxf I.hok ea;obtain⟨od,J,_⟩:=O.look;exact W.kia_one (W.kitx_own (cl.get _) cl.hd ha hn htk hm) I.kIn J e (fun z=>nomatch z) h
end
structure U4(k:Nat)(A:Around):Prop where
 hd:A.handled=none
 dp:A.depth+3 * k+5<recursionLimit
 un:A.units+16 * k+200<cLine
 gd:A.guards=some []
theorem U4.deeper{k:Nat}{A:Around}(r:U4 (k+1) A)(env:Env):U4 k (A.deeper env) :=
 ⟨r.hd,by have:=r.dp;show A.depth+1+3 * k+5<_;omega,by have:=r.un;show A.units+3+16 * k+200<_;omega,r.gd⟩
theorem U4.in1{k:Nat}{A:Around}(r:U4 (k+1) A):U4 k A.in1 :=
 ⟨r.hd,by have:=r.dp;show A.depth+3 * k+5<_;omega,by have:=r.un;show A.units+1+16 * k+200<_;omega,r.gd⟩
theorem U4.depth{k:Nat}{A:Around}(r:U4 k A):A.depth<recursionLimit:=by have:=r.dp;omega
theorem U4.units{k:Nat}{A:Around}(r:U4 k A):A.units+64<cLine:=by have:=r.un;omega
def tNil:TA:=fun _ H Q=>Q [] H
def tCons(ta:TE)(tr:TA):TA:=fun Z H Q=>ta Z H fun x H1=>tr Z H1 fun xs H2=>Q (x::xs) H2
section
variable{X:Cx}{e:Expr}{es:ZC}{te:TE}{t:TA}{pos:Pos}
theorem Qk:PA X [] tNil:=fun _ _ _ _ H Q I h=>Calls.spliced_nil ⟨[],H,I,.nil,h⟩
theorem Nx(ha:PE X e te)(hr:PA X es t)(hs:starEach (e::es) X.env=(false,eval e X.env)::starEach es X.env:=by rfl):PA X (e::es) (tCons te t):=by
 intro pos XF s Z H Q I h;rw[hs];show wpAny _ _ (spliced ((false,eval e X.env)::backTo pos (starEach es X.env))) _ _ s;refine Calls.spliced_cons (Z9 (ha XF s Z H _ I h) fun u s1 ⟨x,H1,I1,r1,q1⟩=>?_);exact Z9 (hr pos XF s1 Z H1 _ I1 q1) fun us s2 ⟨xs,H2,I2,r2,q2⟩=>⟨x::xs,H2,I2,.cons r1 r2,q2⟩
inductive yt(Q:VK)(xs:ZQ)(H1:Hp):Prop
 | mk  (Y1:xs.length<=sizeLine)(Y0:∀p,H1 p=none->Q (.ref p) (upd H1 p (.tup xs))):yt Q xs H1
def tTup(t:TA):TE:=fun Z H Q=>t Z H fun xs H1=>yt Q xs H1
inductive yh(Q:VK)(xs:ZQ)(H1:Hp):Prop
 | mk  (Y1:xs.length<=sizeLine)(Y0:∀p,H1 p=none->Q (.ref p) (upd H1 p (.lst xs))):yh Q xs H1
def tLst(t:TA):TE:=fun Z H Q=>t Z H fun xs H1=>yh Q xs H1
theorem pe_tup{x1}(h:PA X es t):PE X (.Tuple es x1 pos) (tTup t):=by
 intro XF s Z H Q I hq;refine wpAny_Tuple_spliced (Z9 (h pos XF s Z H _ I hq) fun us s1 ⟨xs,H1,I1,r,z,q⟩=>⟨by rw[<-r.length];exact z, ?_⟩);have hf:H1 s1.heap.objs.size=none:=I1.hok.fresh (Z5 _);refine⟨.ref s1.heap.objs.size,upd H1 s1.heap.objs.size (.tup xs),I1.laid (t':=s1.toks) (fun b u e=>Yr _ e) (Z5 _) ?_,rfl,q _ hf⟩;exact⟨z,us,r,⟨_,U1 _ rfl,rfl,⟨_,rfl⟩,rfl⟩⟩
theorem pe_lst(h:PA X es t):PE X (.List es pos) (tLst t):=by
 intro XF s Z H Q I hq;refine wpAny_List_spliced (Z9 (h pos XF s Z H _ I hq) fun us s1 ⟨xs,H1,I1,r,z,q⟩=>⟨by rw[<-r.length];exact z, ?_⟩);have hf:H1 s1.heap.objs.size=none:=I1.hok.fresh (Z5 _);refine⟨.ref s1.heap.objs.size,upd H1 s1.heap.objs.size (.lst xs),I1.laid (t':=s1.toks) (fun b u e=>Yr _ e) (Z5 _) ?_,rfl,q _ hf⟩;exact⟨z,us,0,r,U1 _ rfl⟩
end
abbrev Sp:=ZQ->Hp->VK->XK->Prop
abbrev zh:=List Env->Hp->Shared->XK->Value->Shared->Prop
structure An(P:Program)(w:World)(K:W.Frag)(mg:ZV)(base:Heap)(A:Around)(outer:List Env)(s:Shared)(H:Hp):Prop where
 frames:A.frames=some outer
 mod:Mod K mg base
 bs:∀b o,base.get? b=some o->s.heap.get? b=some o/\H b=none
 bsz:base.objs.size<=s.heap.objs.size
 funs:s.heap.FunFrames base outer
 frf:∀b∈frs outer,H b=none
 hok:Mo P w H s.heap
 bare:AllBare s.gens
def CE(outer:List Env)(P:Program)(w:World)(H:Hp)(s:Shared)(Q:VK)(u:Value)(s':Shared):Prop :=
 ∃v H',s'.os=s.os/\AllBare s'.gens/\Un (frs outer) [] H H' s.heap s'.heap/\Mo P w H' s'.heap/\RelV v u/\Q v H'
def CR(CX:zh)(outer:List Env)(P:Program)(w:World)(H:Hp)(s:Shared)(Q:VK)(E:XK)(r:Result)(s':Shared):Prop :=
 match r with
 | .ok (.ret u)=>CE outer P w H s Q u s'
 | .ok _=>False
 | .error e=>CX outer H s E e s'
structure Dj(P:Program)(w:World)(K:W.Frag)(mg:ZV)(base:Heap)(CX:zh)(k:Nat)(f:Addr)(fd:FuncData)(ps:ZD)(sp:Sp):Prop where
 len:∀vs H Q E,sp vs H Q E->vs.length=ps.length
 run:∀(A:Around) (outer:List Env) (s:Shared) (H:Hp) (args:Args) (us:ZM) (vs:ZQ) (Q:VK) (E:XK),U4 k A->An P w K mg base A outer s H->BindsTo s fd args (ps.zip us)->Zv vs us->sp vs H Q E ->
  codeAny (model P w) A (.call (.ref f) args) (CR CX outer P w H s Q E) s
theorem Dj.imp{P:Program}{w:World}{K:W.Frag}{mg:ZV}{base:Heap}{CX:zh}{k:Nat}{f:Addr}{fd:FuncData}{ps:ZD}{sp sp':Sp}(F:Dj P w K mg base CX k f fd ps sp)
  (h:∀vs H Q E,sp' vs H Q E->sp vs H Q E):Dj P w K mg base CX k f fd ps sp' :=
 ⟨fun vs H Q E q=>F.len vs H Q E (h _ _ _ _ q),fun A outer s H args us vs Q E hr he hb hv hs=>F.run A outer s H args us vs Q E hr he hb hv (h _ _ _ _ hs)⟩
theorem An.in1{P:Program}{w:World}{K:W.Frag}{mg:ZV}{base:Heap}{A:Around}{outer:List Env}{s:Shared}{H:Hp}(e:An P w K mg base A outer s H) :
  An P w K mg base A.in1 outer s H:=⟨e.frames,e.mod,e.bs,e.bsz,e.funs,e.frf,e.hok,e.bare⟩
section
variable{X:Cx}{XF:ZY}{Z:St}{H:Hp}{s s':Shared}
theorem Inv.env0(I:Inv X XF Z H s):An X.prog X.w X.K X.mg X.base X.A X.stack s H :=
 ⟨I.ok.frames,I.ok.mod,I.bs,U0 I.ok.bsz I.sz,I.stack,I.stkFree,I.hok,I.bare⟩
theorem Inv.after{Q:VK}{u:Value}(I:Inv X XF Z H s)(h:CE X.stack X.prog X.w H s Q u s'):EP X XF Z Q u s':=by
 obtain⟨v,H',os,bare,un,hok,r,q⟩:=h;obtain⟨hh,g,d,t,os'⟩:=s';obtain rfl:os'=s.os:=os;exact⟨v,H',I.call (h':=hh) (g':=g) (d':=d) (t':=t) (ch:=[]) un hok bare (fun b z=>absurd z (by simp)),r,q⟩
end
def Zqe(sp:Sp)(dvs:ZQ)(E:XK)(t:TA):TE:=fun Z H Q=>t Z H fun vs H1=>sp (vs++dvs) H1 Q E
def Binds(K:W.Frag)(fd:FuncData)(ps:ZD)(ds:ZM):Prop :=
 ∀(s:Shared) (us:ZM),K.In s.heap->(us++ds).length=ps.length->BindsTo s fd ⟨us,[]⟩ (ps.zip (us++ds))
theorem Binds.all{K:W.Frag}{fd:FuncData}{ps:ZD}(h:∀us:ZM,us.length=ps.length->bindArgs fd ⟨us,[]⟩=pure (ps.zip us)):Binds K fd ps []:=fun s us _ hl=>by
 rw[XQ]at hl ⊢;exact .of_eq (h us hl)
def Ag(CX:zh)(X:Cx)(E:XK):Prop:=∀(XF:ZY) (Z:St) (H:Hp) (s:Shared) (e:Value) (s':Shared),Inv X XF Z H s->CX X.stack H s E e s'->X.xe e s'
section
variable{X:Cx}{CX:zh}{k:Nat}{f C:Addr}{fd:FuncData}{ps:ZD}{sp:Sp}{dvs:ZQ}{ds:ZM}{E:XK}{x m:Str}{p pos apos:Pos}{e o:Expr}{es:ZC}{ta:TE}{t:TA}
theorem k9{XF:ZY}{Z:St}{H:Hp}{s:Shared}{Q:VK}{us:ZM}{vs:ZQ}(F:Dj X.prog X.w X.K X.mg X.base CX k f fd ps sp)(hr:U4 k X.A)(hb:Binds X.K fd ps ds)(hd:Zv dvs ds)(hx:Ag CX X E)
  (I:Inv X XF Z H s) (r:Zv vs us) (h:sp (vs++dvs) H Q E):wpAny (model X.prog X.w) X.A (call (.ref f) us) (EP X XF Z Q) X.xe s:=by
 have r2:Zv (vs++dvs) (us++ds):=r.append hd;have hl:(us++ds).length=ps.length:=by rw[<-r2.length];exact F.len _ _ _ _ h
 refine wpAny_call (codeAny_mono (F.run X.A X.stack s H ⟨us,[]⟩ (us++ds) (vs++dvs) Q E hr I.env0 (hb s us I.kIn hl) r2 h) fun r s' hq=>?_);cases r with
 | error e=>exact hx XF Z H s e s' I hq
 | ok fl =>
  cases fl with
  | ret u=>exact I.after hq
  | next=>exact False.elim hq
  | brk=>exact False.elim hq
  | cont=>exact False.elim hq
theorem Zzf(F:Dj X.prog X.w X.K X.mg X.base CX k f fd ps sp)(hr:U4 k X.A)(hg:Gl X x)(hm:X.mg x=some (.ref f))(hk:W.keepIn X.K (.ref f)=true)(hb:Binds X.K fd ps ds)(hd:Zv dvs ds)(hx:Ag CX X E)
  (ha:PA X (e::es) t) (hdb:(x == ("__debug__" : Str))=false:=by decide) (he:starEach (e::es) X.env=(false,eval e X.env)::starEach es X.env:=by rfl) (Qp:(backTo pos (starEach es X.env)).any (·.1)=false:=by rfl) :
  PE X (.Call (.Name x p) (e::es) [] pos) (Zqe sp dvs E t):=by
 intro XF s Z H Q I h;refine wpAny_Call_Name_kw (Xn I hg hm ?_ hdb);refine W.callWith_K (h₀:=X.base) I.ok.mod.kin hk (Z9 (ha pos XF s Z H _ I h) fun us s1 ⟨vs,H1,I1,r,q⟩=>⟨I1.kIn, ?_⟩) he Qp;exact k9 F hr hb hd hx I1 r q
end
section
variable{X:Cx}{CX:zh}{k:Nat}{f C:Addr}{fd:FuncData}{ps ks:ZD}{sp:Sp}{E:XK}{x m:Str}{p pos apos kpos:Pos}{e o:Expr}{es:ZC}{kws:List Keyword}{te ta:TE}{t tk:TA}{nm:Option Str}
variable{g:ZM->ZM->ZM}{gV:ZQ->ZQ->ZQ}
end
structure Ds(N P:ZD)(sc:Scope):Prop where
 kind:sc.kind=.function
 co:sc.isCoroutine=false
 gen:sc.isGenerator=false
 nd:N.Nodup
 pre:N.take P.length=P
 par:∀x∈P,sc.names.lookup x=some .local\/sc.names.lookup x=some .cell
 nofree:∀y∈sc.names,y.2≠.free
theorem Fw{kindOf:Str->Option NameKind}{x:Str}:∀{binds:List (Str×Value)} {m:ZV},(∀v,(x,v) ∉ binds)->bindL kindOf binds m x=m x
 | [],_,_=>rfl
 | (n,v)::r,m,h=>by
  unfold bindL;rw[Fw fun w hw=>h w (Vf _ hw)]
  split
  .have:x≠n:=by rintro rfl;exact h v Vt
   simp[this]
  .rfl
theorem Fy{kindOf:Str->Option NameKind}{x:Str}:∀{binds:List (Str×Value)} {m:ZV},(∀v,(x,v) ∉ binds)->bindC kindOf binds m x=m x
 | [],_,_=>rfl
 | (n,v)::r,m,h=>by
  unfold bindC;rw[Fy fun w hw=>h w (Vf _ hw)]
  split
  .rfl
  .have:x≠n:=by rintro rfl;exact h v Vt
   simp[this]
theorem Fv{kindOf:Str->Option NameKind}{x:Str}{v:Value}:∀{P:ZD} {vs:ZM} {i:Nat} {m:ZV},P.Nodup->P[i]?=some x->vs[i]?=some v->kindOf x=some .local ->
  bindL kindOf (P.zip vs) m x=some v
 | [],_,_,_,_,h,_,_=>by simp at h
 | _::_,[],_,_,_,_,h,_=>by simp at h
 | p::P,w::vs,0,m,nd,h1,h2,hk=>by
  simp at h1 h2;subst h1;subst h2;show bindL kindOf ((p,w)::P.zip vs) m p=_;unfold bindL;rw[Fw fun v hv=>(List.nodup_cons.mp nd).1 (List.of_mem_zip hv).1,if_pos hk];simp
 | p::P,w::vs,i+1,m,nd,h1,h2,hk=>by
  show bindL kindOf ((p,w)::P.zip vs) m x=_;unfold bindL;exact Fv (i:=i) (List.nodup_cons.mp nd).2 (by simpa using h1) (by simpa using h2) hk
theorem Fg{kindOf:Str->Option NameKind}{x:Str}{v:Value}:∀{P:ZD} {vs:ZM} {i:Nat} {m:ZV},P.Nodup->P[i]?=some x->vs[i]?=some v->kindOf x≠some .local ->
  bindC kindOf (P.zip vs) m x=some v
 | [],_,_,_,_,h,_,_=>by simp at h
 | _::_,[],_,_,_,_,h,_=>by simp at h
 | p::P,w::vs,0,m,nd,h1,h2,hk=>by
  simp at h1 h2;subst h1;subst h2;show bindC kindOf ((p,w)::P.zip vs) m p=_;unfold bindC;rw[Fy fun v hv=>(List.nodup_cons.mp nd).1 (List.of_mem_zip hv).1,if_neg hk];simp
 | p::P,w::vs,i+1,m,nd,h1,h2,hk=>by
  show bindC kindOf ((p,w)::P.zip vs) m x=_;unfold bindC;exact Fg (i:=i) (List.nodup_cons.mp nd).2 (by simpa using h1) (by simpa using h2) hk
noncomputable def start(N:ZD)(vs:ZQ):St:=vs.map some++List.replicate (N.length - vs.length) none
noncomputable def Hl(CX:zh)(P:Program)(w:World)(K:W.Frag)(mg:ZV)(base:Heap)(N:ZD)(qual:Str)(scope:Scope)(f:Addr)(cd:Value)(A:Around)(outer:List Env)(s:Shared)(H:Hp)(E:XK):Cx where
 prog:=P
 w:=w
 K:=K
 mg:=mg
 base:=base
 A:=A.deeper (envOfC qual scope s.heap.objs.size f cd)
 N:=N
 s₀:=s
 H₀:=H
 env:=envOfC qual scope s.heap.objs.size f cd
 outer:=outer
 stack:=envOfC qual scope s.heap.objs.size f cd::outer
 ex:=[]
 calm:=true
 fn:=fun _=>true
 pn:=[]
 xe:=fun e s'=>wpAny (model P w) (A.deeper (envOfC qual scope s.heap.objs.size f cd)) (leaving (envOfC qual scope s.heap.objs.size f cd) e) (fun _ s''=>CX outer H s E e s'') (fun e' s''=>CX outer H s E e' s'') s'
theorem Ey{sc:Scope}{n:Nat}{x:Str}(h:sc.names.lookup x=some .cell):∃c,(cellsFrom n sc.names []).lookup x=some c:=by
 have q:=W.cellsFrom_some sc.names n [] (.inl h);exact Option.isSome_iff_exists.mp q
theorem jx{CX:zh}{P:Program}{w:World}{K:W.Frag}{mg:ZV}{base:Heap}{N ps:ZD}{qual:Str}{scope:Scope}{f:Addr}{cd:Value}{A:Around}{outer:List Env}{s s1:Shared}{H:Hp}{E:XK}{us:ZM}{vs:ZQ}
  (S:Ds N ps scope) (hd:A.handled=none) (e0:An P w K mg base A outer s H) (hl:vs.length=ps.length) (r:Zv vs us)
  (x:InCallC s s.heap.objs.size (bindL (envOfC qual scope s.heap.objs.size f cd).kindOf (ps.zip us) fun _=>none) (cellsFrom (s.heap.objs.size+1) scope.names []) (bindC (envOfC qual scope s.heap.objs.size f cd).kindOf (ps.zip us) fun _=>none) s1) :
  Inv (Hl CX P w K mg base N qual scope f cd A outer s H E) [] (start N vs) H s1:=by
 have Qp:ps.length<=N.length:=by have:=congrArg List.length S.pre;rw[pz]at this;omega
 obtain⟨h1,tk,rfl,hk⟩:=x.done;have noA:∀b:Addr,b ∉ (Hl CX P w K mg base N qual scope f cd A outer s H E).ex:=fun b z=>absurd (show b∈([]:ZU) from z) (by simp)
 refine⟨⟨e0.mod,S.kind,rfl,rfl,Z5 _,fun y z c h1 h2=>?_,fun y hy=>?_,fun y c _ h=>?_,fun _=>hd,Around.frames_deeper e0.frames,.inr ⟨rfl,rfl⟩,fun b z=>absurd z (noA b),e0.bs,e0.bsz,fun b _ _=>noA b,fun b z=>absurd z (noA b),e0.funs,e0.frf⟩,
  rfl,e0.bare,Un.kept hk,⟨_,x.toInCall.ns,fun i y v h1 h2 h3=>?_⟩,fun y c h=>⟨_,x.cell y c h⟩,e0.hok.fresh (Z5 _),fun y c h=>?_,fun p hp=>absurd (show p∈([]:ZY) from hp) (by simp),e0.hok.kept hk, ?_⟩
 .exact name_of_addr x.apart (PySem.mem_of_lookup h1) (PySem.mem_of_lookup h2)
 .have hy:scope.names.lookup y=some .cell\/scope.names.lookup y=some .free:=hy;rcases hy with hy | hy
  .exact Ey hy
  .exact absurd rfl (S.nofree _ (PySem.mem_of_lookup hy))
 .exact Nat.le_of_lt (x.above y c (PySem.mem_of_lookup h))
 .have hi:i<vs.length:=by
   unfold start at h2;by_cases hi:i<vs.length
   .exact hi
   .rw[List.getElem?_append_right (by simpa using hi)]at h2;rw[List.getElem?_replicate]at h2
    split at h2<;>cases h2
  have ha:vs[i]?=some v:=by
   unfold start at h2;rw[G0l (by simpa using hi),Cz]at h2;cases e:vs[i]? with
   | none=>rw[e]at h2;cases h2
   | some a=>rw[e]at h2;cases h2;rfl
  obtain⟨u,hu,rv⟩:=r.get ha
  have hp:ps[i]?=some y:=by
   rw[<-S.pre,List.getElem?_take_of_lt (by omega)];exact h1
  have ndP:ps.Nodup:=by rw[<-S.pre];exact S.nd.sublist (List.take_sublist _ _)
  refine⟨u,rv, ?_⟩;rcases S.par y (M0g hp) with k | k
  .exact .inl ⟨k,Fv ndP hp hu k⟩
  .obtain⟨c,e⟩:=Ey (n:=s.heap.objs.size+1) k;refine .inr ⟨.inl k,c,e, ?_⟩;have q:=x.cell y c e;rw[Fg ndP hp hu (by show scope.names.lookup y≠_;rw[k];decide)]at q;exact q
 .exact e0.hok.fresh (Nat.le_of_lt (x.above y c (PySem.mem_of_lookup h)))
 .unfold start;show _=N.length;rw[Gg,Z4,List.length_replicate];omega
theorem fn_of{CX:zh}{P:Program}{w:World}{K:W.Frag}{mg:ZV}{base:Heap}{k:Nat}{f:Addr}{name qual:Str}{params:Arguments}{body:List Stmt}{scope:Scope}{dV kV doc pm cdv ct oc:Value}{an od:ZP}
  {osl:ZF} {N ps:ZD} {sp:Sp} (lk:K.lookup f=some ⟨oc,od,.func (W.fnOf name qual params body scope dV kV doc pm an cdv ct),osl⟩) (Hy:W.codeIn K cdv qual=true) (S:Ds N ps scope)
  (len:∀vs H Q E,sp vs H Q E->vs.length=ps.length)
  (nj:∀(A:Around) (outer:List Env) (s:Shared) (H:Hp) (vs:ZQ) (Q:VK) (E:XK),U4 k (A.deeper (envOfC qual scope s.heap.objs.size f cdv))->sp vs H Q E ->
   ∃t,W5 (Hl CX P w K mg base N qual scope f cdv A outer s H E) body t/\t { nx:=fun _ H'=>Q .non H',rt:=Q } (start N vs) H) :
  Dj P w K mg base CX (k+1) f (W.fnOf name qual params body scope dV kV doc pm an cdv ct) ps sp:=by
 refine⟨len,fun A outer s H args us vs Q E hr e0 hb r hsp=>?_⟩;have hl:=len _ _ _ _ hsp;have KX:K.In s.heap:=e0.mod.kin.keeps fun b o e=>(e0.bs b o e).1;have lim:s.heap.NoLimit:=e0.mod.nolimit.keeps fun b o e=>(e0.bs b o e).1
 have hkind:∀y∈ps.zip us,scope.names.lookup y.1=some .local\/(scope.names.lookup y.1=some .cell/\((cellsFrom (s.heap.objs.size+1) scope.names []).lookup y.1).isSome=true):=fun⟨n,v⟩ hy=>by
  rcases S.par n (List.of_mem_zip hy).1 with q | q
  .exact .inl q
  .exact .inr ⟨q,W.cellsFrom_some _ _ _ (.inl q)⟩
 refine codeAny_call_function hr.depth (KX _ _ lk) rfl S.co S.gen rfl (W.codeRec_of KX Hy) (hb _ _ _ _ ?_);refine wpAny_newFunctionEnv_cells S.kind hkind fun env he s1 x=>?_;subst he;refine⟨lim.keeps x.toInCall.keep,codeAny_func ?_⟩;obtain⟨t,ht,hq⟩:=nj A outer s H vs Q E (hr.deeper _) hsp;have I:Inv (Hl CX P w K mg base N qual scope f cdv A outer s H E) [] (start N vs) H s1:=jx S hr.hd e0 hl r x;refine wpAny_mono (ht [] s1 (start N vs) H _ I hq) (fun fl s' hs=>?_) fun e s' hs=>hs
 have fin:∀{σ':St} {H':Hp} {v:V} {u:Value},Inv (Hl CX P w K mg base N qual scope f cdv A outer s H E) [] σ' H' s'->RelV v u->Q v H'->CE outer P w H s Q u s' :=
  fun {σ' H' v u} J rv q=>⟨v,H',J.os,J.bare,J.base,J.hok,rv,q⟩
 cases fl with
 | ret u =>
  obtain⟨v,σ',H',J,rv,q⟩:=hs;exact fin J rv q
 | next =>
  obtain⟨σ',H',J,q⟩:=hs;exact fin (v:=V.non) (u:=Value.none) J rfl q
 | brk =>
  obtain⟨_,_,_,q⟩:=hs;exact False.elim q
 | cont =>
  obtain⟨_,_,_,q⟩:=hs;exact False.elim q
section
variable{X:Cx}{x:Str}{p pos:Pos}{e:Expr}{es:ZC}{t:TA}{id T:String}{r:ZQ->Hp->VK->Prop}
def tCB(r:ZQ->Hp->VK->Prop)(t:TA):TE:=fun Z H Q=>t Z H fun vs H1=>r vs H1 Q
theorem C9(hc:Ye X (.builtin id) r)(hg:Gl X x)(hm:X.mg x=none)(hv:bootBuiltins x=some (.builtin id))(ha:PA X (e::es) t)(hn:x ≠ "__name__" := by decide)(hdb:(x == ("__debug__" : Str))=false:=by decide)
  (he:starEach (e::es) X.env=(false,eval e X.env)::starEach es X.env:=by rfl) (Qp:(backTo pos (starEach es X.env)).any (·.1)=false:=by rfl):PE X (.Call (.Name x p) (e::es) [] pos) (tCB r t):=by
 intro XF s Z H Q I h;refine wpAny_Call_Name_kw (Bp I hg hm hv ?_ hn hdb);exact callWith_builtin1 (Z9 (ha pos XF s Z H _ I h) fun us s1 ⟨vs,H1,I1,r1,q1⟩=>hc XF s1 Z H1 vs us Q I1 r1 q1) he Qp
theorem Ll(hc:Ye X (.type T) r)(hg:Gl X x)(hm:X.mg x=none)(hv:bootBuiltins x=some (.type T))(ha:PA X (e::es) t)(hn:x ≠ "__name__" := by decide)(hdb:(x == ("__debug__" : Str))=false:=by decide)
  (he:starEach (e::es) X.env=(false,eval e X.env)::starEach es X.env:=by rfl) (Qp:(backTo pos (starEach es X.env)).any (·.1)=false:=by rfl):PE X (.Call (.Name x p) (e::es) [] pos) (tCB r t):=by
 intro XF s Z H Q I h;refine wpAny_Call_Name_kw (Bp I hg hm hv ?_ hn hdb);exact callWith_type1 (Z9 (ha pos XF s Z H _ I h) fun us s1 ⟨vs,H1,I1,r1,q1⟩=>hc XF s1 Z H1 vs us Q I1 r1 q1) he Qp
end
end L2
namespace HT
open PySem PyProof.Rows
section
open PySem.SeqAt
open PySem.AutoSeq1 (wpAny_loadPart')
open PySem.MeetsSeq PySem.MeetsSeq2 PySem.MeetsSeq3
end
section
variable{prog:Program}{w:World}{A:Around}{E:ZW}{s:Shared}
theorem Zqg{t b:Addr}{vs ws:ZM}{Q:ZW}(ht:IsTup s.heap t vs.toArray)(hb:IsTup s.heap b ws.toArray)(hv:vs≠[])
  (h1:ws=[]->Q (.ref t) s) (h2:ws≠[]->Q (.ref s.heap.objs.size) { s with heap:=s.heap.push { cls:=.type "tuple",data:=.seq (vs++ws).toArray } })
  (hsz:vs.length+ws.length<=sizeLine):wpAny (model prog w) A (binaryOp .Add (.ref t) (.ref b)) Q E s:=by
 obtain⟨⟨cls,dd,data,sl⟩,ho,hc,n,hd⟩:=id ht;obtain⟨⟨cls2,dd2,data2,sl2⟩,ho2,hc2,n2,hd2⟩:=id hb;simp only at hc hd hc2 hd2;subst hc hd hc2 hd2;have e:vs.toArray++ws.toArray=(vs++ws).toArray:=by simp
 by_cases hw:ws=[]
 .exact concat_meets ⟨_,ho,rfl⟩ ⟨_,ho2,rfl⟩ noFill_tuple_add seq_tuple_add PySem.F.slot_tuple_add PySem.F.entry_tuple_add (PySem.F.args_tuple_add_2 _ _)
   (tuple_addW1 t b vs.toArray ws.toArray n n2 dd dd2 sl sl2 (by simpa using hv) (by simp[hw])) ⟨ho,ho2,h1 hw⟩
 .refine concat_meets ⟨_,ho,rfl⟩ ⟨_,ho2,rfl⟩ noFill_tuple_add seq_tuple_add PySem.F.slot_tuple_add PySem.F.entry_tuple_add (PySem.F.args_tuple_add_2 _ _)
   (tuple_addW2 t b vs.toArray ws.toArray n n2 dd dd2 sl sl2 (by simpa using hv) (by simpa using hw) (by rw[Vy,Vy];exact hsz)) ⟨ho,ho2, ?_⟩
  rw[e];exact h2 hw
noncomputable def Yl(n d:Nat):ZR->Nat
 | none=>d
 | some v=>if v<0 then (v+(n:Int)).toNat else min v.toNat n
theorem Ic(n d k:Nat):Yl n d (some (k:Int))=min k n:=by
 show (if (k:Int)<0 then ((k:Int)+(n:Int)).toNat else min (k:Int).toNat n)=min k n;rw[if_neg (by omega),XG]
theorem sIx_le(n d:Nat)(hd:d<=n)(o:ZR):Yl n d o<=n:=by
 cases o with
 | none=>exact hd
 | some v =>
  show (if v<0 then (v+(n:Int)).toNat else min v.toNat n)<=n;by_cases hv:v<0
  .rw[if_pos hv];omega
  .rw[if_neg hv];exact Nat.min_le_right _ _
theorem zy(v:Int)(n d:Nat):(if v<0 then max (v+(n:Int)) 0 else min v (n:Int))=((Yl n d (some v):Nat):Int):=by
 show (if v<0 then max (v+(n:Int)) 0 else min v (n:Int))=(((if v<0 then (v+(n:Int)).toNat else min v.toNat n):Nat):Int);by_cases hv:v<0
 .simp only[if_pos hv];omega
 .simp only[if_neg hv];omega
theorem Ay(lo hi:ZR)(n:Nat):Builtin.Slice.sliceAdjust lo hi 1 (n:Int)=(((Yl n 0 lo:Nat):Int),((Yl n n hi:Nat):Int)):=by
 have h1:¬ ((1:Int)<0):=by omega
 unfold Builtin.Slice.sliceAdjust;simp only[h1,if_false];refine Prod.ext ?_ ?_
 .cases lo with
  | none=>rfl
  | some v=>exact zy v n 0
 .cases hi with
  | none=>rfl
  | some v=>exact zy v n n
theorem K4(i j:Nat):Builtin.Slice.slicePlaces (i:Int) (j:Int) 1=j - i:=by
 unfold Builtin.Slice.slicePlaces;have h1:(1:Int)>0:=by omega
 simp only[h1,if_true,Int.ediv_one]
 split<;>omega
theorem C2{v:Value}{o:ZR}{Q:ZR->Shared->Prop}(p:IsPart v o)(h:Q o s):wpAny (model prog w) A (Builtin.Slice.slicePartIndex v) Q E s:=by
 cases p with
 | none=>exact slicePart_none h
 | int i t=>exact slicePart_int h
theorem U7{sl:Addr}{vl vu:Value}{lo hi:ZR}{n:Nat}{Q:Int×Int×Nat->Shared->Prop}(hs:s.heap.IsSliceOf sl vl vu .none)(pl:IsPart vl lo)(pu:IsPart vu hi)
  (h:Q (((Yl n 0 lo:Nat):Int),1,Yl n n hi - Yl n 0 lo) s):wpAny (model prog w) A (Builtin.Slice.sliceApplied (.ref sl) (pure (n:Int))) Q E s:=by
 obtain⟨os,jy,hcs,wg⟩:=id hs;unfold Builtin.Slice.sliceApplied Builtin.Slice.sliceFields;refine Zx (Zx (wpAny_field jy wg (x:=vl) rfl (Zx (wpAny_field jy wg (x:=vu) rfl (Zx (wpAny_field jy wg (x:=.none) rfl (Zf ?_)))))));refine Zx (slicePart_none ?_);show wpAny _ _ (if ((1:Int) == 0)=true then _ else _) _ _ s;rw[if_neg (by decide)];refine Zx (C2 pl (Zx (C2 pu (Zx (Zf ?_)))));show wpAny _ _ (match Builtin.Slice.sliceAdjust lo hi 1 (n:Int) with | (lo,hi)=>pure (lo,(1:Int),Builtin.Slice.slicePlaces lo hi 1)) _ _ s;rw[Ay lo hi n];show wpAny _ _ (pure (((Yl n 0 lo:Nat):Int),(1:Int),Builtin.Slice.slicePlaces ((Yl n 0 lo:Nat):Int) ((Yl n n hi:Nat):Int) 1)) _ _ s;rw[K4];exact Zf h
theorem bt(xs:ZN)(i k:Nat):((List.range k).filterMap fun(m:Nat)=>xs[((i:Int)+(m:Int) * 1).toNat]?).toArray=((xs.toList.drop i).take k).toArray:=by
 have e:(fun(m:Nat)=>xs[((i:Int)+(m:Int) * 1).toNat]?)=fun m=>xs[i+m]?:=by
  funext m
  have:((i:Int)+(m:Int) * 1).toNat=i+m:=by omega
  rw[this]
 rw[e];have:=pick_run xs i k;rw[List.filterMap_map]at this;have e2:((fun x=>xs[x]?) ∘ fun x=>i+x)=fun m=>xs[i+m]?:=rfl;rw[e2]at this;rw[this]
theorem Nl{t sl:Addr}{items:ZN}{vl vu:Value}{lo hi:ZR}{Q:ZW}(ht:IsTup s.heap t items)(hs:s.heap.IsSliceOf sl vl vu .none)(pl:IsPart vl lo)(pu:IsPart vu hi)
  (hw:¬ (Yl items.size 0 lo=0/\Yl items.size items.size hi=items.size))
  (h:Q (.ref s.heap.objs.size) { s with heap:=s.heap.push { cls:=.type "tuple",data:=.seq ((items.toList.drop (Yl items.size 0 lo)).take (Yl items.size items.size hi - Yl items.size 0 lo)).toArray } })
  (hsz:items.size<=sizeLine):wpAny (model prog w) A (getItem (.ref t) (.ref sl)) Q E s:=by
 have Nd:sizeOk (.seq ((items.toList.drop (Yl items.size 0 lo)).take (Yl items.size items.size hi - Yl items.size 0 lo)).toArray):=by
  show ((items.toList.drop (Yl items.size 0 lo)).take (Yl items.size items.size hi - Yl items.size 0 lo)).toArray.size<=sizeLine;rw[Vy,pz,List.length_drop,W8];omega
 have hj:Yl items.size items.size hi<=items.size:=sIx_le _ _ (Z5 _) hi;obtain⟨os,jy,hcs,wg⟩:=id hs;have hTs:s.TypeIs (.ref sl) "slice" := ⟨os,jy,hcs⟩;unfold getItem
 try with_reducible refine wpAny_holding ?_
 first | refine Zx (Zf ?_) | skip
 refine Zx (wpAny_sequenceKey ht.typeIs (by decide) ?_)
 refine Zx (wpAny_callSpecial?_slot (name:=Str.ofString "__getitem__") ht.typeIs slot_tuple_getitem
  (wpAny_call_entry slot_tuple_getitem ht.typeIs entry_tuple_getitem ?_ (args_tuple_getitem _ _)))
 show wpAny _ _ (Builtin.Tuple.tupleItemsOf (.ref t) >>= _) _ _ s;refine Zx (tupleItemsOf_ ht ?_);refine Zx (wpAny_typeOf hTs ?_);rw[if_pos (by decide)];refine Zx (U7 hs pl pu ?_)
 have hno:¬ ((((Yl items.size 0 lo:Nat):Int) == 0 && (1:Int) == 1 && (Yl items.size items.size hi - Yl items.size 0 lo) == items.size)=true):=by
  intro q;rw[Y8,Y8]at q;have q1:((Yl items.size 0 lo:Nat):Int)=0:=eq_of_beq q.1.1;have q2:Yl items.size items.size hi - Yl items.size 0 lo=items.size:=eq_of_beq q.2;exact hw ⟨by omega,by omega⟩
 show wpAny _ _ (if (((Yl items.size 0 lo:Nat):Int) == 0 && (1:Int) == 1 && (Yl items.size items.size hi - Yl items.size 0 lo) == items.size)=true then _ else _) _ _ s;rw[if_neg hno,bt]
 first
  | exact Zx (m:=Builtin.Tuple.tupleExact _) (wpAny_newObj_type (Zf ⟨_,rfl,Zf h⟩) Nd)
  | exact Zx (m:=Builtin.Tuple.tupleExact _) (wpAny_newObj_type (Zx (Zf (Zf ⟨_,rfl,Zf h⟩))) Nd)
  | exact Zx (Zx (m:=Builtin.Tuple.tupleExact _) (wpAny_newObj_type (Zf (Zf ⟨_,rfl,Zf h⟩)) Nd))
  | exact Zx (Zx (m:=Builtin.Tuple.tupleExact _) (wpAny_newObj_type (Zf ⟨_,rfl,Zf h⟩) Nd))
end
end HT
namespace L2
open PySem PySem.Spec PyProof.Rows
abbrev TO:=St->Hp->(ZR->Hp->Prop)->Prop
def PO(X:Cx)(e:Option Expr)(t:TO):Prop :=
 ∀(XF:ZY) (s:Shared) (Z:St) (H:Hp) (Q:ZR->Hp->Prop),Inv X XF Z H s->t Z H Q ->
  wpAny (model X.prog X.w) X.A (evalPart e X.env) (fun u s'=>∃o H',Inv X XF Z H' s'/\IsPart u o/\Q o H') X.xe s
def ay:TO:=fun _ H Q=>Q none H
inductive Ae(Q:(ZR->Hp->Prop))(x:V)(H1:Hp):Prop
 | mk(i)(Y1:x=.int i)(Y0:Q (some i) H1):Ae Q x H1
def tPart(t:TE):TO:=fun Z H Q=>t Z H fun x H1=>Ae Q x H1
section
variable{X:Cx}{e:Expr}{te:TE}{lo hi:Option Expr}{tl th:TO}{pos p2:Pos}
theorem Xq:PO X none ay:=by
 intro XF s Z H Q I h;rw[evalPart_none];exact Zf ⟨none,H,I,.none,h⟩
theorem Xx(h:PE X e te):PO X (some e) (tPart te):=by
 intro XF s Z H Q I hw;rw[evalPart_some];refine Z9 (h XF s Z H _ I hw) fun u s1 ⟨x,H1,I1,r1,q1⟩=>?_;obtain⟨i,rfl,q⟩:=q1;obtain⟨t,rfl⟩:=r1;exact⟨some i,H1,I1,.int i t,q⟩
def SlR(X:Cx)(r:V->ZR->ZR->Hp->VK->Prop):Prop :=
 ∀(XF:ZY) (s:Shared) (Z:St) (H:Hp) (x:V) (v vl vu:Value) (lo hi:ZR) (sl:Addr) (Q:VK),Inv X XF Z H s->RelV x v->s.heap.IsSliceOf sl vl vu .none->IsPart vl lo->IsPart vu hi->r x lo hi H Q ->
  ∃T id,typeLookup (.type T) "__getitem__" = pure (some (.builtin id))/\s.TypeIs v T/\wpAny (model X.prog X.w) X.A (getItem v (.ref sl)) (EP X XF Z Q) X.xe s
def tSl(r:V->ZR->ZR->Hp->VK->Prop)(te:TE)(tl th:TO):TE:=fun Z H Q=>te Z H fun x H1=>tl Z H1 fun l H2=>th Z H2 fun u H3=>r x l u H3 Q
theorem Oa{r:V->ZR->ZR->Hp->VK->Prop}(hr:SlR X r)(he:PE X e te)(hl:PO X lo tl)(hu:PO X hi th):PE X (.Subscript e (.Slice lo hi none p2) pos) (tSl r te tl th):=by
 intro XF s Z H Q I h;refine Subscript_ (Z9 (he XF s Z H _ I h) fun v s1 ⟨x,H1,I1,r1,q1⟩=>?_);refine wpAny_Slice (Z9 (hl XF s1 Z H1 _ I1 q1) fun vl s2 ⟨l,H2,I2,pl,q2⟩=>Z9 (hu XF s2 Z H2 _ I2 q2) fun vu s3 ⟨u,H3,I3,pu,q3⟩=>?_);rw[evalPart_none];refine Zf ?_;have I4:Inv X XF Z H3 { s3 with heap:=s3.heap.push { cls:=.type "slice",data:=.fields #[vl,vu,.none] } }:=I3.kept (t':=s3.toks) fun b ob q=>Yr _ q;obtain⟨T,id,hT,ht,hg⟩:=hr XF { s3 with heap:=s3.heap.push { cls:=.type "slice",data:=.fields #[vl,vu,.none] } } Z H3 x v vl vu l u s3.heap.objs.size Q I4 r1 (Heap.IsSliceOf.new ..) pl pu q3;show wpAny (model X.prog X.w) X.A (subscriptTail e (.Slice lo hi none p2) v (.ref s3.heap.objs.size)) (EP X XF Z Q) X.xe { s3 with heap:=s3.heap.push { cls:=.type "slice",data:=.fields #[vl,vu,.none] } };exact tail_any (ops:=[.ref s3.heap.objs.size,v]) ht hT hg (by with_unfolding_all rfl)
noncomputable def Rp(xs:ZQ)(lo hi:ZR):ZQ:=(xs.drop (HT.Yl xs.length 0 lo)).take (HT.Yl xs.length xs.length hi - HT.Yl xs.length 0 lo)
theorem Uo(xs:ZQ)(lo hi:ZR):(Rp xs lo hi).length<=xs.length:=by
 unfold Rp;rw[pz,List.length_drop];omega
inductive gu(K:W.Frag)(x:V)(lo:ZR)(hi:ZR)(H:Hp)(Q:VK):Prop
 | mk(a xs)(Y1:x=.ref a)(Y0:Yu K H a xs)(V7:¬ (HT.Yl xs.length 0 lo=0/\HT.Yl xs.length xs.length hi=xs.length))(Wr:∀p,H p=none->Q (.ref p) (upd H p (.tup (Rp xs lo hi)))):gu K x lo hi H Q
def rSlT(K:W.Frag):V->ZR->ZR->Hp->VK->Prop:=fun x lo hi H Q=>gu K x lo hi H Q
theorem sl_tup:SlR X (rSlT X.K):=by
 intro XF s Z H x v vl vu lo hi sl Q I rx hs pl pu h;obtain⟨a,xs,rfl,hx,hw,q⟩:=h;cases rx;obtain⟨XM,r,ht,hz⟩:=I.tuple hx;have hlen:XM.toArray.size=xs.length:=by rw[Vy];exact r.length.symm
 refine⟨"tuple",_,slot_tuple_getitem.lookup,ht.typeIs, ?_⟩;refine HT.Nl ht hs pl pu (by rw[hlen];exact hw) ?_ (by rw[hlen];exact hz);rw[hlen];refine⟨.ref s.heap.objs.size,_,I.laid (t':=s.toks) (o:=.tup (Rp xs lo hi)) (fun b ob q=>Yr _ q) (Z5 _) ?_,rfl,q _ (I.hok.fresh (Z5 _))⟩;exact⟨U0 (Uo xs lo hi) hz,_,(r.drop (HT.Yl xs.length 0 lo)).take (HT.Yl xs.length xs.length hi - HT.Yl xs.length 0 lo),Wx.new _ _⟩
inductive Ie(K:W.Frag)(x:V)(y:V)(H:Hp)(Q:VK):Prop
 | mk(a b xs ys)(Y1:x=.ref a)(Y0:y=.ref b)(V7:Yu K H a xs)(Wr:Yu K H b ys)(wm:xs≠[])(h5_:xs.length+ys.length<=sizeLine)(h6_:(ys=[]->Q (.ref a) H))(h7_:(ys≠[]->∀p,H p=none->Q (.ref p) (upd H p (.tup (xs++ys))))):Ie K x y H Q
def rCatT(K:W.Frag):R2:=fun x y H Q=>Ie K x y H Q
theorem Zv.nil_iff{xs:ZQ}{us:ZM}(r:Zv xs us):us=[]↔xs=[]:=by
 cases r with
 | nil=>simp
 | cons _ _=>simp
theorem Zzu:Jb X (binaryOp .Add) (rCatT X.K):=by
 intro XF s Z H x y v u Q I rx ry h;obtain⟨a,b,xs,ys,rfl,rfl,ha,hb,hx,hz,q1,q2⟩:=h;cases rx;cases ry;obtain⟨XM,r1,p1,_⟩:=I.tuple ha;obtain⟨its2,r2,p2,_⟩:=I.tuple hb;refine HT.Zqg p1 p2 (fun z=>hx (r1.nil_iff.mp z)) (fun z=>⟨.ref a,H,I,rfl,q1 (r2.nil_iff.mp z)⟩) (fun z=>?_) (by rw[<-r1.length, <-r2.length];exact hz);refine⟨.ref s.heap.objs.size,_,I.laid (t':=s.toks) (o:=.tup (xs++ys)) (fun b ob q=>Yr _ q) (Z5 _) ?_,rfl,q2 (fun w=>z (r2.nil_iff.mpr w)) _ (I.hok.fresh (Z5 _))⟩;exact⟨by rw[Gg];exact hz,_,r1.append r2,Wx.new _ _⟩
end
noncomputable def Qr(n:Nat)(i:Int):ZH:=if 0<=i then (if i<n then some i.toNat else none) else if -(n:Int)<=i then some (i+n).toNat else none
noncomputable def Jd{Z:Type}(xs:List Z)(i:Int):Option Z:=(Qr xs.length i).bind fun j=>xs[j]?
theorem Ql{n:Nat}{i:Int}{j:Nat}(h:Qr n i=some j):seqIndex? i n=some j/\j<n/\-(n:Int)<=i/\i<n:=by
 unfold Qr at h;by_cases h0:0<=i
 .rw[if_pos h0]at h;by_cases h1:i<n
  .rw[if_pos h1]at h;have e:i.toNat=j:=D3 h;exact⟨by rw[seqIndex_of h0 h1,e],by omega,by omega,h1⟩
  .rw[if_neg h1]at h;cases h
 .rw[if_neg h0]at h;by_cases h1:-(n:Int)<=i
  .rw[if_pos h1]at h;have e:(i+n).toNat=j:=D3 h;exact⟨by rw[seqIndex_neg (by omega) h1,e],by omega,h1,by omega⟩
  .rw[if_neg h1]at h;cases h
theorem Py{Z:Type}{xs:List Z}{i:Int}{v:Z}(h:Jd xs i=some v):∃j,seqIndex? i xs.length=some j/\xs[j]?=some v/\j<xs.length/\-(xs.length:Int)<=i/\i<xs.length:=by
 unfold Jd at h;cases e:Qr xs.length i with
 | none=>rw[e]at h;cases h
 | some j =>
  rw[e]at h;obtain⟨h1,h2,h3,h4⟩:=Ql e;exact⟨j,h1,h,h2,h3,h4⟩
def zm(b:Expr):Prop:=∀o i,subscripted b false o i=operate [o,i] (getItem o i)
def IxR(X:Cx)(r:R2):Prop :=
 ∀(value slice:Expr) (XF:ZY) (s:Shared) (Z:St) (H:Hp) (x y:V) (v u:Value) (Q:VK),Inv X XF Z H s->RelV x v->RelV y u->r x y H Q ->
  subscripted slice false v u=operate [v,u] (getItem v u)->wpAny (model X.prog X.w) X.A (subscriptTail value slice v u) (EP X XF Z Q) X.xe s
def MtR(X:Cx)(id:String)(r:V->ZQ->Hp->VK->Prop):Prop :=
 ∀(XF:ZY) (s:Shared) (Z:St) (H:Hp) (x:V) (xs:ZQ) (v:Value) (us:ZM) (Q:VK),Inv X XF Z H s->RelV x v->Zv xs us->r x xs H Q ->
  wpAny (model X.prog X.w) X.A (call (.builtin id) (v::us)) (EP X XF Z Q) X.xe s
section
variable{X:Cx}{a b:Expr}{ta tb:TE}{pos:Pos}
theorem pe_ix{r:R2}(hr:IxR X r)(ha:PE X a ta)(hb:PE X b tb)(hs:zm b):PE X (.Subscript a b pos) (tOp r ta tb):=by
 intro XF s Z H Q I h;exact Subscript_ (binT ha hb I h fun v u s2 x y H2 I2 rx ry q=>hr a b XF s2 Z H2 x y v u Q I2 rx ry q (hs _ _))
inductive fg(K:W.Frag)(x:V)(y:V)(H:Hp)(Q:VK):Prop
 | mk(p xs i v)(Y1:x=.ref p)(Y0:y=.int i)(V7:Vi K H p xs)(Wr:Jd xs i=some v)(wm:Q v H):fg K x y H Q
def rIxL(K:W.Frag):R2:=fun x y H Q=>fg K x y H Q
inductive fj(K:W.Frag)(x:V)(y:V)(H:Hp)(Q:VK):Prop
 | mk(p xs i v)(Y1:x=.ref p)(Y0:y=.int i)(V7:Yu K H p xs)(Wr:Jd xs i=some v)(wm:Q v H):fj K x y H Q
def rIxT(K:W.Frag):R2:=fun x y H Q=>fj K x y H Q
inductive fk(x:V)(y:V)(H:Hp)(Q:VK):Prop
 | mk(z i c)(Y1:x=.str z)(Y0:y=.int i)(V7:z.length<=sizeLine)(Wr:Jd z.cps.toList i=some c)(wm:Q (.str ⟨#[c]⟩) H):fk x y H Q
def rIxS:R2:=fun x y H Q=>fk x y H Q
theorem Zxj:IxR X (rIxL X.K):=by
 intro value slice XF s Z H x y v u Q I rx ry h hs;obtain⟨p,xs,i,z,rfl,rfl,hq,he,q⟩:=h;cases rx;obtain⟨t,rfl⟩:=ry;obtain⟨XM,r,pl,hz⟩:=I.list hq;obtain⟨j,h1,h2,h3,h4,h5⟩:=Py he;obtain⟨w,ew,Kh⟩:=r.get h2;have hl:=r.length;have hn:=Br;have fin:EP X XF Z Q w s:=⟨z,H,I,Kh,q⟩;by_cases h0:0<=i
 .have hj:i.toNat=j:=by
   rw[seqIndex_of h0 h5]at h1;exact D3 h1
  exact item_listR pl.isList h0 (by omega) (by rw[hj];simpa using ew) fin hs
 .have hj:(i+(XM.toArray.size:Int)).toNat=j:=by
   rw[seqIndex_neg (by omega) h4]at h1;rw[Vy, <-hl];exact D3 h1
  exact subscriptTail_builtinR (x:=w) pl.isList.typeIs slot_list_getitem.lookup
   (wpAny_getItem_list_neg (Q:=fun r s'=>r=w/\EP X XF Z Q r s') pl.isList (by omega) (by rw[Vy]<;>omega) (by omega) (by rw[hj];simpa using ew) ⟨rfl,fin⟩) hs
theorem ix_tup:IxR X (rIxT X.K):=by
 intro value slice XF s Z H x y v u Q I rx ry h hs;obtain⟨p,xs,i,z,rfl,rfl,hq,he,q⟩:=h;cases rx;obtain⟨t,rfl⟩:=ry;obtain⟨XM,r,pl,hz⟩:=I.tuple hq;obtain⟨j,h1,h2,h3,h4,h5⟩:=Py he;obtain⟨w,ew,Kh⟩:=r.get h2;have hl:=r.length;have hn:=Br;have fin:EP X XF Z Q w s:=⟨z,H,I,Kh,q⟩
 exact subscriptTail_builtinR (x:=w) pl.typeIs slot_tuple_getitem.lookup
  (getItem_tuple (j:=j) (Q:=fun r s'=>r=w/\EP X XF Z Q r s') pl (by omega) (by omega) (by rw[Vy, <-hl];exact h1) (by simpa using ew) ⟨rfl,fin⟩) hs
theorem ix_str:IxR X rIxS:=by
 intro value slice XF s Z H x y v u Q I rx ry h hs;obtain⟨z,i,c,rfl,rfl,hz,he,q⟩:=h;obtain⟨t,rfl⟩:=rx;obtain⟨t',rfl⟩:=ry;obtain⟨j,h1,h2,h3,h4,h5⟩:=Py he;have hl:z.cps.toList.length=z.length:=by simp[Str.length]
 rw[hl]at h1 h4 h5;have hn:=Br
 exact tail_any (typeIs_str s z t) slot_str_getitem.lookup (getItem_str (c:=c) (by
  have e1:decide (i < -(2 ^ 63:Int))=false:=Mp (by omega);have e2:decide (i ≥ 2 ^ 63)=false:=Mp (by omega);rw[e1,e2,Bool.or_false]) (by rw[h1];simpa using h2) ⟨.str ⟨#[c]⟩,H,I.tok _,⟨_,rfl⟩,q⟩) hs
theorem K8(XM:ZM)(n j:Nat)(u:Value):Obj.mapSeq (·.setIfInBounds j u) { cls:=.type "list",data:=.seq XM.toArray n }={ cls:=.type "list",data:=.seq (XM.set j u).toArray n }:=by
 simp[Obj.mapSeq]
theorem Inv.lst{XF:ZY}{Z:St}{H:Hp}{s:Shared}{p:Addr}{xs:ZQ}(I:Inv X XF Z H s)(h:H p=some (.lst xs)) :
  ∃(XM:ZM) (n:Nat),Zv xs XM/\s.heap.get? p=some { cls:=.type "list",data:=.seq XM.toArray n }/\xs.length<=sizeLine:=by
 obtain⟨z,XM,n,r,e⟩:=I.hok p _ h;exact⟨XM,n,r,e,z⟩
theorem Inv.lstUpd{XF:ZY}{Z:St}{H:Hp}{s:Shared}{p:Addr}{xs ys:ZQ}{XM its':ZM}{n n':Nat}{f:Obj->Obj}(I:Inv X XF Z H s)(h:H p=some (.lst xs))
  (ho:s.heap.get? p=some { cls:=.type "list",data:=.seq XM.toArray n }) (hf:f { cls:=.type "list",data:=.seq XM.toArray n }={ cls:=.type "list",data:=.seq its'.toArray n' }) (r:Zv ys its') (hz:ys.length<=sizeLine) (t:Nat) :
  Inv X XF Z (upd H p (.lst ys)) { s with heap:=s.heap.update p f,toks:=t }:=by
 have e:(s.heap.update p f).get? p=some { cls:=.type "list",data:=.seq its'.toArray n' }:=by
  rw[Heap.get?_update_self f ho (by rw[hf]<;>rfl),hf]
 refine I.write (x:=p) (e:=p) (by rw[h];trivial) (.inl rfl) (fun b u hb q=>(Heap.get?_update_other _ _ (Ne.symm hb)).trans q) ⟨_,e⟩ ?_;exact⟨hz,its',n',r,e⟩
inductive Ii(o:V)(i:V)(v:V)(H:Hp)(Q:(Hp->Prop)):Prop
 | mk(p xs k j)(Y1:o=.ref p)(Y0:i=.int k)(V7:H p=some (.lst xs))(Wr:Qr xs.length k=some j)(wm:Q (upd H p (.lst (xs.set j v)))):Ii o i v H Q
def rSetL:V->V->V->Hp->(Hp->Prop)->Prop:=fun o i v H Q=>Ii o i v H Q
theorem set_list:PSet X rSetL:=by
 intro XF s Z H o i v ov iv u Q I ro ri rv h;obtain⟨p,xs,k,j,rfl,rfl,hp,hj,q⟩:=h;cases ro;obtain⟨t,rfl⟩:=ri;obtain⟨XM,n,r,ho,hz⟩:=I.lst hp;obtain⟨h1,h2,h3,h4⟩:=Ql hj;have hl:=r.length;have hn:=Br
 have I':Inv X XF Z (upd H p (.lst (xs.set j v))) { s with heap:=s.heap.update p (Obj.mapSeq (·.setIfInBounds j u)) } :=
  I.lstUpd hp ho (K8 XM n j u) (r.set rv j) (by rw[XY];exact hz) s.toks
 by_cases h0:0<=k
 .have hk:k.toNat=j:=by
   rw[seqIndex_of h0 h4]at h1;exact D3 h1
  exact W.ki_setAt ho h0 (by omega) (by rw[Vy, <-hl];exact h4) (by rw[hk];exact⟨_,I',q⟩)
 .have hk:(k+(XM.toArray.size:Int)).toNat=j:=by
   rw[seqIndex_neg (by omega) h3]at h1;rw[Vy, <-hl];exact D3 h1
  exact W.ki_setBack ho (by omega) (by rw[Vy, <-hl];exact h3) (by omega) (by rw[hk];exact⟨_,I',q⟩)
theorem Qz(lo hi:ZR)(n:Nat):(sliceBounds lo hi none n).1=((HT.Yl n 0 lo:Nat):Int)/\(sliceBounds lo hi none n).2.1=((HT.Yl n n hi:Nat):Int)/\(sliceBounds lo hi none n).2.2=1:=by
 refine⟨?_, ?_,rfl⟩
 .cases lo with
  | none=>simp[sliceBounds,HT.Yl]
  | some i =>
   simp only[sliceBounds,HT.Yl,Option.getD_none,show (1:Int)>0 by decide,if_true];by_cases h:i<0
   .simp only[h,if_true]<;>omega
   .simp only[h,if_false]<;>omega
 .cases hi with
  | none=>simp[sliceBounds,HT.Yl]
  | some i =>
   simp only[sliceBounds,HT.Yl,Option.getD_none,show (1:Int)>0 by decide,if_true];by_cases h:i<0
   .simp only[h,if_true]<;>omega
   .simp only[h,if_false]<;>omega
theorem Wf(XM:ZM)(lo hi:ZR):slicePick XM.toArray lo hi none=((XM.drop (HT.Yl XM.length 0 lo)).take (HT.Yl XM.length XM.length hi - HT.Yl XM.length 0 lo)).toArray:=by
 obtain⟨h1,h2,h3⟩:=Qz lo hi XM.toArray.size;unfold slicePick;rw[h1,h2,h3];simp only[sliceRange_one,pick_run,Vy]<;>rfl
inductive gi(K:W.Frag)(x:V)(lo:ZR)(hi:ZR)(H:Hp)(Q:VK):Prop
 | mk(a xs)(Y1:x=.ref a)(Y0:Vi K H a xs)(V7:∀p,H p=none->Q (.ref p) (upd H p (.lst (Rp xs lo hi)))):gi K x lo hi H Q
def rSlL(K:W.Frag):V->ZR->ZR->Hp->VK->Prop:=fun x lo hi H Q=>gi K x lo hi H Q
theorem o7:SlR X (rSlL X.K):=by
 intro XF s Z H x v vl vu lo hi sl Q I rx hs pl pu h;obtain⟨a,xs,rfl,hx,q⟩:=h;cases rx;obtain⟨XM,r,ht,hz⟩:=I.list hx;have hlen:=r.length;refine⟨"list",_,slot_list_getitem.lookup,ht.isList.typeIs, ?_⟩;refine wpAny_getItem_list_slice ht.isList hs pl pu .none (by simp) ?_ (by rw[Vy]<;>omega);rw[Wf, <-hlen];refine⟨.ref s.heap.objs.size,_,I.laid (t':=s.toks) (o:=.lst (Rp xs lo hi)) (fun b ob q=>Yr _ q) (Z5 _) ?_,rfl,q _ (I.hok.fresh (Z5 _))⟩;exact⟨U0 (Uo xs lo hi) hz,_,0,(r.drop (HT.Yl xs.length 0 lo)).take (HT.Yl xs.length xs.length hi - HT.Yl xs.length 0 lo),U1 _ rfl⟩
def Uk:V->Bool
 | .non=>true
 | .bl _=>true
 | .int _=>true
 | .str _=>true
 | _=>false
noncomputable def lx:V->V->Bool
 | .non,.non=>true
 | .bl a,.bl b=>a == b
 | .bl a,.int b=>(if a then 1 else 0) == b
 | .int a,.bl b=>a == (if b then 1 else 0)
 | .int a,.int b=>a == b
 | .str a,.str b=>a == b
 | _,_=>false
theorem lg{A:Around}{s:Shared}{y x:V}{u v:Value}(ry:RelV y u)(rx:RelV x v)(fy:Uk y=true)(fx:Uk x=true):SeqAt.EqAt A s u v (lx y x):=by
 cases y with
 | non =>
  cases ry;cases x with
  | non=>cases rx;exact SeqAt.EqAt.same _
  | bl b=>cases rx;exact SeqAt.EqAt.none_bool b
  | int b=>obtain⟨t,rfl⟩:=rx;exact SeqAt.EqAt.none_int b t
  | str b=>obtain⟨t,rfl⟩:=rx;exact SeqAt.EqAt.none_str b t
  | _=>exact absurd (show false=true from fx) Ti
 | bl a =>
  cases ry;cases x with
  | non=>cases rx;exact SeqAt.EqAt.bool_none a
  | bl b=>cases rx;exact SeqAt.EqAt.bool_bool a b
  | int b=>obtain⟨t,rfl⟩:=rx;exact SeqAt.EqAt.bool_int a b t
  | str b=>obtain⟨t,rfl⟩:=rx;exact SeqAt.EqAt.bool_str a b t
  | _=>exact absurd (show false=true from fx) Ti
 | int a =>
  obtain⟨t',rfl⟩:=ry;cases x with
  | non=>cases rx;exact SeqAt.EqAt.int_none a t'
  | bl b=>cases rx;exact SeqAt.EqAt.int_bool a t' b
  | int b=>obtain⟨t,rfl⟩:=rx;exact SeqAt.EqAt.int_int a t' b t
  | str b=>obtain⟨t,rfl⟩:=rx;exact SeqAt.EqAt.int_str a t' b t
  | _=>exact absurd (show false=true from fx) Ti
 | str a =>
  obtain⟨t',rfl⟩:=ry;cases x with
  | non=>cases rx;exact SeqAt.EqAt.str_none a t'
  | bl b=>cases rx;exact SeqAt.EqAt.str_bool a t' b
  | int b=>obtain⟨t,rfl⟩:=rx;exact SeqAt.EqAt.str_int a t' b t
  | str b=>obtain⟨t,rfl⟩:=rx;exact SeqAt.EqAt.str_str a t' b t
  | _=>exact absurd (show false=true from fx) Ti
 | _=>exact absurd (show false=true from fy) Ti
noncomputable def Ht(x:V)(u:Value):Bool:=match u with
 | .none=>lx .non x
 | .bool b=>lx (.bl b) x
 | .int i _=>lx (.int i) x
 | .str z _=>lx (.str z) x
 | _=>false
theorem lq{x y:V}{u:Value}(r:RelV y u)(f:Uk y=true):Ht x u=lx y x:=by
 cases y with
 | non=>cases r;rfl
 | bl b=>cases r;rfl
 | int i=>obtain⟨t,rfl⟩:=r;rfl
 | str z=>obtain⟨t,rfl⟩:=r;rfl
 | _=>exact absurd (show false=true from f) Ti
theorem N9{x:V}:∀{xs:ZQ} {us:ZM},Zv xs us->xs.all Uk=true->us.any (Ht x)=xs.any fun y=>lx y x
 | _,_,.nil,_=>rfl
 | y::xs,u::us,.cons r t,f=>by
  rw[List.all_cons,Y8]at f;rw[List.any_cons,List.any_cons,lq r f.1,N9 t f.2]
theorem G3{A:Around}{s:Shared}{x:V}{v:Value}(rx:RelV x v)(fx:Uk x=true):∀{xs:ZQ} {us:ZM},Zv xs us->xs.all Uk=true->∀u∈us,SeqAt.EqAt A s u v (Ht x u)
 | _,_,.nil,_=>fun u hu=>by cases hu
 | y::xs,u::us,.cons r t,f=>fun u' hu=>by
  rw[List.all_cons,Y8]at f;rcases Y3.mp hu with rfl | hu
  .rw[lq r f.1];exact lg r rx f.1 fx
  .exact G3 rx fx t f.2 u' hu
noncomputable def inV(x:V)(xs:ZQ):Bool:=xs.any fun y=>lx y x
inductive Zq6(K:W.Frag)(neg:Bool)(x:V)(y:V)(H:Hp)(Q:VK):Prop
 | mk(p xs)(Y1:y=.ref p)(Y0:(Vi K H p xs\/Yu K H p xs))(V7:Uk x=true)(Wr:xs.all Uk=true)(wm:Q (.bl (if neg then !inV x xs else inV x xs)) H):Zq6 K neg x y H Q
def rIn(K:W.Frag)(neg:Bool):R2:=fun x y H Q=>Zq6 K neg x y H Q
theorem qr:Jb X (compareOp .In) (rIn X.K false):=by
 intro XF s Z H x y v u Q I rx ry h;obtain⟨p,xs,rfl,hq,fx,fs,q⟩:=h;cases ry;rcases hq with hq | hq
 .obtain⟨XM,r,pl,hz⟩:=I.list hq;refine SeqAt.in_listAt (Ht x) pl.isList (fun w hw=>G3 rx fx r fs w (by simpa using hw)) ⟨.bl _,H,I,rfl, ?_⟩;rw[show XM.toArray.any (Ht x)=XM.any (Ht x) by simp,N9 r fs];exact q
 .obtain⟨XM,r,pl,hz⟩:=I.tuple hq;refine SeqAt.in_tupleAt (Ht x) pl (fun w hw=>G3 rx fx r fs w (by simpa using hw)) ⟨.bl _,H,I,rfl, ?_⟩;rw[show XM.toArray.any (Ht x)=XM.any (Ht x) by simp,N9 r fs];exact q
theorem Qf:Jb X (compareOp .NotIn) (rIn X.K true):=by
 intro XF s Z H x y v u Q I rx ry h;obtain⟨p,xs,rfl,hq,fx,fs,q⟩:=h;cases ry;rcases hq with hq | hq
 .obtain⟨XM,r,pl,hz⟩:=I.list hq;refine SeqAt.notIn_listAt (Ht x) pl.isList (fun w hw=>G3 rx fx r fs w (by simpa using hw)) ⟨.bl _,H,I,rfl, ?_⟩;rw[show XM.toArray.any (Ht x)=XM.any (Ht x) by simp,N9 r fs];exact q
 .obtain⟨XM,r,pl,hz⟩:=I.tuple hq;refine SeqAt.notIn_tupleAt (Ht x) pl (fun w hw=>G3 rx fx r fs w (by simpa using hw)) ⟨.bl _,H,I,rfl, ?_⟩;rw[show XM.toArray.any (Ht x)=XM.any (Ht x) by simp,N9 r fs];exact q
inductive G8(K:W.Frag)(xs:ZQ)(H:Hp)(Q:VK):Prop
 | mk(p ys)(Y1:xs=[.ref p])(Y0:(Vi K H p ys\/Yu K H p ys))(V7:Q (.int ys.length) H):G8 K xs H Q
theorem N4:Ye X (.builtin "len") (fun xs H Q=>G8 X.K xs H Q):=by
 intro XF s Z H xs us Q I r h;obtain⟨p,ys,rfl,hq,q⟩:=h;obtain⟨u,rfl,rx⟩:=vals1 r;cases rx;have hn:=Br;rcases hq with hq | hq
 .obtain⟨XM,r',pl,hz⟩:=I.list hq;have hlen:=r'.length;exact Calls.call_len_list pl.isList (by simp only[Vy]<;>omega) ⟨.int ys.length,H,I.tok _,⟨s.toks+1,by rw[Vy,hlen]⟩,q⟩
 .obtain⟨XM,r',pl,hz⟩:=I.tuple hq;have hlen:=r'.length;exact len_tuple pl (by simp only[Vy]<;>omega) ⟨.int ys.length,H,I.tok _,⟨s.toks+1,by rw[Vy,hlen]⟩,q⟩
inductive G7(K:W.Frag)(xs:ZQ)(H:Hp)(Q:VK):Prop
 | mk(p ys)(Y1:xs=[.ref p])(Y0:(Vi K H p ys\/Yu K H p ys))(V7:∀l,H l=none->Q (.ref l) (upd H l (.lst ys))):G7 K xs H Q
theorem N0:Ye X (.type "list") (fun xs H Q=>G7 X.K xs H Q):=by
 intro XF s Z H xs us Q I r h;obtain⟨p,ys,rfl,hq,q⟩:=h;obtain⟨u,rfl,rx⟩:=vals1 r;cases rx
 have fin:∀(XM:ZM),Zv ys XM->ys.length<=sizeLine->∀(h':Heap) (c':Nat),(∀b o',s.heap.get? b=some o'->h'.get? b=some o') ->
   h'.get? s.heap.objs.size=some { cls:=.type "list",dict:=none,data:=.seq XM.toArray c',slots:=#[] }->EP X XF Z Q (.ref s.heap.objs.size) { s with heap:=h' }:=fun XM r' hz h' c' kp e =>
  ⟨.ref s.heap.objs.size,_,I.laid (t':=s.toks) kp (Z5 _) (show Zp X.prog X.w _ h' _ (.lst ys) from⟨hz,XM,c',r',e⟩),rfl,q _ (I.hok.fresh (Z5 _))⟩
 rcases hq with hq | hq
 .obtain⟨XM,r',pl,hz⟩:=I.list hq;have hlen:=r'.length;obtain⟨o,ho,hc,n,hd⟩:=pl.isList;exact call_list_seq p (.inl rfl) ho hc hd (fun h' c' kp e=>fin XM r' hz h' c' kp e) (by simp only[Vy]<;>omega)
 .obtain⟨XM,r',pl,hz⟩:=I.tuple hq;have hlen:=r'.length;obtain⟨o,ho,hc,n,hd⟩:=pl;exact call_list_seq p (.inr rfl) ho hc hd (fun h' c' kp e=>fin XM r' hz h' c' kp e) (by simp only[Vy]<;>omega)
inductive Gb(K:W.Frag)(xs:ZQ)(H:Hp)(Q:VK):Prop
 | mk(p ys)(Y1:xs=[.ref p])(Y0:((Vi K H p ys/\∀l,H l=none->Q (.ref l) (upd H l (.tup ys)))\/(Yu K H p ys/\Q (.ref p) H))):Gb K xs H Q
theorem Wi:Ye X (.type "tuple") (fun xs H Q=>Gb X.K xs H Q):=by
 intro XF s Z H xs us Q I r h;obtain⟨p,ys,rfl,h⟩:=h;obtain⟨u,rfl,rx⟩:=vals1 r;cases rx;rcases h with ⟨hq,q⟩ | ⟨hq,q⟩
 .obtain⟨XM,r',pl,hz⟩:=I.list hq;have hlen:=r'.length;refine call_tuple_list pl.isList (fun h' kp=>?_) (by simp only[Vy]<;>omega);have I1:Inv X XF Z H { s with heap:=h' }:=I.kept (t':=s.toks) kp
  have I2:Inv X XF Z (upd H h'.objs.size (.tup ys)) { s with heap:=h'.push { cls:=.type "tuple",data:=.seq XM.toArray } } :=
   I1.laid (t':=s.toks) (fun b o e=>Yr _ e) (Z5 _) (show Zp X.prog X.w _ _ _ (.tup ys) from⟨hz,XM,r',Wx.new _ _⟩)
  exact⟨.ref h'.objs.size,_,I2,rfl,q _ (I1.hok.fresh (Z5 _))⟩
 .obtain⟨XM,r',pl,hz⟩:=I.tuple hq;exact call_tuple_same pl ⟨.ref p,H,I,rfl,q⟩
def tyV(K:W.Frag)(T:String)(x:V)(H:Hp):Prop:=match x with
 | .str _=>T = "str"
 | .int _=>T = "int"
 | .ref p=>(T = "list" /\ ∃xs,Vi K H p xs)\/(T = "tuple" /\ ∃o,K.lookup p=some o/\o.cls=.type "tuple" /\ o.dict=none) \/
   (T = "dict" /\ ((∃XB,H p=some (.dK XB))\/∃XB,H p=some (.dT XB)))\/(T = "set" /\ ∃S n,H p=some (.set S n))
 | _=>False
theorem yy{XF:ZY}{Z:St}{H:Hp}{s:Shared}{T:String}{x:V}{v:Value}(I:Inv X XF Z H s)(r:RelV x v)(ty:tyV X.K T x H) :
  s.TypeIs v T/\∀a,v=.ref a->∃ob,s.heap.get? a=some ob/\ob.dict=none:=by
 cases x with
 | str z =>
  obtain⟨t,rfl⟩:=r;cases(show T = "str" from ty);exact⟨typeIs_str s z t,fun _ e=>nomatch e⟩
 | int i =>
  obtain⟨t,rfl⟩:=r;cases(show T = "int" from ty);exact⟨typeIs_int s i t,fun _ e=>nomatch e⟩
 | ref p =>
  cases r;rcases ty with ⟨rfl,xs,hq⟩ | ⟨rfl,o,hk,hc,hd⟩ | ⟨rfl,hk⟩ | ⟨rfl,S,n,hk⟩
  .obtain⟨XM,_,pl,_⟩:=I.list hq;refine⟨pl.isList.typeIs,fun a e=>?_⟩;cases e;obtain⟨o,n,e,c,hd,_⟩:=pl;exact⟨o,e,hd⟩
  .refine⟨⟨o,I.kIn p o hk,hc⟩,fun a e=>?_⟩;cases e;exact⟨o,I.kIn _ o hk,hd⟩
  .have z:∃o,s.heap.get? p=some o/\o.ExactDict:=by
    rcases hk with ⟨XB,hk⟩ | ⟨XB,hk⟩
    .obtain⟨_,_,_,_,o,_,_,e,ex,_⟩:=I.hok p _ hk;exact⟨o,e,ex⟩
    .obtain⟨_,_,_,_,o,_,_,e,ex,_⟩:=I.hok p _ hk;exact⟨o,e,ex⟩
   obtain⟨o,e,ex⟩:=z;refine⟨⟨o,e,ex.1⟩,fun a e2=>?_⟩;cases e2;exact⟨o,e,ex.2.1⟩
  .obtain⟨o,_,_,_,e,ex,_⟩:=I.hok p _ hk;refine⟨⟨o,e,ex.1⟩,fun a e2=>?_⟩;cases e2;exact⟨o,e,ex.2.1⟩
 | _=>exact False.elim ty
def tBM0(K:W.Frag)(T:String)(r:V->ZQ->Hp->VK->Prop)(to:TE):TE:=fun Z H Q=>to Z H fun x H1=>tyV K T x H1/\r x [] H1 Q
def tBM(K:W.Frag)(T:String)(r:V->ZQ->Hp->VK->Prop)(to:TE)(t:TA):TE:=fun Z H Q=>to Z H fun x H1=>tyV K T x H1/\t Z H1 fun xs H2=>r x xs H2 Q
variable{o e:Expr}{es:ZC}{to:TE}{t:TA}{name:Str}{apos cpos:Pos}{T id:String}{r:V->ZQ->Hp->VK->Prop}
theorem pe_bm0(pa:PlainAttrs T)(slot:Slot T name id)(hty:typeOf (.builtin id)=pure (.type "method_descriptor"))(hm:MtR X id r)(ho:PE X o to)
  (Nc:attributeBase o name X.env (eval o X.env)=eval o X.env:=by rfl) (Nt:(apos.endLine == cpos.line)=true:=by rfl):PE X (.Call (.Attribute o name apos) [] [] cpos) (tBM0 X.K T r to):=by
 intro XF s Z H Q I h;refine wpAny_Call_method0_late Nc Nt (Z9 (ho XF s Z H _ I h) fun v s1 ⟨x,H1,I1,r1,ty,q1⟩=>?_);obtain⟨h1,h2⟩:=yy I1 r1 ty;exact⟨T,id,pa,slot,hty,h1,h2,Calls.callWith_builtin rfl (PySem.evalArgs_none (hm XF s1 Z H1 x [] v [] Q I1 r1 .nil q1))⟩
theorem Xw(pa:PlainAttrs T)(slot:Slot T name id)(hty:typeOf (.builtin id)=pure (.type "method_descriptor"))(hm:MtR X id r)(ho:PE X o to)(ha:PA X (e::es) t)
  (Nc:attributeBase o name X.env (eval o X.env)=eval o X.env:=by rfl)
  (hfew:((backTo cpos (starEach (e::es) X.env)).all (fun x=>!x.1) && (backToKw cpos (keywordEach [] X.env)).all (fun x=>x.1.isSome)
   && decide ((e::es).length+([]:List Keyword).length+(if ([]:List Keyword).isEmpty then 0 else 1)<30))=true:=by rfl)
  (Nt:(apos.endLine == cpos.line)=true:=by rfl) (hs:starEach (e::es) X.env=(false,eval e X.env)::starEach es X.env:=by rfl) (hplain:(backTo cpos (starEach es X.env)).any (·.1)=false:=by rfl) :
  PE X (.Call (.Attribute o name apos) (e::es) [] cpos) (tBM X.K T r to t):=by
 intro XF s Z H Q I h;refine wpAny_Call_method_late Nc hfew Nt rfl (Z9 (ho XF s Z H _ I h) fun v s1 ⟨x,H1,I1,r1,ty,q1⟩=>?_);obtain⟨h1,h2⟩:=yy I1 r1 ty;refine⟨T,id,pa,slot,hty,h1,h2, ?_⟩;have hA:=ha cpos XF s1 Z H1 _ I1 q1;rw[hs]at hA ⊢;refine Calls.callWith_builtin (by show (false || (backTo cpos (starEach es X.env)).any (·.1))=false;rw[hplain]<;>rfl) (Calls.evalArgs_plain ?_);exact Z9 hA fun us s2 ⟨vs,H2,I2,r2,q2⟩=>hm XF s2 Z H2 x vs v us Q I2 r1 r2 q2
end
def MtM(X:Cx)(id:String)(r:V->ZQ->Hp->VK->Prop):Prop :=
 ∀(XF:ZY) (s:Shared) (Z:St) (H:Hp) (x:V) (xs:ZQ) (v:Value) (us:ZM) (Q:VK),Inv X XF Z H s->RelV x v->Zv xs us->r x xs H Q ->
  wpAny (model X.prog X.w) X.A (call (.builtin id) (v::us)) (EP X XF Z Q) X.xe s
theorem Zv.one:∀{x:V} {us:ZM},Zv [x] us->∃u,us=[u]/\RelV x u
 | _,_,.cons r .nil=>⟨_,rfl,r⟩
theorem Zv.zero:∀{us:ZM},Zv [] us->us=[]
 | _,.nil=>rfl
theorem Zv.eraseIdx:∀{xs:ZQ} {us:ZM} (i:Nat),Zv xs us->Zv (xs.eraseIdx i) (us.eraseIdx i)
 | _,_,_,.nil=>.nil
 | _,_,0,.cons _ t=>t
 | _,_,i+1,.cons r t=>.cons r (Zv.eraseIdx i t)
theorem Zv.reverse{xs:ZQ}{us:ZM}(h:Zv xs us):Zv xs.reverse us.reverse:=by
 induction h with
 | nil=>exact .nil
 | cons r t ih=>rw[List.reverse_cons,List.reverse_cons];exact Zv.append ih (.cons r .nil)
theorem Zv.rep{xs:ZQ}{us:ZM}(h:Zv xs us):∀k:Nat,Zv (List.replicate k xs).flatten (List.replicate k us).flatten
 | 0=>.nil
 | k+1=>by
  rw[List.replicate_succ,List.replicate_succ,List.flatten_cons,List.flatten_cons];exact Zv.append h (Zv.rep h k)
theorem Lp{Z:Type}:∀(l:List Z) (i:Nat),(l.eraseIdx i).length<=l.length
 | [],_=>Z5 _
 | _::_,0=>Nat.le_succ _
 | _::r,i+1=>Nat.succ_le_succ (Lp r i)
theorem foldl_rep(XM:ZM):∀(k:Nat) (acc:ZM),
  List.foldl (fun x1 x2=>x1++x2) acc.toArray (List.replicate k XM.toArray)=(acc++(List.replicate k XM).flatten).toArray
 | 0,acc=>by simp
 | k+1,acc=>by
  have e:acc.toArray++XM.toArray=(acc++XM).toArray:=by simp
  have e2:(acc++XM)++(List.replicate k XM).flatten=acc++(List.replicate (k+1) XM).flatten:=by
   rw[List.replicate_succ,List.flatten_cons,XX]
  rw[<-e2, <-foldl_rep XM k (acc++XM), <-e,List.replicate_succ,List.foldl_cons]
section
variable{X:Cx}{XF:ZY}{Z:St}{H:Hp}{s:Shared}{l b:Addr}{xs ys zs:ZQ}
theorem Inv.lset{XM its':ZM}{n:Nat}{f:ZN->ZN}{t':Nat}(I:Inv X XF Z H s)(hH:H l=some (.lst xs))
  (e:s.heap.get? l=some { cls:=.type "list",data:=.seq XM.toArray n }) (hf:f XM.toArray=its'.toArray) (hv:Zv ys its') (hz:ys.length<=sizeLine) :
  Inv X XF Z (upd H l (.lst ys)) { s with heap:=s.heap.update l (Obj.mapSeq f),toks:=t' }:=by
 have q:=PySem.IsL.update e f;rw[hf]at q;refine I.write (x:=l) (e:=l) (by rw[hH];exact trivial) (.inl rfl) (fun b' u hb hu=>(Heap.get?_update_other s.heap (Obj.mapSeq f) (Ne.symm hb)).trans hu) ⟨_,q⟩ ?_;exact⟨hz,its',_,hv,q⟩
theorem Inv.lnew{XM:ZM}{t':Nat}(I:Inv X XF Z H s)(hv:Zv ys XM)(hz:ys.length<=sizeLine) :
  Inv X XF Z (upd H s.heap.objs.size (.lst ys)) { s with heap:=s.heap.push { cls:=.type "list",data:=.seq XM.toArray },toks:=t' } :=
 I.laid (fun _ _ q=>Yr _ q) (Z5 _) ⟨hz,XM,0,hv,U1 _ rfl⟩
theorem Inv.fresh(I:Inv X XF Z H s):H s.heap.objs.size=none:=I.hok.fresh (Z5 _)
theorem Inv.lstM(I:Inv X XF Z H s)(hH:H l=some (.lst xs)):xs.length<=sizeLine/\∃(XM:ZM) (n:Nat),Zv xs XM/\xs.length=XM.length/\s.heap.get? l=some { cls:=.type "list",data:=.seq XM.toArray n }:=by
 obtain⟨z,XM,n,r,e⟩:=I.hok l _ hH;exact⟨z,XM,n,r,r.length,e⟩
theorem dc{n:Nat}(h:n<=sizeLine):Builtin.List.listTooLong n=false:=by
 unfold Builtin.List.listTooLong;exact Mp (by omega)
end
section
variable{X:Cx}
inductive Ln(x:V)(vs:ZQ)(H:Hp)(Q:VK):Prop
 | mk(l xs y)(Y1:x=.ref l)(Y0:vs=[y])(V7:H l=some (.lst xs))(Wr:xs.length<sizeLine)(wm:Q .non (upd H l (.lst (xs++[y])))):Ln x vs H Q
def i6:V->ZQ->Hp->VK->Prop:=fun x vs H Q=>Ln x vs H Q
theorem Lh:MtM X "list.append" i6:=by
 intro XF s Z H x vs v us Q I rx rv h;obtain⟨l,xs,y,rfl,rfl,hH,hz,q⟩:=h;cases rx;obtain⟨u,rfl,ru⟩:=rv.one;obtain⟨z,XM,n,r,hl,e⟩:=I.lstM hH;refine call_meets F.slot_list_append ⟨_,e,rfl⟩ F.entry_list_append (F.args_list_append_2 _ _) (PySem.list_append l XM.toArray n u (by rw[Vy];omega)) ⟨e, ?_⟩;refine⟨.non,_,I.lset (its':=XM++[u]) hH e (by simp) (r.append (.cons ru .nil)) ?_,rfl,q⟩;rw[Gg,ZI];omega
inductive Oh(x:V)(vs:ZQ)(H:Hp)(Q:VK):Prop
 | mk(l xs i k y)(Y1:x=.ref l)(Y0:vs=[.int i])(V7:H l=some (.lst xs))(Wr:-(2 ^ 63)<=i)(wm:i<2 ^ 63)(h5_:seqIndex? i xs.length=some k)(h6_:xs[k]?=some y)(h7_:Q y (upd H l (.lst (xs.eraseIdx k)))):Oh x vs H Q
def rPopAt:V->ZQ->Hp->VK->Prop:=fun x vs H Q=>Oh x vs H Q
theorem de:MtM X "list.pop" rPopAt:=by
 intro XF s Z H x vs v us Q I rx rv h;obtain⟨l,xs,i,k,y,rfl,rfl,hH,h1,h2,hk,hy,q⟩:=h;cases rx;obtain⟨u,rfl,ru⟩:=rv.one;obtain⟨t,rfl⟩:=ru;obtain⟨z,XM,n,r,hl,e⟩:=I.lstM hH;obtain⟨w,hw,Kh⟩:=r.get hy
 refine call_meets F.slot_list_pop ⟨_,e,rfl⟩ F.entry_list_pop (F.args_list_pop_2 _ _)
  (MeetsSeq.list_pop_at l XM.toArray n i t k w (fitsIndex_both h1 h2) (by rw[Vy, <-hl];exact hk) (by rw[<-Array.getElem?_toList];exact hw) (by rw[Vy];omega)) ⟨e, ?_⟩
 refine⟨y,_,I.lset (its':=XM.eraseIdx k) hH e ?_ (r.eraseIdx k) ?_,Kh,q⟩
 .show XM.toArray.eraseIdxIfInBounds k=(XM.eraseIdx k).toArray;rw[List.eraseIdxIfInBounds_toArray]
 .have:=Lp xs k;omega
theorem len_rep{Z:Type}(xs:List Z)(k:Nat):(List.replicate k xs).flatten.length=k * xs.length:=by
 induction k with
 | zero=>simp
 | succ k ih=>rw[List.replicate_succ,List.flatten_cons,Gg,ih,Nat.succ_mul,Nat.add_comm]
end
section
variable{prog:Program}{w:World}{A:Around}{E:ZW}{s:Shared}
end
section
variable{X:Cx}
end
end L2
namespace Att
open PySem PySem.W PySem.Calls PyProof.Rows
theorem T3{P:Params}{h:Heap}:∀(ns:ZL) (vs:ZM),WellAll P h vs (ns.map WData.int)->IntsAre vs ns:=by
 intro ns
 induction ns with
 | nil =>
  intro vs w;rw[List.map_nil]at w;cases w;exact .nil
 | cons n ns ih =>
  intro vs w;rw[Gh]at w;cases w with
  | cons a b =>
   cases a;exact .cons _ _ (ih _ b)
theorem xf{l:OpenLaw}{n:Nat}(hn:l.most=some n){P:Params}{h:Heap}{args:List WData}{vals:ZM}
  (Sv:l.row.toRowW.claim.pre args=true) (hwl:WellAll P h vals args) :
  ∃a vs ns,vals=[Value.ref a]/\args=[WData.list (ns.map WData.int)]/\h.get? a=some { cls:=.type "list",data:=.seq vs.toArray }/\IntsAre vs ns/\ns.length<=n:=by
 have hsh:WShape.hasAll [] args [.list .int]=true:=(pre_splitW Sv).1;have hc:l.pre.holds [] { args:=args }=true:=(pre_splitW Sv).2;obtain⟨d,r,rfl,h1,h2⟩:=hasAllW_cons hsh;obtain rfl:=hasAllW_nil h2;obtain⟨xs,rfl,h3⟩:=hasW_list h1;obtain⟨ns,rfl⟩:=items_int h3
 have hlen:ns.length<=n:=by
  unfold OpenLaw.pre at hc
  have h4:(WTm.not (.lt (.lit (.int (n:Int))) (.len (.arg 0)))).holds [] { args:=[.list (ns.map .int)] }=true:=by
   have h4:=(holds_andW hc).1;rw[hn]at h4;exact h4
  have h5:=condW_of h4 (w_not (w_lt w_lit (w_len_list (w_arg rfl))));rw[Z4]at h5;refine Nat.le_of_not_lt fun q=>?_;have q':(n:Int)<((ns.length:Nat):Int):=by omega
  first
   | (rw[Mi q']at h5;exact absurd h5 (by decide))
   | (simp at h5;omega)
 cases hwl with
 | cons w1 w2 =>
  cases w2;cases w1 with
  | list ho hall=>exact⟨_,_,ns,rfl,rfl,ho,T3 ns _ hall,hlen⟩
theorem qj(l:OpenLaw)(args:List WData):l.row.toRowW.claim.post args (.bool true) args=true :=
 postW_of (r:=l.row.toRowW) (X:=(true == true))
  (show WShape.has [] (.bool true) .bool=true by first | rfl | decide | simp[WShape.has,WShape.arms,WShape.armsAll])
  (show (WTm.eq .res (.lit (.bool true))).value [] { args:=args,res:=some (.bool true),after:=args }=some (.bool (true == true)) from w_eq_bool (w_res rfl) w_lit) rfl
theorem Ed{l:OpenLaw}{n:Nat}{q:Program}{loose:ZD}{XP:(ZV)->Heap->Prop}{YP:World->Heap->Prop}{d:DefRec}
  (hn:l.most=some n) (hdf:d.params.defaults=[])
  (call:∀(w:World) (s₀ s₁:Shared) (mg mb:ZV) (fa:Addr) (o:Obj) (pm cd doc:Value) (a:Addr) (vs:ZM) (ns:ZL),
   Ground q loose [] XP w s₀ mg mb s₁.heap->YP w s₁.heap ->
   s₁.heap.get? fa=some o->o.data=.func (docDef d.name d.params d.body d.scope pm cd doc)->s₁.heap.CodeRec cd d.name->mg d.name=some (.ref fa) ->
   s₁.heap.get? a=some { cls:=.type "list",data:=.seq vs.toArray }->IntsAre vs ns->ns.length<=n->s₁.gens=#[] ->
   codeAny (model l.prog w) callerA (.call (.ref fa) ⟨[.ref a],[]⟩) (fun r s'=>r=.ok (.ret (.bool true))/\OldK s₁.heap s'.heap/\s'.os=s₁.os/\AllBare s'.gens) s₁) :
  WalkO q loose XP YP l.row.toRowW d [] (fun f vs=>PySem.call f vs):=by
 intro w s₀ s₁ mg mb G Y fa o pm cd doc dV kV ho hd Hy hD hmg hg args vals as Sv hlay hrd hwl hlo;obtain rfl:dV=.none:=Dflts.none hD hdf;obtain rfl:kV=.none:=Dflts.noKw hD;obtain⟨a,vs,ns,rfl,rfl,hobj,hints,hlen⟩:=xf hn Sv hwl;refine enter_call (codeAny_mono (call w s₀ s₁ mg mb fa o pm cd doc a vs ns G Y ho (fd_plain hd) Hy hmg hobj hints hlen hg) fun r s' hq=>?_);obtain⟨rfl,h2,h3,h4⟩:=hq;exact⟨.inl ⟨.bool true,.bool true,[],rfl,fun _=>rfl,.bool true,qj l _,fun _=>⟨List.Pairwise.nil,fun _ hm=>(nomatch hm)⟩⟩,h2,h3,h4⟩
section
variable{prog:Program}{w:World}{A:Around}{E:ZW}{s:Shared}{K:Frag}
end
end Att
namespace L2
open PySem PySem.Spec PyProof.Rows
theorem Dv:∀{vs:ZM} {ns:ZL},IntsAre vs ns->Zv (ns.map V.int) vs
 | _,_,.nil=>.nil
 | _,_,.cons n t h=>.cons ⟨t,rfl⟩ (Dv h)
def Only(H:Hp):Prop:=∀b,H b=none\/∃o xs,H b=some (.frz o (.lst xs))
theorem t6{P:Program}{w:World}{K:W.Frag}{mg mb:ZV}{CX:zh}{k:Nat}{fa a:Addr}{fd:FuncData}{x:Str}{sp:Sp}{s₁:Shared}{vs:ZM}{ns:ZL}
  (KX:K.In s₁.heap) (E5:s₁.heap.Ns mainGlobals mg) (hb:s₁.heap.Ns builtinsNs mb) (hbb:∀x:Str,x ≠ "__name__" -> mb x=bootBuiltins x) (hlim:s₁.heap.NoLimit) (hg:s₁.gens=#[])
  (ha:s₁.heap.get? a=some { cls:=.type "list",data:=.seq vs.toArray }) (hi:IntsAre vs ns) (hl:ns.length<=sizeLine) (hr:U4 k callerA)
  (F:∀base:Heap,K.In base->base.Ns mainGlobals mg->Dj P w K mg base CX k fa fd [x] sp) (hbind:∀(s:Shared) (u:Value),BindsTo s fd ⟨[u],[]⟩ [(x,u)])
  (hsp:∀H:Hp,Only H->Vi K H a (ns.map V.int)->sp [.ref a] H (fun v _=>v=.bl true) fun _ _ _=>False)
  (hCX:∀H e s',CX [] H s₁ (fun _ _ _=>False) e s'->False) :
  codeAny (model P w) callerA (.call (.ref fa) ⟨[.ref a],[]⟩) (fun r s'=>r=.ok (.ret (.bool true))/\OldK s₁.heap s'.heap/\s'.os=s₁.os/\AllBare s'.gens) s₁:=by
 have rv:=Dv hi;have lenV:=hi.length
 have core:∀H:Hp,Only H->Vi K H a (ns.map V.int)->Mo P w H s₁.heap->(∀b,H b≠none->b=a)->(H a≠none->K.lookup a=none) ->
   codeAny (model P w) callerA (.call (.ref fa) ⟨[.ref a],[]⟩) (fun r s'=>r=.ok (.ret (.bool true))/\OldK s₁.heap s'.heap/\s'.os=s₁.os/\AllBare s'.gens) s₁:=by
  intro H hO hS hok hA hK;have base_of:∀{b:Addr} {o:Obj},s₁.heap.get? b=some o->H b=none->(Qu s₁.heap H).get? b=some o:=fun e n=>c8 e n
  have noA:∀{b:Addr} {o:Obj} {es:Array DictEntry} {ep:Nat},s₁.heap.get? b=some o->o.data=.dict es ep->H b=none:=fun {b o es ep} e d=>by
   cases q:H b with
   | none=>rfl
   | some u =>
    have e':b=a:=hA b (by rw[q];simp);subst e';rw[ha]at e;cases e;have d':Data.seq vs.toArray _=Data.dict es ep:=d;cases d'
  have nsK:∀{b:Addr} {m:ZV},s₁.heap.Ns b m->(Qu s₁.heap H).Ns b m:=fun {b m} ⟨o,es,ep,e,d,r⟩=>⟨o,es,ep,base_of e (noA e d),d,r⟩
  have hKb:K.In (Qu s₁.heap H):=fun b o e=>base_of (KX b o e) (by
   cases q:H b with
   | none=>rfl
   | some u =>
    have e':b=a:=hA b (by rw[q];simp);subst e';rw[hK (by rw[q];simp)]at e;cases e)
  have hM:Mod K mg (Qu s₁.heap H):=⟨hKb,nsK E5,⟨mb,nsK hb,hbb⟩,let ⟨mc,h1,h2⟩:=hlim;⟨mc,nsK h1,h2⟩⟩;have e0:An P w K mg (Qu s₁.heap H) callerA [] s₁ H:=⟨rfl,hM,fun b o e=>Zz0 e,Nat.le_of_eq (jg _ _),trivial,fun b hb=>absurd (show b∈([]:ZU) from hb) (by simp),hok,.of_eq hg⟩;refine codeAny_mono ((F _ hKb (nsK E5)).run callerA [] s₁ H ⟨[.ref a],[]⟩ [.ref a] [.ref a] _ _ hr e0 (hbind s₁ (.ref a)) (.cons rfl .nil) (hsp H hO hS)) fun r s' h=>?_;cases r with
  | error e=>exact(hCX H e s' h).elim
  | ok fl =>
   cases fl with
   | next=>exact False.elim h
   | brk=>exact False.elim h
   | cont=>exact False.elim h
   | ret u =>
    obtain⟨v,H',os,bare,un,hok',r',q⟩:=h;have q':v=.bl true:=q;subst q';obtain rfl:u=Value.bool true:=r';refine⟨rfl,OldK.of_keep fun b o e=>?_,os,bare⟩;cases q:H b with
    | none=>exact un.keep b o e q (by intro z;exact absurd (show b∈([]:ZU) from z) (by simp)) (by simp)
    | some u =>
     rcases hO b with z | ⟨ob,xs,z⟩
     .rw[q]at z;cases z
     .have z2:=un.frzs b ob _ z;obtain⟨e1,_⟩:=hok b _ z;obtain⟨e2,_⟩:=hok' b _ z2;rw[e]at e1;cases e1;exact e2
 cases hk:K.lookup a with
 | some o =>
  have e:=KX a o hk;rw[ha]at e;cases e;refine core (fun _=>none) (fun _=>.inl rfl) (.inr ⟨_,vs.toArray,_,hk,rfl,rfl,rfl,by rw[Vy,lenV];exact hl,by simpa using rv⟩) (fun b u z=>by have z':(none:Option HO)=some u:=z;cases z') (fun b z=>absurd rfl z) fun z=>absurd rfl z
 | none =>
  refine core (fun b=>if b=a then some (.frz { cls:=.type "list",data:=.seq vs.toArray } (.lst (ns.map V.int))) else none) (fun b=>?_) (.inl (.inr ⟨{ cls:=.type "list",data:=.seq vs.toArray },if_pos rfl⟩)) (fun b u z=>?_) (fun b z=>?_) fun _=>hk
  .by_cases hb:b=a
   .exact .inr ⟨_,_,if_pos hb⟩
   .exact .inl (if_neg hb)
  .by_cases hb:b=a
   .have z':=(if_pos hb).symm.trans z;cases z';subst hb;exact⟨ha,by rw[Z4];exact hl,vs,_,rv,ha⟩
   .have z':=(if_neg hb).symm.trans z;cases z'
  .by_cases hb:b=a
   .exact hb
   .exact absurd (if_neg hb) z
theorem um{l:W.OpenLaw}{n k:Nat}{q:Program}{loose:ZD}{XP:(ZV)->Heap->Prop}{YP:World->Heap->Prop}{d:DefRec}{K:Params->W.Frag}{CX:World->zh}{sp:World->Sp}{x:Str}
  (hn:l.most=some n) (hn2:n<=sizeLine) (hdf:d.params.defaults=[]) (hr:U4 k callerA)
  (hY:∀(w:World) (h:Heap),YP w h->(K w.params).In h)
  (F:∀(w:World) (mg:ZV) (fa:Addr) (h:Heap),(K w.params).In h->h.Ns mainGlobals mg->mg d.name=some (.ref fa) ->
   ∃fd:FuncData,(∀(s:Shared) (u:Value),BindsTo s fd ⟨[u],[]⟩ [(x,u)]) /\
    ∀base:Heap,(K w.params).In base->base.Ns mainGlobals mg->Dj l.prog w (K w.params) mg base (CX w) k fa fd [x] (sp w))
  (hsp:∀(w:World) (H:Hp) (a:Addr) (ns:ZL),ns.length<=n->Only H->Vi (K w.params) H a (ns.map V.int)->sp w [.ref a] H (fun v _=>v=.bl true) fun _ _ _=>False)
  (hCX:∀(w:World) (H:Hp) (s:Shared) (e:Value) (s':Shared),CX w [] H s (fun _ _ _=>False) e s'->False) :
  W.WalkO q loose XP YP l.row.toRowW d [] (fun f vs=>PySem.call f vs):=by
 refine Att.Ed hn hdf fun w s₀ s₁ mg mb fa o pm cd doc a vs ns G Y ho hd Hy hmg hobj hints hlen hg=>?_;have KX:=hY w _ Y;obtain⟨fd,hb,hF⟩:=F w mg fa _ KX G.T.g hmg;exact t6 KX G.T.g G.T.b G.T.builtins G.T.nolimit hg hobj hints (U0 hlen hn2) hr hF hb (fun H hO hS=>hsp w H a ns hlen hO hS) fun H e s'=>hCX w H s₁ e s'
abbrev uy:zh:=fun _ _ _ _ _ _=>False
abbrev E0:XK:=fun _ _ _=>False
theorem Zjz{X:Cx}:Ag uy X E0:=fun _ _ _ _ _ _ _ h=>h.elim
structure Fun(K:W.Frag)(x qual:Str)(st:Stmt)(f:Addr)(fd:FuncData):Prop where
 ex:∃(oc:Value) (od:ZP) (kV doc pm:Value) (an:ZP) (cdv ct:Value) (osl:ZF),
  fd=W.fnOf x qual (J3 st) (Y2 st) (Zk st) .none kV doc pm an cdv ct/\K.lookup f=some ⟨oc,od,.func fd,osl⟩/\W.codeIn K cdv qual=true
 kp:W.keepIn K (.ref f)=true
section
variable{P:Program}{w:World}{K:W.Frag}{mg:ZV}{base:Heap}
theorem Fun.ok{x qual:Str}{st:Stmt}{f:Addr}{fd:FuncData}{N ps:ZD}{k:Nat}{sp:Sp}(F:Fun K x qual st f fd)(S:Ds N ps (Zk st))(len:∀vs H Q E,sp vs H Q E->vs.length=ps.length)
  (nj:∀(cdv:Value) (A:Around) (outer:List Env) (s:Shared) (H:Hp) (vs:ZQ) (Q:VK) (E:XK),U4 k (A.deeper (envOfC qual (Zk st) s.heap.objs.size f cdv))->sp vs H Q E ->
   ∃t,W5 (Hl uy P w K mg base N qual (Zk st) f cdv A outer s H E).nox (Y2 st) t/\t { nx:=fun _ H'=>Q .non H',rt:=Q } (start N vs) H):Dj P w K mg base uy (k+1) f fd ps sp:=by
 obtain⟨oc,od,kV,doc,pm,an,cdv,ct,osl,rfl,lk,Hy⟩:=F.ex;refine fn_of lk Hy S len fun A outer s H vs Q E hr hsp=>?_;obtain⟨t,h,q⟩:=nj cdv A outer s H vs Q E hr hsp;exact⟨t,h.nox,q⟩
theorem Fun.binds{x qual:Str}{st:Stmt}{f:Addr}{fd:FuncData}{ps:ZD}(F:Fun K x qual st f fd)
  (h:∀(kV doc pm:Value) (an:ZP) (cdv ct:Value) (us:ZM),us.length=ps.length->bindArgs (W.fnOf x qual (J3 st) (Y2 st) (Zk st) .none kV doc pm an cdv ct) ⟨us,[]⟩=pure (ps.zip us)):Binds K fd ps []:=by
 obtain⟨oc,od,kV,doc,pm,an,cdv,ct,osl,rfl,lk,Hy⟩:=F.ex;exact .all (h kV doc pm an cdv ct)
theorem Z0{x qual:Str}{st:Stmt}{f:Addr}{oc:Value}{od an:ZP}{osl:ZF}{kV doc pm cdv ct:Value}(l:K.lookup f=some ⟨oc,od,.func (W.fnOf x qual (J3 st) (Y2 st) (Zk st) .none kV doc pm an cdv ct),osl⟩)
  (c:W.codeIn K cdv qual=true) (k:W.keepIn K (.ref f)=true):Fun K x qual st f (W.fnOf x qual (J3 st) (Y2 st) (Zk st) .none kV doc pm an cdv ct):=⟨⟨oc,od,kV,doc,pm,an,cdv,ct,osl,rfl,l,c⟩,k⟩
end
theorem Ly{n:Nat}(h:n<=1000):n<sizeLine:=N0o h (by decide)
theorem sz(n:Nat)(h:n<=sizeLine:=by decide):n<=sizeLine:=h
section
variable{X:Cx}
end
theorem iteF{A B:Prop}(h:B):if false=true then A else B:=by
 rw[if_neg Ti];exact h
theorem Zxv{A B:Prop}(h:A):if true=true then A else B:=by
 rw[if_pos rfl];exact h
def Zd(H H':Hp):Prop:=∀b o,H b=some o->H' b=some o
theorem Zd.refl(H:Hp):Zd H H:=fun _ _ h=>h
theorem Zd.trans{H H1 H2:Hp}(a:Zd H H1)(b:Zd H1 H2):Zd H H2:=fun c o h=>b c o (a c o h)
theorem Zd.free{H H':Hp}(e:Zd H H'){l:Addr}(h:H' l=Option.none):H l=Option.none:=by
 cases q:H l with
 | none=>rfl
 | some o =>
  rw[e l o q]at h;cases h
inductive D where
 | non | bl(b:Bool) | int(i:Int) | str(x:Str) | tup(xs:List D) | lst(xs:List D)
mutual
def Vc(K:W.Frag)(H:Hp):D->V->Prop
 | .non,v=>v=.non
 | .bl b,v=>v=.bl b
 | .int i,v=>v=.int i
 | .str x,v=>v=.str x
 | .tup ds,v=>∃a vs,v=.ref a/\Yu K H a vs/\Zo K H ds vs
 | .lst ds,v=>∃a vs,v=.ref a/\Vi K H a vs/\Zo K H ds vs
def Zo(K:W.Frag)(H:Hp):List D->ZQ->Prop
 | [],vs=>vs=[]
 | d::ds,vs=>∃v r,vs=v::r/\Vc K H d v/\Zo K H ds r
end
mutual
noncomputable def Yp:D->D->Bool
 | .non,.non=>true
 | .bl a,.bl b=>a == b
 | .bl a,.int b=>(if a then 1 else 0) == b
 | .int a,.bl b=>a == (if b then 1 else 0)
 | .int a,.int b=>a == b
 | .str a,.str b=>a == b
 | .tup xs,.tup ys=>Ml xs ys
 | .lst xs,.lst ys=>Ml xs ys
 | _,_=>false
noncomputable def Ml:List D->List D->Bool
 | [],[]=>true
 | x::xs,y::ys=>Yp x y && Ml xs ys
 | _,_=>false
end
mutual
noncomputable def Jw:D->Nat
 | .tup xs=>Na xs+1
 | .lst xs=>Na xs+1
 | _=>0
noncomputable def Na:List D->Nat
 | []=>0
 | d::ds=>max (Jw d) (Na ds)
end
mutual
theorem S5:∀d:D,Yp d d=true
 | .non=>rfl
 | .bl b=>by simp[Yp]
 | .int b=>by simp[Yp]
 | .str b=>by simp[Yp]
 | .tup xs=>by simp only[Yp];exact B2 xs
 | .lst xs=>by simp only[Yp];exact B2 xs
theorem B2:∀d:List D,Ml d d=true
 | []=>rfl
 | x::xs=>by simp only[Ml,S5 x,B2 xs,Bool.and_self]
end
theorem Zo.length{K:W.Frag}{H:Hp}:∀{ds:List D} {vs:ZQ},Zo K H ds vs->ds.length=vs.length
 | [],vs,h=>by
  have e:vs=[]:=h;subst e
  rfl
 | d::ds,vs,h=>by
  obtain⟨v,r,e,_,h2⟩:=(show ∃v r,vs=v::r/\Vc K H d v/\Zo K H ds r from h);rw[e,Gs,Gs,Zo.length h2]
theorem Zo.get{K:W.Frag}{H:Hp}:∀{ds:List D} {vs:ZQ} {i:Nat} {d:D},Zo K H ds vs->ds[i]?=some d->∃v,vs[i]?=some v/\Vc K H d v
 | [],vs,i,d,_,e=>by simp at e
 | d::ds,vs,0,d',h,e=>by
  obtain⟨v,r,rfl,h1,_⟩:=(show ∃v r,vs=v::r/\Vc K H d v/\Zo K H ds r from h);simp at e;subst e;exact⟨v,rfl,h1⟩
 | d::ds,vs,i+1,d',h,e=>by
  obtain⟨v,r,rfl,_,h2⟩:=(show ∃v r,vs=v::r/\Vc K H d v/\Zo K H ds r from h);obtain⟨v',e1,h3⟩:=Zo.get (i:=i) h2 (by simpa using e);exact⟨v',by simpa using e1,h3⟩
theorem Jj:∀{ds:List D} {d:D},d∈ds->Jw d<=Na ds
 | d::ds,d',h=>by
  simp only[Na];rcases Y3.mp h with e | h
  .subst e;omega
  .have:=Jj h;omega
theorem Ya:∀ds es:List D,((List.range (min ds.length es.length)).all (fun j=>Yp (ds.getD j .non) (es.getD j .non)) && ds.length == es.length)=Ml ds es
 | [],[]=>rfl
 | [],e::es=>by simp[Ml]
 | d::ds,[]=>by simp[Ml]
 | d::ds,e::es=>by
  have ih:=Ya ds es;have e1:min (d::ds).length (e::es).length=min ds.length es.length+1:=by simp only[Gs];omega
  rw[e1,List.range_succ_eq_map];simp only[List.all_cons,List.all_map,Ml, <-ih,Gs,List.getD_cons_zero]
  have e2:((ds.length+1 == es.length+1):Bool)=(ds.length == es.length):=by
   rw[Bool.eq_iff_iff];simp
  rw[e2,Bool.and_assoc]
  rfl
section
variable{X:Cx}{XF:ZY}{Z:St}{H:Hp}{s:Shared}
theorem Inv.not_both(I:Inv X XF Z H s){a:Addr}{xs ys:ZQ}(h:Vi X.K H a xs)(h':Yu X.K H a ys):False:=by
 obtain⟨XM,r,⟨o,n,e,c,_⟩,_⟩:=I.list h;obtain⟨its',r',⟨o',e',c',_⟩,_⟩:=I.tuple h';rw[e]at e';cases e';rw[c]at c'
 injection c' with c''
 exact absurd c'' (by decide)
mutual
theorem Vc.inj(I:Inv X XF Z H s):∀(d e:D) (v:V),Vc X.K H d v->Vc X.K H e v->d=e
 | .non,e,v,h,h'=>by
  have q:v=.non:=h;subst q;cases e with
  | non=>rfl
  | tup _=>obtain⟨_,_,z,_⟩:=h';cases z
  | lst _=>obtain⟨_,_,z,_⟩:=h';cases z
  | _=>cases(show V.non=_ from h')
 | .bl b,e,v,h,h'=>by
  have q:v=.bl b:=h;subst q;cases e with
  | bl c=>cases(show V.bl b=V.bl c from h');rfl
  | tup _=>obtain⟨_,_,z,_⟩:=h';cases z
  | lst _=>obtain⟨_,_,z,_⟩:=h';cases z
  | _=>cases(show V.bl b=_ from h')
 | .int b,e,v,h,h'=>by
  have q:v=.int b:=h;subst q;cases e with
  | int c=>cases(show V.int b=V.int c from h');rfl
  | tup _=>obtain⟨_,_,z,_⟩:=h';cases z
  | lst _=>obtain⟨_,_,z,_⟩:=h';cases z
  | _=>cases(show V.int b=_ from h')
 | .str b,e,v,h,h'=>by
  have q:v=.str b:=h;subst q;cases e with
  | str c=>cases(show V.str b=V.str c from h');rfl
  | tup _=>obtain⟨_,_,z,_⟩:=h';cases z
  | lst _=>obtain⟨_,_,z,_⟩:=h';cases z
  | _=>cases(show V.str b=_ from h')
 | .tup ds,e,v,h,h'=>by
  obtain⟨a,vs,rfl,q,ar⟩:=(show ∃a vs,v=.ref a/\Yu X.K H a vs/\Zo X.K H ds vs from h);cases e with
  | tup es =>
   obtain⟨a',ws,z,q',Dq⟩:=(show ∃a' vs,V.ref a=.ref a'/\Yu X.K H a' vs/\Zo X.K H es vs from h');cases z;have e:=I.tuple_inj q q';subst e;rw[Zo.inj I ds es vs ar Dq]
  | lst es =>
   obtain⟨a',ws,z,q',Dq⟩:=(show ∃a' vs,V.ref a=.ref a'/\Vi X.K H a' vs/\Zo X.K H es vs from h');cases z;exact(I.not_both q' q).elim
  | non=>cases(show V.ref a=_ from h')
  | bl _=>cases(show V.ref a=_ from h')
  | int _=>cases(show V.ref a=_ from h')
  | str _=>cases(show V.ref a=_ from h')
 | .lst ds,e,v,h,h'=>by
  obtain⟨a,vs,rfl,q,ar⟩:=(show ∃a vs,v=.ref a/\Vi X.K H a vs/\Zo X.K H ds vs from h);cases e with
  | lst es =>
   obtain⟨a',ws,z,q',Dq⟩:=(show ∃a' vs,V.ref a=.ref a'/\Vi X.K H a' vs/\Zo X.K H es vs from h');cases z;have e:=I.list_inj q q';subst e;rw[Zo.inj I ds es vs ar Dq]
  | tup es =>
   obtain⟨a',ws,z,q',Dq⟩:=(show ∃a' vs,V.ref a=.ref a'/\Yu X.K H a' vs/\Zo X.K H es vs from h');cases z;exact(I.not_both q q').elim
  | non=>cases(show V.ref a=_ from h')
  | bl _=>cases(show V.ref a=_ from h')
  | int _=>cases(show V.ref a=_ from h')
  | str _=>cases(show V.ref a=_ from h')
theorem Zo.inj(I:Inv X XF Z H s):∀(ds es:List D) (vs:ZQ),Zo X.K H ds vs->Zo X.K H es vs->ds=es
 | [],es,vs,h,h'=>by
  have q:vs=[]:=h;subst q;cases es with
  | nil=>rfl
  | cons e es=>obtain⟨_,_,z,_⟩:=h';cases z
 | d::ds,es,vs,h,h'=>by
  obtain⟨v,r,rfl,h1,h2⟩:=(show ∃v r,vs=v::r/\Vc X.K H d v/\Zo X.K H ds r from h);cases es with
  | nil=>cases(show v::r=[] from h')
  | cons e es =>
   obtain⟨v',r',z,h1',h2'⟩:=(show ∃v' r',v::r=v'::r'/\Vc X.K H e v'/\Zo X.K H es r' from h');cases z;rw[Vc.inj I d e v h1 h1',Zo.inj I ds es r h2 h2']
end
noncomputable def Cg:D->Option V
 | .non=>some .non
 | .bl b=>some (.bl b)
 | .int i=>some (.int i)
 | .str x=>some (.str x)
 | _=>none
theorem Vc.flat{K:W.Frag}{d:D}{x v:V}(e:Cg d=some x)(h:Vc K H d v):v=x/\Uk x=true:=by
 cases d with
 | non=>cases e;exact⟨h,rfl⟩
 | bl b=>cases e;exact⟨h,rfl⟩
 | int i=>cases e;exact⟨h,rfl⟩
 | str q=>cases e;exact⟨h,rfl⟩
 | tup q=>cases e
 | lst q=>cases e
theorem V8{d:D}{x:V}(h:Cg d=some x):(d=.non/\x=.non)\/(∃b,d=.bl b/\x=.bl b)\/(∃i,d=.int i/\x=.int i)\/∃q,d=.str q/\x=.str q:=by
 cases d with
 | non=>cases h;exact .inl ⟨rfl,rfl⟩
 | bl b=>cases h;exact .inr (.inl ⟨b,rfl,rfl⟩)
 | int i=>cases h;exact .inr (.inr (.inl ⟨i,rfl,rfl⟩))
 | str q=>cases h;exact .inr (.inr (.inr ⟨q,rfl,rfl⟩))
 | tup q=>cases h
 | lst q=>cases h
theorem Np{d e:D}{x y:V}(h:Cg d=some x)(h':Cg e=some y):Yp d e=lx x y:=by
 rcases V8 h with ⟨rfl,rfl⟩ | ⟨_,rfl,rfl⟩ | ⟨_,rfl,rfl⟩ | ⟨_,rfl,rfl⟩<;>rcases V8 h' with ⟨rfl,rfl⟩ | ⟨_,rfl,rfl⟩ | ⟨_,rfl,rfl⟩ | ⟨_,rfl,rfl⟩<;>rfl
theorem Z2{xs:ZQ}{us:ZM}(r:Zv xs us){j:Nat}(h:j<us.length){x:V}(e:xs[j]?=some x):RelV x us[j]:=by
 obtain⟨u,e1,q⟩:=r.get e;rw[V0 h]at e1;cases e1;exact q
theorem Zx7{es:List D}{a:Addr}{x:V}{u:Value}{A:Around}{XM:ZN}{d:D}(h:Cg d=some x)(rx:RelV x u)(ht:IsTup s.heap a XM)(Yy:A.units<cLine):SeqAt.EqAt A s u (.ref a) (Yp d (.tup es)):=by
 rcases V8 h with ⟨rfl,rfl⟩ | ⟨b,rfl,rfl⟩ | ⟨b,rfl,rfl⟩ | ⟨b,rfl,rfl⟩
 .cases rx;exact SeqAt.EqAt.none_tuple ht Yy
 .cases rx;exact SeqAt.EqAt.bool_tuple b ht Yy
 .obtain⟨t,rfl⟩:=rx;exact SeqAt.EqAt.int_tuple b t ht Yy
 .obtain⟨t,rfl⟩:=rx;exact SeqAt.EqAt.str_tuple b t ht Yy
theorem Zx8{es:List D}{a:Addr}{x:V}{u:Value}{A:Around}{XM:ZN}{d:D}(h:Cg d=some x)(rx:RelV x u)(ht:s.heap.IsList a XM)(Yy:A.units<cLine):SeqAt.EqAt A s u (.ref a) (Yp d (.lst es)):=by
 rcases V8 h with ⟨rfl,rfl⟩ | ⟨b,rfl,rfl⟩ | ⟨b,rfl,rfl⟩ | ⟨b,rfl,rfl⟩
 .cases rx;exact SeqAt.EqAt.none_list ht Yy
 .cases rx;exact SeqAt.EqAt.bool_list b ht Yy
 .obtain⟨t,rfl⟩:=rx;exact SeqAt.EqAt.int_list b t ht Yy
 .obtain⟨t,rfl⟩:=rx;exact SeqAt.EqAt.str_list b t ht Yy
theorem Zx9{es:List D}{a:Addr}{x:V}{u:Value}{A:Around}{XM:ZN}{d:D}(h:Cg d=some x)(rx:RelV x u)(ht:IsTup s.heap a XM)(Yy:A.units<cLine):SeqAt.EqAt A s (.ref a) u (Yp (.tup es) d):=by
 rcases V8 h with ⟨rfl,rfl⟩ | ⟨b,rfl,rfl⟩ | ⟨b,rfl,rfl⟩ | ⟨b,rfl,rfl⟩
 .cases rx;exact SeqAt.EqAt.tuple_none ht Yy
 .cases rx;exact SeqAt.EqAt.tuple_bool b ht Yy
 .obtain⟨t,rfl⟩:=rx;exact SeqAt.EqAt.tuple_int b t ht Yy
 .obtain⟨t,rfl⟩:=rx;exact SeqAt.EqAt.tuple_str b t ht Yy
theorem Zqx{es:List D}{a:Addr}{x:V}{u:Value}{A:Around}{XM:ZN}{d:D}(h:Cg d=some x)(rx:RelV x u)(ht:s.heap.IsList a XM)(Yy:A.units<cLine):SeqAt.EqAt A s (.ref a) u (Yp (.lst es) d):=by
 rcases V8 h with ⟨rfl,rfl⟩ | ⟨b,rfl,rfl⟩ | ⟨b,rfl,rfl⟩ | ⟨b,rfl,rfl⟩
 .cases rx;exact SeqAt.EqAt.list_none ht Yy
 .cases rx;exact SeqAt.EqAt.list_bool b ht Yy
 .obtain⟨t,rfl⟩:=rx;exact SeqAt.EqAt.list_int b t ht Yy
 .obtain⟨t,rfl⟩:=rx;exact SeqAt.EqAt.list_str b t ht Yy
theorem Jq{d:D}(h:Cg d=none):(∃ds,d=.tup ds)\/∃ds,d=.lst ds:=by
 cases d with
 | non=>cases h
 | bl b=>cases h
 | int i=>cases h
 | str q=>cases h
 | tup q=>exact .inl ⟨q,rfl⟩
 | lst q=>exact .inr ⟨q,rfl⟩
def wz(A:Around)(s:Shared)(K:W.Frag)(H:Hp)(ds:List D):Prop:=∀d∈ds,∀(e:D) (x y:V) (u v:Value),Vc K H d x->Vc K H e y->RelV x u->RelV y v->SeqAt.EqAt A s u v (Yp d e)
theorem wz.at{A:Around}{K:W.Frag}{ds es:List D}{vs Lz:ZQ}{XM its':ZM}(E:wz A s K H ds)(ar:Zo K H ds vs)(Dq:Zo K H es Lz)(r:Zv vs XM)(r':Zv Lz its'){j:Nat}(h1:j<XM.toArray.size)(h2:j<its'.toArray.size)(j1:j<ds.length)(j2:j<es.length) :
  SeqAt.EqAt A s XM.toArray[j] its'.toArray[j] (Yp (ds.getD j .non) (es.getD j .non)):=by
 obtain⟨x1,g1,i1⟩:=ar.get (V0 j1);obtain⟨y1,g2,i2⟩:=Dq.get (V0 j2);have d1:ds.getD j .non=ds[j]:=by simp[j1]
 have d2:es.getD j .non=es[j]:=by simp[j2]
 rw[d1,d2];exact E _ (wu j1) _ x1 y1 _ _ i1 i2 (Z2 r (by simpa using h1) g1) (Z2 r' (by simpa using h2) g2)
theorem Zqz(I:Inv X XF Z H s){ds es:List D}{a a':Addr}{vs Lz:ZQ}{A:Around}(q:Yu X.K H a vs)(ar:Zo X.K H ds vs)(q':Yu X.K H a' Lz)(Dq:Zo X.K H es Lz)(ph:a≠a')(E:wz A.in1 s X.K H ds)(Yy:A.units<cLine) :
  SeqAt.EqAt A s (.ref a) (.ref a') (Yp (.tup ds) (.tup es)):=by
 obtain⟨XM,r,ht,_⟩:=I.tuple q;obtain⟨its',r',Qh,_⟩:=I.tuple q';have l1:XM.toArray.size=ds.length:=by rw[Vy, <-r.length, <-ar.length]
 have l2:its'.toArray.size=es.length:=by rw[Vy, <-r'.length, <-Dq.length]
 have main:=SeqAt.RcAt.tuples (A:=A) (e:=fun j=>Yp (ds.getD j .non) (es.getD j .non)) ht Qh Yy (fun j h1 h2=>E.at ar Dq r r' h1 h2 (by omega) (by omega));rw[l1,l2,Ya]at main;exact SeqAt.EqAt.of_refs ph main
theorem Zqq(I:Inv X XF Z H s){ds es:List D}{a a':Addr}{vs Lz:ZQ}{A:Around}(q:Vi X.K H a vs)(ar:Zo X.K H ds vs)(q':Vi X.K H a' Lz)(Dq:Zo X.K H es Lz)(ph:a≠a')(E:wz A.in1 s X.K H ds)(Yy:A.units<cLine) :
  SeqAt.EqAt A s (.ref a) (.ref a') (Yp (.lst ds) (.lst es)):=by
 obtain⟨XM,r,hp,_⟩:=I.list q;obtain⟨its',r',Xe,_⟩:=I.list q';have l1:XM.toArray.size=ds.length:=by rw[Vy, <-r.length, <-ar.length]
 have l2:its'.toArray.size=es.length:=by rw[Vy, <-r'.length, <-Dq.length]
 by_cases hl:ds.length=es.length
 .have main:=SeqAt.RcAt.lists (A:=A) (e:=fun j=>Yp (ds.getD j .non) (es.getD j .non)) hp.isList Xe.isList (by omega) Yy (fun j h1 h2=>E.at ar Dq r r' h1 h2 (by omega) (by omega));have al:=Ya ds es;rw[<-hl,Nat.min_self,B0s,Bool.and_true]at al;rw[l1,al]at main;exact SeqAt.EqAt.of_refs ph main
 .have main:=SeqAt.RcAt.lists_lengths (A:=A) hp.isList Xe.isList (by rw[l1,l2];simpa using hl) Yy;have al:=Ya ds es;have hf:(ds.length == es.length)=false:=by simpa using hl
  rw[hf,Bool.and_false]at al;have z:Yp (D.lst ds) (D.lst es)=Ml ds es:=by simp only[Yp]
  rw[z, <-al];exact SeqAt.EqAt.of_refs ph main
theorem jd(I:Inv X XF Z H s){d e:D}{x y:V}{u v:Value}{A:Around}(Vg:Cg d=none)(Yh:Cg e=none)(hd:Vc X.K H d x)(he:Vc X.K H e y)(rx:RelV x u)(ry:RelV y v)(E:∀ds,d=.tup ds\/d=.lst ds->wz A.in1 s X.K H ds)(Yy:A.units<cLine) :
  SeqAt.EqAt A s u v (Yp d e):=by
 by_cases hxy:x=y
 .subst hxy;have ee:=Vc.inj I d e x hd he;subst ee;rw[S5]
  have uv:u=v:=by
   rcases Jq Vg with ⟨ds,rfl⟩ | ⟨ds,rfl⟩
   .obtain⟨a,_,rfl,_⟩:=hd;cases rx;cases ry;rfl
   .obtain⟨a,_,rfl,_⟩:=hd;cases rx;cases ry;rfl
  subst uv;exact SeqAt.EqAt.same _
 .rcases Jq Vg with ⟨ds,rfl⟩ | ⟨ds,rfl⟩
  .obtain⟨a,vs,rfl,q,ar⟩:=hd;cases rx;rcases Jq Yh with ⟨es,rfl⟩ | ⟨es,rfl⟩
   .obtain⟨a',Lz,rfl,q',Dq⟩:=he;cases ry;exact Zqz I q ar q' Dq (fun z=>hxy (by rw[z])) (E ds (.inl rfl)) Yy
   .obtain⟨a',Lz,rfl,q',Dq⟩:=he;cases ry;obtain⟨_,_,ht,_⟩:=I.tuple q;obtain⟨_,_,Xe,_⟩:=I.list q';exact SeqAt.EqAt.tuple_list ht Xe.isList Yy
  .obtain⟨a,vs,rfl,q,ar⟩:=hd;cases rx;rcases Jq Yh with ⟨es,rfl⟩ | ⟨es,rfl⟩
   .obtain⟨a',Lz,rfl,q',Dq⟩:=he;cases ry;obtain⟨_,_,hp,_⟩:=I.list q;obtain⟨_,_,Qh,_⟩:=I.tuple q';exact SeqAt.EqAt.list_tuple hp.isList Qh Yy
   .obtain⟨a',Lz,rfl,q',Dq⟩:=he;cases ry;exact Zqq I q ar q' Dq (fun z=>hxy (by rw[z])) (E ds (.inr rfl)) Yy
theorem jm(I:Inv X XF Z H s){d e:D}{x y:V}{u v:Value}{A:Around}(hd:Vc X.K H d x)(he:Vc X.K H e y)(rx:RelV x u)(ry:RelV y v)(E:∀ds,d=.tup ds\/d=.lst ds->wz A.in1 s X.K H ds)(Yy:A.units<cLine) :
  SeqAt.EqAt A s u v (Yp d e):=by
 cases Vg:Cg d with
 | some x' =>
  obtain⟨rfl,fx⟩:=Vc.flat Vg hd;cases Yh:Cg e with
  | some y' =>
   obtain⟨rfl,fy⟩:=Vc.flat Yh he;rw[Np Vg Yh];exact lg rx ry fx fy
  | none =>
   rcases Jq Yh with ⟨es,rfl⟩ | ⟨es,rfl⟩
   .obtain⟨a,vs,rfl,q,_⟩:=he;cases ry;obtain⟨XM,_,ht,_⟩:=I.tuple q;exact Zx7 Vg rx ht Yy
   .obtain⟨a,vs,rfl,q,_⟩:=he;cases ry;obtain⟨XM,_,hp,_⟩:=I.list q;exact Zx8 Vg rx hp.isList Yy
 | none =>
  cases Yh:Cg e with
  | some y' =>
   obtain⟨rfl,fy⟩:=Vc.flat Yh he;rcases Jq Vg with ⟨es,rfl⟩ | ⟨es,rfl⟩
   .obtain⟨a,vs,rfl,q,_⟩:=hd;cases rx;obtain⟨XM,_,ht,_⟩:=I.tuple q;exact Zx9 Yh ry ht Yy
   .obtain⟨a,vs,rfl,q,_⟩:=hd;cases rx;obtain⟨XM,_,hp,_⟩:=I.list q;exact Zqx Yh ry hp.isList Yy
  | none=>exact jd I Vg Yh hd he rx ry E Yy
theorem jt{d:D}{ds:List D}(h:d=.tup ds\/d=.lst ds){c:D}(m:c∈ds):Jw c+1<=Jw d:=by
 have:=Jj m;rcases h with rfl | rfl
 .have z:Jw (D.tup ds)=Na ds+1:=by simp only[Jw]
  omega
 .have z:Jw (D.lst ds)=Na ds+1:=by simp only[Jw]
  omega
theorem Zqj(I:Inv X XF Z H s)(n:Nat):∀(A:Around) (d e:D) (x y:V) (u v:Value),Jw d<n->Vc X.K H d x->Vc X.K H e y->RelV x u->RelV y v->A.units+Jw d<cLine->SeqAt.EqAt A s u v (Yp d e):=by
 induction n with
 | zero=>intro A d e x y u v h;exact absurd h (Nat.not_lt_zero _)
 | succ n ih =>
  intro A d e x y u v h hd he rx ry hu;refine jm I hd he rx ry (fun ds wg c hc e' x' y' u' v' h1 h2 r1 r2=>?_) (by omega);have hp:=jt wg hc;refine ih A.in1 c e' x' y' u' v' (by omega) h1 h2 r1 r2 ?_;show A.units+1+Jw c<cLine;omega
theorem B3(I:Inv X XF Z H s)(d e:D)(x y:V)(u v:Value)(A:Around)(hd:Vc X.K H d x)(he:Vc X.K H e y)(rx:RelV x u)(ry:RelV y v)(hu:A.units+Jw d<cLine)(Yy:A.units<cLine) :
  SeqAt.EqAt A s u v (Yp d e):=Zqj I (Jw d+1) A d e x y u v (Nat.lt_succ_self _) hd he rx ry hu
end
theorem rcEq_V{A:Around}{s:Shared}{y x:V}{u v:Value}(ry:RelV y u)(rx:RelV x v)(fy:Uk y=true)(fx:Uk x=true):SeqAt.RcAt A s u v ((lx y x)):=by
 cases y with
 | non =>
  cases ry;cases x with
  | non=>cases rx;exact SeqAt.RcAt.none_none
  | bl b=>cases rx;exact SeqAt.RcAt.none_bool b
  | int b=>obtain⟨t,rfl⟩:=rx;exact SeqAt.RcAt.none_int b t
  | str b=>obtain⟨t,rfl⟩:=rx;exact SeqAt.RcAt.none_str b t
  | _=>exact absurd (show false=true from fx) Ti
 | bl a =>
  cases ry;cases x with
  | non=>cases rx;exact SeqAt.RcAt.bool_none a
  | bl b=>cases rx;exact SeqAt.RcAt.bool_bool a b
  | int b=>obtain⟨t,rfl⟩:=rx;exact SeqAt.RcAt.bool_int a b t
  | str b=>obtain⟨t,rfl⟩:=rx;exact SeqAt.RcAt.bool_str a b t
  | _=>exact absurd (show false=true from fx) Ti
 | int a =>
  obtain⟨t',rfl⟩:=ry;cases x with
  | non=>cases rx;exact SeqAt.RcAt.int_none a t'
  | bl b=>cases rx;exact SeqAt.RcAt.int_bool a t' b
  | int b=>obtain⟨t,rfl⟩:=rx;exact SeqAt.RcAt.int_int a t' b t
  | str b=>obtain⟨t,rfl⟩:=rx;exact SeqAt.RcAt.int_str a t' b t
  | _=>exact absurd (show false=true from fx) Ti
 | str a =>
  obtain⟨t',rfl⟩:=ry;cases x with
  | non=>cases rx;exact SeqAt.RcAt.str_none a t'
  | bl b=>cases rx;exact SeqAt.RcAt.str_bool a t' b
  | int b=>obtain⟨t,rfl⟩:=rx;exact SeqAt.RcAt.str_int a t' b t
  | str b=>obtain⟨t,rfl⟩:=rx;exact SeqAt.RcAt.str_str a t' b t
  | _=>exact absurd (show false=true from fx) Ti
 | _=>exact absurd (show false=true from fy) Ti
theorem rcEq_D{X:Cx}{XF:ZY}{Z:St}{H:Hp}{s:Shared}(I:Inv X XF Z H s)(d e:D)(x y:V)(u v:Value)(A:Around)(hd:Vc X.K H d x)(he:Vc X.K H e y)(rx:RelV x u)(ry:RelV y v)(hu:A.units+Jw d<cLine)(Yy:A.units<cLine) :
  SeqAt.RcAt A s u v ((Yp d e)):=by
 cases Vg:Cg d with
 | some x' =>
  obtain⟨rfl,fx⟩:=Vc.flat Vg hd;cases Yh:Cg e with
  | some y' =>
   obtain⟨rfl,fy⟩:=Vc.flat Yh he;rw[Np Vg Yh];exact rcEq_V rx ry fx fy
  | none =>
   cases e with
   | tup es =>
    obtain⟨a,vs,rfl,q,_⟩:=he;cases ry;obtain⟨XM,_,ht,_⟩:=I.tuple q;cases d with
    | non=>cases Vg;cases rx;exact SeqAt.RcAt.none_tuple ht Yy
    | bl b=>cases Vg;cases rx;exact SeqAt.RcAt.bool_tuple b ht Yy
    | int b=>cases Vg;obtain⟨t,rfl⟩:=rx;exact SeqAt.RcAt.int_tuple b t ht Yy
    | str b=>cases Vg;obtain⟨t,rfl⟩:=rx;exact SeqAt.RcAt.str_tuple b t ht Yy
    | tup _=>cases Vg
    | lst _=>cases Vg
   | lst es =>
    obtain⟨a,vs,rfl,q,_⟩:=he;cases ry;obtain⟨XM,_,hp,_⟩:=I.list q;have ht:=hp.isList;cases d with
    | non=>cases Vg;cases rx;exact SeqAt.RcAt.none_list ht Yy
    | bl b=>cases Vg;cases rx;exact SeqAt.RcAt.bool_list b ht Yy
    | int b=>cases Vg;obtain⟨t,rfl⟩:=rx;exact SeqAt.RcAt.int_list b t ht Yy
    | str b=>cases Vg;obtain⟨t,rfl⟩:=rx;exact SeqAt.RcAt.str_list b t ht Yy
    | tup _=>cases Vg
    | lst _=>cases Vg
   | non=>cases Yh
   | bl _=>cases Yh
   | int _=>cases Yh
   | str _=>cases Yh
 | none =>
  cases Yh:Cg e with
  | some y' =>
   obtain⟨rfl,fy⟩:=Vc.flat Yh he;cases d with
   | tup es =>
    obtain⟨a,vs,rfl,q,_⟩:=hd;cases rx;obtain⟨XM,_,ht,_⟩:=I.tuple q;cases e with
    | non=>cases Yh;cases ry;exact SeqAt.RcAt.tuple_none ht Yy
    | bl b=>cases Yh;cases ry;exact SeqAt.RcAt.tuple_bool b ht Yy
    | int b=>cases Yh;obtain⟨t,rfl⟩:=ry;exact SeqAt.RcAt.tuple_int b t ht Yy
    | str b=>cases Yh;obtain⟨t,rfl⟩:=ry;exact SeqAt.RcAt.tuple_str b t ht Yy
    | tup _=>cases Yh
    | lst _=>cases Yh
   | lst es =>
    obtain⟨a,vs,rfl,q,_⟩:=hd;cases rx;obtain⟨XM,_,hp,_⟩:=I.list q;have ht:=hp.isList;cases e with
    | non=>cases Yh;cases ry;exact SeqAt.RcAt.list_none ht Yy
    | bl b=>cases Yh;cases ry;exact SeqAt.RcAt.list_bool b ht Yy
    | int b=>cases Yh;obtain⟨t,rfl⟩:=ry;exact SeqAt.RcAt.list_int b t ht Yy
    | str b=>cases Yh;obtain⟨t,rfl⟩:=ry;exact SeqAt.RcAt.list_str b t ht Yy
    | tup _=>cases Yh
    | lst _=>cases Yh
   | non=>cases Vg
   | bl _=>cases Vg
   | int _=>cases Vg
   | str _=>cases Vg
  | none =>
   cases d with
   | tup ds =>
    obtain⟨a,vs,rfl,q,ar⟩:=hd;cases rx;obtain⟨XM,r,ht,_⟩:=I.tuple q;cases e with
    | tup es =>
     obtain⟨a',Lz,rfl,q',Dq⟩:=he;cases ry;obtain⟨its',r',Qh,_⟩:=I.tuple q';have l1:XM.toArray.size=ds.length:=by rw[Vy, <-r.length, <-ar.length]
     have l2:its'.toArray.size=es.length:=by rw[Vy, <-r'.length, <-Dq.length]
     have main:=SeqAt.RcAt.tuples (A:=A) (e:=fun j=>Yp (ds.getD j .non) (es.getD j .non)) ht Qh Yy (fun j h1 h2=>by
       have j1:j<ds.length:=by omega
       have j2:j<es.length:=by omega
       have e1:ds[j]?=some ds[j]:=V0 j1;have e2:es[j]?=some es[j]:=V0 j2;obtain⟨x1,g1,i1⟩:=ar.get e1;obtain⟨y1,g2,i2⟩:=Dq.get e2;have d1:ds.getD j .non=ds[j]:=by simp[j1]
       have d2:es.getD j .non=es[j]:=by simp[j2]
       show SeqAt.EqAt A.in1 s _ _ (Yp (ds.getD j .non) (es.getD j .non));rw[d1,d2];have hm:=Jj (wu j1);have z1:Jw (D.tup ds)=Na ds+1:=by simp only[Jw]
       refine B3 I ds[j] es[j] x1 y1 _ _ A.in1 i1 i2 (Z2 r (by simpa using h1) g1) (Z2 r' (by simpa using h2) g2) ?_ ?_
       .show A.units+1+Jw ds[j]<cLine;omega
       .show A.units+1<cLine;omega)
     rw[l1,l2,Ya]at main;exact main
    | lst es =>
     obtain⟨a',Lz,rfl,q',Dq⟩:=he;cases ry;obtain⟨its',r',Xe,_⟩:=I.list q';exact SeqAt.RcAt.tuple_list ht Xe.isList Yy
    | non=>cases Yh
    | bl _=>cases Yh
    | int _=>cases Yh
    | str _=>cases Yh
   | lst ds =>
    obtain⟨a,vs,rfl,q,ar⟩:=hd;cases rx;obtain⟨XM,r,hp,_⟩:=I.list q;have ht:=hp.isList;cases e with
    | lst es =>
     obtain⟨a',Lz,rfl,q',Dq⟩:=he;cases ry;obtain⟨its',r',Xe,_⟩:=I.list q';have Qh:=Xe.isList;have l1:XM.toArray.size=ds.length:=by rw[Vy, <-r.length, <-ar.length]
     have l2:its'.toArray.size=es.length:=by rw[Vy, <-r'.length, <-Dq.length]
     by_cases hl:ds.length=es.length
     .have main:=SeqAt.RcAt.lists (A:=A) (e:=fun j=>Yp (ds.getD j .non) (es.getD j .non)) ht Qh (by omega) Yy (fun j h1 h2=>by
       have j1:j<ds.length:=by omega
       have j2:j<es.length:=by omega
       have e1:ds[j]?=some ds[j]:=V0 j1;have e2:es[j]?=some es[j]:=V0 j2;obtain⟨x1,g1,i1⟩:=ar.get e1;obtain⟨y1,g2,i2⟩:=Dq.get e2;have d1:ds.getD j .non=ds[j]:=by simp[j1]
       have d2:es.getD j .non=es[j]:=by simp[j2]
       show SeqAt.EqAt A.in1 s _ _ (Yp (ds.getD j .non) (es.getD j .non));rw[d1,d2];have hm:=Jj (wu j1);have z1:Jw (D.lst ds)=Na ds+1:=by simp only[Jw]
       refine B3 I ds[j] es[j] x1 y1 _ _ A.in1 i1 i2 (Z2 r (by simpa using h1) g1) (Z2 r' (by simpa using h2) g2) ?_ ?_
       .show A.units+1+Jw ds[j]<cLine;omega
       .show A.units+1<cLine;omega)
      have al:=Ya ds es;rw[<-hl,Nat.min_self,B0s,Bool.and_true]at al;rw[l1,al]at main;exact main
     .have main:=SeqAt.RcAt.lists_lengths (A:=A) ht Qh (by rw[l1,l2];simpa using hl) Yy;have al:=Ya ds es;have hf:(ds.length == es.length)=false:=by simpa using hl
      rw[hf,Bool.and_false]at al;have z:Yp (D.lst ds) (D.lst es)=Ml ds es:=by simp only[Yp]
      rw[z, <-al];exact main
    | tup es =>
     obtain⟨a',Lz,rfl,q',Dq⟩:=he;cases ry;obtain⟨its',r',Qh,_⟩:=I.tuple q';exact SeqAt.RcAt.list_tuple ht Qh Yy
    | non=>cases Yh
    | bl _=>cases Yh
    | int _=>cases Yh
    | str _=>cases Yh
   | non=>cases Vg
   | bl _=>cases Vg
   | int _=>cases Vg
   | str _=>cases Vg
theorem rcNe_V{A:Around}{s:Shared}{y x:V}{u v:Value}(ry:RelV y u)(rx:RelV x v)(fy:Uk y=true)(fx:Uk x=true):SeqAt.RcNeAt A s u v (!(lx y x)):=by
 cases y with
 | non =>
  cases ry;cases x with
  | non=>cases rx;exact SeqAt.RcNeAt.none_none
  | bl b=>cases rx;exact SeqAt.RcNeAt.none_bool b
  | int b=>obtain⟨t,rfl⟩:=rx;exact SeqAt.RcNeAt.none_int b t
  | str b=>obtain⟨t,rfl⟩:=rx;exact SeqAt.RcNeAt.none_str b t
  | _=>exact absurd (show false=true from fx) Ti
 | bl a =>
  cases ry;cases x with
  | non=>cases rx;exact SeqAt.RcNeAt.bool_none a
  | bl b=>cases rx;exact SeqAt.RcNeAt.bool_bool a b
  | int b=>obtain⟨t,rfl⟩:=rx;exact SeqAt.RcNeAt.bool_int a b t
  | str b=>obtain⟨t,rfl⟩:=rx;exact SeqAt.RcNeAt.bool_str a b t
  | _=>exact absurd (show false=true from fx) Ti
 | int a =>
  obtain⟨t',rfl⟩:=ry;cases x with
  | non=>cases rx;exact SeqAt.RcNeAt.int_none a t'
  | bl b=>cases rx;exact SeqAt.RcNeAt.int_bool a t' b
  | int b=>obtain⟨t,rfl⟩:=rx;exact SeqAt.RcNeAt.int_int a t' b t
  | str b=>obtain⟨t,rfl⟩:=rx;exact SeqAt.RcNeAt.int_str a t' b t
  | _=>exact absurd (show false=true from fx) Ti
 | str a =>
  obtain⟨t',rfl⟩:=ry;cases x with
  | non=>cases rx;exact SeqAt.RcNeAt.str_none a t'
  | bl b=>cases rx;exact SeqAt.RcNeAt.str_bool a t' b
  | int b=>obtain⟨t,rfl⟩:=rx;exact SeqAt.RcNeAt.str_int a t' b t
  | str b=>obtain⟨t,rfl⟩:=rx;exact SeqAt.RcNeAt.str_str a t' b t
  | _=>exact absurd (show false=true from fx) Ti
 | _=>exact absurd (show false=true from fy) Ti
theorem rcNe_D{X:Cx}{XF:ZY}{Z:St}{H:Hp}{s:Shared}(I:Inv X XF Z H s)(d e:D)(x y:V)(u v:Value)(A:Around)(hd:Vc X.K H d x)(he:Vc X.K H e y)(rx:RelV x u)(ry:RelV y v)(hu:A.units+Jw d<cLine)(Yy:A.units<cLine) :
  SeqAt.RcNeAt A s u v (!(Yp d e)):=by
 cases Vg:Cg d with
 | some x' =>
  obtain⟨rfl,fx⟩:=Vc.flat Vg hd;cases Yh:Cg e with
  | some y' =>
   obtain⟨rfl,fy⟩:=Vc.flat Yh he;rw[Np Vg Yh];exact rcNe_V rx ry fx fy
  | none =>
   cases e with
   | tup es =>
    obtain⟨a,vs,rfl,q,_⟩:=he;cases ry;obtain⟨XM,_,ht,_⟩:=I.tuple q;cases d with
    | non=>cases Vg;cases rx;exact SeqAt.RcNeAt.none_tuple ht Yy
    | bl b=>cases Vg;cases rx;exact SeqAt.RcNeAt.bool_tuple b ht Yy
    | int b=>cases Vg;obtain⟨t,rfl⟩:=rx;exact SeqAt.RcNeAt.int_tuple b t ht Yy
    | str b=>cases Vg;obtain⟨t,rfl⟩:=rx;exact SeqAt.RcNeAt.str_tuple b t ht Yy
    | tup _=>cases Vg
    | lst _=>cases Vg
   | lst es =>
    obtain⟨a,vs,rfl,q,_⟩:=he;cases ry;obtain⟨XM,_,hp,_⟩:=I.list q;have ht:=hp.isList;cases d with
    | non=>cases Vg;cases rx;exact SeqAt.RcNeAt.none_list ht Yy
    | bl b=>cases Vg;cases rx;exact SeqAt.RcNeAt.bool_list b ht Yy
    | int b=>cases Vg;obtain⟨t,rfl⟩:=rx;exact SeqAt.RcNeAt.int_list b t ht Yy
    | str b=>cases Vg;obtain⟨t,rfl⟩:=rx;exact SeqAt.RcNeAt.str_list b t ht Yy
    | tup _=>cases Vg
    | lst _=>cases Vg
   | non=>cases Yh
   | bl _=>cases Yh
   | int _=>cases Yh
   | str _=>cases Yh
 | none =>
  cases Yh:Cg e with
  | some y' =>
   obtain⟨rfl,fy⟩:=Vc.flat Yh he;cases d with
   | tup es =>
    obtain⟨a,vs,rfl,q,_⟩:=hd;cases rx;obtain⟨XM,_,ht,_⟩:=I.tuple q;cases e with
    | non=>cases Yh;cases ry;exact SeqAt.RcNeAt.tuple_none ht Yy
    | bl b=>cases Yh;cases ry;exact SeqAt.RcNeAt.tuple_bool b ht Yy
    | int b=>cases Yh;obtain⟨t,rfl⟩:=ry;exact SeqAt.RcNeAt.tuple_int b t ht Yy
    | str b=>cases Yh;obtain⟨t,rfl⟩:=ry;exact SeqAt.RcNeAt.tuple_str b t ht Yy
    | tup _=>cases Yh
    | lst _=>cases Yh
   | lst es =>
    obtain⟨a,vs,rfl,q,_⟩:=hd;cases rx;obtain⟨XM,_,hp,_⟩:=I.list q;have ht:=hp.isList;cases e with
    | non=>cases Yh;cases ry;exact SeqAt.RcNeAt.list_none ht Yy
    | bl b=>cases Yh;cases ry;exact SeqAt.RcNeAt.list_bool b ht Yy
    | int b=>cases Yh;obtain⟨t,rfl⟩:=ry;exact SeqAt.RcNeAt.list_int b t ht Yy
    | str b=>cases Yh;obtain⟨t,rfl⟩:=ry;exact SeqAt.RcNeAt.list_str b t ht Yy
    | tup _=>cases Yh
    | lst _=>cases Yh
   | non=>cases Vg
   | bl _=>cases Vg
   | int _=>cases Vg
   | str _=>cases Vg
  | none =>
   cases d with
   | tup ds =>
    obtain⟨a,vs,rfl,q,ar⟩:=hd;cases rx;obtain⟨XM,r,ht,_⟩:=I.tuple q;cases e with
    | tup es =>
     obtain⟨a',Lz,rfl,q',Dq⟩:=he;cases ry;obtain⟨its',r',Qh,_⟩:=I.tuple q';have l1:XM.toArray.size=ds.length:=by rw[Vy, <-r.length, <-ar.length]
     have l2:its'.toArray.size=es.length:=by rw[Vy, <-r'.length, <-Dq.length]
     have main:=SeqAt.RcNeAt.tuples (A:=A) (e:=fun j=>Yp (ds.getD j .non) (es.getD j .non)) ht Qh Yy (fun j h1 h2=>by
       have j1:j<ds.length:=by omega
       have j2:j<es.length:=by omega
       have e1:ds[j]?=some ds[j]:=V0 j1;have e2:es[j]?=some es[j]:=V0 j2;obtain⟨x1,g1,i1⟩:=ar.get e1;obtain⟨y1,g2,i2⟩:=Dq.get e2;have d1:ds.getD j .non=ds[j]:=by simp[j1]
       have d2:es.getD j .non=es[j]:=by simp[j2]
       show SeqAt.EqAt A.in1 s _ _ (Yp (ds.getD j .non) (es.getD j .non));rw[d1,d2];have hm:=Jj (wu j1);have z1:Jw (D.tup ds)=Na ds+1:=by simp only[Jw]
       refine B3 I ds[j] es[j] x1 y1 _ _ A.in1 i1 i2 (Z2 r (by simpa using h1) g1) (Z2 r' (by simpa using h2) g2) ?_ ?_
       .show A.units+1+Jw ds[j]<cLine;omega
       .show A.units+1<cLine;omega)
     rw[l1,l2,Ya]at main;exact main
    | lst es =>
     obtain⟨a',Lz,rfl,q',Dq⟩:=he;cases ry;obtain⟨its',r',Xe,_⟩:=I.list q';exact SeqAt.RcNeAt.tuple_list ht Xe.isList Yy
    | non=>cases Yh
    | bl _=>cases Yh
    | int _=>cases Yh
    | str _=>cases Yh
   | lst ds =>
    obtain⟨a,vs,rfl,q,ar⟩:=hd;cases rx;obtain⟨XM,r,hp,_⟩:=I.list q;have ht:=hp.isList;cases e with
    | lst es =>
     obtain⟨a',Lz,rfl,q',Dq⟩:=he;cases ry;obtain⟨its',r',Xe,_⟩:=I.list q';have Qh:=Xe.isList;have l1:XM.toArray.size=ds.length:=by rw[Vy, <-r.length, <-ar.length]
     have l2:its'.toArray.size=es.length:=by rw[Vy, <-r'.length, <-Dq.length]
     by_cases hl:ds.length=es.length
     .have main:=SeqAt.RcNeAt.lists (A:=A) (e:=fun j=>Yp (ds.getD j .non) (es.getD j .non)) ht Qh (by omega) Yy (fun j h1 h2=>by
       have j1:j<ds.length:=by omega
       have j2:j<es.length:=by omega
       have e1:ds[j]?=some ds[j]:=V0 j1;have e2:es[j]?=some es[j]:=V0 j2;obtain⟨x1,g1,i1⟩:=ar.get e1;obtain⟨y1,g2,i2⟩:=Dq.get e2;have d1:ds.getD j .non=ds[j]:=by simp[j1]
       have d2:es.getD j .non=es[j]:=by simp[j2]
       show SeqAt.EqAt A.in1 s _ _ (Yp (ds.getD j .non) (es.getD j .non));rw[d1,d2];have hm:=Jj (wu j1);have z1:Jw (D.lst ds)=Na ds+1:=by simp only[Jw]
       refine B3 I ds[j] es[j] x1 y1 _ _ A.in1 i1 i2 (Z2 r (by simpa using h1) g1) (Z2 r' (by simpa using h2) g2) ?_ ?_
       .show A.units+1+Jw ds[j]<cLine;omega
       .show A.units+1<cLine;omega)
      have al:=Ya ds es;rw[<-hl,Nat.min_self,B0s,Bool.and_true]at al;rw[l1,al]at main;exact main
     .have main:=SeqAt.RcNeAt.lists_lengths (A:=A) ht Qh (by rw[l1,l2];simpa using hl) Yy;have al:=Ya ds es;have hf:(ds.length == es.length)=false:=by simpa using hl
      rw[hf,Bool.and_false]at al;have z:Yp (D.lst ds) (D.lst es)=Ml ds es:=by simp only[Yp]
      rw[z, <-al];exact main
    | tup es =>
     obtain⟨a',Lz,rfl,q',Dq⟩:=he;cases ry;obtain⟨its',r',Qh,_⟩:=I.tuple q';exact SeqAt.RcNeAt.list_tuple ht Qh Yy
    | non=>cases Yh
    | bl _=>cases Yh
    | int _=>cases Yh
    | str _=>cases Yh
   | non=>cases Vg
   | bl _=>cases Vg
   | int _=>cases Vg
   | str _=>cases Vg
section
variable{X:Cx}
inductive fm(K:W.Frag)(A:Around)(x:V)(y:V)(H:Hp)(Q:VK):Prop
 | mk(d e)(Y1:Vc K H d x)(Y0:Vc K H e y)(V7:A.units+Jw d<cLine)(Wr:Q (.bl (Yp d e)) H):fm K A x y H Q
def rEqD(K:W.Frag)(A:Around):R2:=fun x y H Q=>fm K A x y H Q
inductive fq(K:W.Frag)(A:Around)(x:V)(y:V)(H:Hp)(Q:VK):Prop
 | mk(d e)(Y1:Vc K H d x)(Y0:Vc K H e y)(V7:A.units+Jw d<cLine)(Wr:Q (.bl (!Yp d e)) H):fq K A x y H Q
def rNeD(K:W.Frag)(A:Around):R2:=fun x y H Q=>fq K A x y H Q
theorem op_eqD:Jb X (compareOp .Eq) (rEqD X.K X.A):=by
 intro XF s Z H x y v u Q I rx ry h;obtain⟨d,e,hd,he,hu,q⟩:=h;exact rcEq_D I d e x y v u X.A hd he rx ry hu (by omega) X.prog X.w X.xe _ ⟨.bl _,H,I,rfl,q⟩
theorem op_neD:Jb X (compareOp .NotEq) (rNeD X.K X.A):=by
 intro XF s Z H x y v u Q I rx ry h;obtain⟨d,e,hd,he,hu,q⟩:=h;exact rcNe_D I d e x y v u X.A hd he rx ry hu (by omega) X.prog X.w X.xe _ ⟨.bl _,H,I,rfl,q⟩
end
abbrev pj:ZW:=fun _ _=>False
def Ai(ifs:ZC)(env:Env):Sem Bool :=
 forIn ifs true fun c r=>if r=true then (isTrue c env (eval c env) >>= fun b=>pure (ForInStep.yield b)) else pure (ForInStep.yield r)
section
variable(prog:Program)(w:World)(A:Around)(tg elt:Expr)(ifs:ZC)(env:Env)(it acc:Value)
def TurnEnd(nxt:Shared->Prop)(ok:Bool)(s:Shared):Prop :=
 if ok=true then wpAny (model prog w) A (eval elt env) (fun y s1=>wpAny (model prog w) A (call (.builtin "list.append") [acc,y]) (fun _ s2=>nxt s2) pj s1) pj s else nxt s
def sk(nxt:Shared->Prop)(v:Value)(s:Shared):Prop :=
 wpAny (model prog w) A (letOwnedTupleGo tg it v) (fun _ s1=>wpAny (model prog w) A (assign tg env v) (fun _ s2=>wpAny (model prog w) A (Ai ifs env) (TurnEnd prog w A elt env acc nxt) pj s2) pj s1) pj s
end
theorem Q5{prog:Program}{w:World}{A:Around}{R:Result->Shared->Prop}{s:Shared}{elt tg iter:Expr}{ifs:ZC}{scope:Scope}{pos:Pos}{it acc:Value}{env:Env}(W:Nat->Shared->Prop)
  (turn:∀m s1,W m s1->wpAny (model prog w) A (pyNext it) (fun r s2=>r.elim (R (.ok .next) s2) fun v=>sk prog w A tg elt ifs env it acc (fun s3=>∃m',m'<m/\W m' s3) v s2) pj s1)
  (m:Nat) (start:W m s):codeAny (model prog w) A (.compLoop (.ListComp elt [⟨tg,iter,ifs,0⟩] scope pos) 0 it acc env) R s:=by
 refine codeAny_loop rfl W (fun k s1 hw=>?_) m start;refine wpAny_noted (env:=env) (m:=compTurn (.ListComp elt [⟨tg,iter,ifs,0⟩] scope pos) 0 it acc env) ?_;rw[compTurn_list];refine Zx (wpAny_standAt (Zx (wpAny_mono (turn k s1 hw) (fun r s2 q=>?_) fun _ _ z=>z.elim)));cases r with
 | none=>exact Zf q
 | some v =>
  have q:sk prog w A tg elt ifs env it acc (fun s3=>∃m',m'<k/\W m' s3) v s2:=q;refine Zx (wpAny_mono q (fun _ s3 q3=>Zx (wpAny_mono q3 (fun _ s4 q4=>Zx (wpAny_mono q4 (fun ok s5 q5=>?_) fun _ _ z=>z.elim)) fun _ _ z=>z.elim)) fun _ _ z=>z.elim);cases ok with
  | false=>exact Zf ⟨rfl,q5⟩
  | true=>exact Zx (Zx (wpAny_mono q5 (fun y s6 q6=>Zx (wpAny_mono q6 (fun _ s7 q7=>Zf (Zf ⟨rfl,q7⟩)) fun _ _ z=>z.elim)) fun _ _ z=>z.elim))
noncomputable def Yt(env:Env):ZK->List (Str×Addr)->List (Str×Addr)
 | [],cs=>cs
 | (n,k)::r,cs=>Yt env r (if k == .free then (n,(env.cells.lookup n).getD 0)::cs else cs)
noncomputable def Z1(X:Cx)(scope:Scope)(N:ZD)(fp:ZU)(s:Shared)(H:Hp):Cx :=
 { X with N:=N,s₀:=s,H₀:=H,env:=compEnvC scope (Yt X.env scope.names []) s.heap.objs.size X.env,outer:=X.stack,stack:=X.stack,ex:=fp,fn:=fun _=>false,pn:=[],xe:=pj }
structure As(X:Cx)(scope:Scope)(N:ZD)(fr:ZG):Prop where
 clos:closureFor scope X.env=pure (Yt X.env scope.names [])
 kind:scope.kind=.function
 nocell:∀y∈scope.names,y.2≠.cell
 names:∀y∈scope.names,y.2=.local->scope.names.lookup y.1=some .local
 cells:∀x c,(Yt X.env scope.names []).lookup x=some c->X.env.cells.lookup x=some c
 has:∀x,((relabel scope X.env).names.lookup x=some .cell\/(relabel scope X.env).names.lookup x=some .free)->∃c,(Yt X.env scope.names []).lookup x=some c
 len:fr.length=N.length
 fr:∀(i j:Nat),fr[i]?=some (some j)->∃x,N[i]?=some x/\X.N[j]?=some x/\Vis X.env.scope x/\¬ X.env.kindOf x=some .local/\((relabel scope X.env).names.lookup x=some .cell\/(relabel scope X.env).names.lookup x=some .free)
noncomputable def frees(fr:ZG)(Z:St):St:=fr.map fun o=>o.bind fun i=>(Z[i]?).bind id
theorem Jo(fr:ZG)(Z:St):(frees fr Z).length=fr.length:=Z4 _
theorem jb{fr:ZG}{Z:St}{i:Nat}{v:V}(h:(frees fr Z)[i]?=some (some v)):∃j,fr[i]?=some (some j)/\Z[j]?=some (some v):=by
 unfold frees at h;rw[Cz]at h;cases e:fr[i]? with
 | none=>rw[e]at h;cases h
 | some o =>
  rw[e]at h;cases o with
  | none=>cases h
  | some j =>
   refine⟨j,rfl, ?_⟩;have h':(Z[j]?).bind id=some v:=D3 h;cases e2:Z[j]? with
   | none=>rw[e2]at h';cases h'
   | some o2=>rw[e2]at h';exact congrArg some h'
theorem Tf{scope:Scope}{env:Env}{x:Str}{k:NameKind}(h:(relabel scope env).names.lookup x=some k):∃k0,(x,k0)∈scope.names/\(k=k0\/(k0=.free/\k=.cell)):=by
 have hm:=PySem.mem_of_lookup h;obtain⟨⟨n,k0⟩,h1,h2⟩:=Gr.mp (show (x,k)∈scope.names.map _ from hm);dsimp only at h2
 split at h2
 .rename_i hc
  cases h2;simp only[Y8,beq_iff_eq]at hc;exact⟨k0,h1,.inr ⟨hc.1.1,rfl⟩⟩
 .cases h2;exact⟨k,h1,.inl rfl⟩
noncomputable def Ks(outer scope:Scope):Bool :=
 decide (scope.kind=.function) && scope.names.all fun y=>decide (y.2≠.cell) && (decide (y.2≠.local) || decide (scope.names.lookup y.1=some .local)) &&
  (decide (y.2≠.free) || decide (outer.names.lookup y.1=some .cell) || decide (outer.names.lookup y.1=some .free))
noncomputable def Ji(NX:ZD)(names:ZK):ZD->ZG->Bool
 | [],[]=>true
 | _::N,none::fr=>Ji NX names N fr
 | x::N,some j::fr=>decide (NX[j]?=some x) && decide (names.lookup x=some .free) && Ji NX names N fr
 | _,_=>false
theorem Nh{NX:ZD}{names:ZK}:∀{N:ZD} {fr:ZG},Ji NX names N fr=true->fr.length=N.length
 | [],[],_=>rfl
 | [],_::_,h=>by simp[Ji]at h
 | _::_,[],h=>by simp[Ji]at h
 | x::N,none::fr,h=>by
  simp only[Ji]at h;simp only[Gs,Nh h]
 | x::N,some j::fr,h=>by
  simp only[Ji,Y8]at h;simp only[Gs,Nh h.2]
theorem Jx{NX:ZD}{names:ZK}:∀{N:ZD} {fr:ZG} {i j:Nat},Ji NX names N fr=true->fr[i]?=some (some j)->∃x,N[i]?=some x/\NX[j]?=some x/\names.lookup x=some .free
 | [],[],_,_,_,e=>by simp at e
 | [],_::_,_,_,h,_=>by simp[Ji]at h
 | _::_,[],_,_,h,_=>by simp[Ji]at h
 | x::N,none::fr,0,_,_,e=>by simp at e
 | x::N,none::fr,i+1,j,h,e=>by
  simp only[Ji]at h;obtain⟨y,h1,h2⟩:=Jx (i:=i) h (by simpa using e);exact⟨y,by simpa using h1,h2⟩
 | x::N,some k::fr,0,j,h,e=>by
  simp only[Ji,Y8,decide_eq_true_eq]at h;simp at e;subst e;exact⟨x,rfl,h.1.1,h.1.2⟩
 | x::N,some k::fr,i+1,j,h,e=>by
  simp only[Ji,Y8]at h;obtain⟨y,h1,h2⟩:=Jx (i:=i) h.2 (by simpa using e);exact⟨y,by simpa using h1,h2⟩
theorem Vu{f:Str->NameKind->NameKind}(x:Str):∀names:ZK,(names.map fun p=>(p.1,f p.1 p.2)).lookup x=(names.lookup x).map (f x)
 | []=>rfl
 | (n,k)::r=>by
  have ih:=Vu (f:=f) x r;cases e:x == n with
  | false =>
   simp only[Gh,List.lookup_cons,e];exact ih
  | true =>
   have e':x=n:=by simpa using e
   simp only[Gh,List.lookup_cons,e,Option.map_some];rw[e']
theorem D8(scope:Scope)(env:Env):(relabel scope env).names=scope.names.map fun p=>(p.1,if (p.2 == NameKind.free && env.scope.kind == .function && env.kindOf p.1 == some .cell)=true then NameKind.cell else p.2):=by
 show scope.names.map _=_;refine List.map_congr_left fun p _=>?_;obtain⟨n,k⟩:=p;dsimp only
 split<;>rfl
theorem Du{scope:Scope}{env:Env}{x:Str}(h:scope.names.lookup x=some .free):(relabel scope env).names.lookup x=some .cell\/(relabel scope env).names.lookup x=some .free:=by
 rw[D8,Vu (f:=fun n k=>if (k == NameKind.free && env.scope.kind == .function && env.kindOf n == some .cell)=true then NameKind.cell else k),h];dsimp only[Option.map_some]
 split
 .exact .inl rfl
 .exact .inr rfl
theorem Ra{env:Env}:∀{names:ZK} {cs:List (Str×Addr)},(∀y∈names,y.2=.free->∃c,env.cells.lookup y.1=some c)->(∀p∈cs,env.cells.lookup p.1=some p.2)->∀p∈Yt env names cs,env.cells.lookup p.1=some p.2
 | [],cs,_,hc,p,hp=>hc p hp
 | (n,k)::r,cs,hn,hc,p,hp=>by
  simp only[Yt]at hp;refine Ra (fun y hy=>hn y (Vf _ hy)) (fun q hq=>?_) p hp
  split at hq
  .rename_i hk
   rcases Y3.mp hq with e | hq
   .obtain⟨c,uz⟩:=hn (n,k) Vt (by simpa using hk);subst e;dsimp only at uz ⊢;rw[uz]
    rfl
   .exact hc q hq
  .exact hc q hq
theorem Ru{env:Env}:∀{names:ZK} {cs:List (Str×Addr)} {p:Str×Addr},p∈cs->p∈Yt env names cs
 | [],_,_,h=>h
 | (n,k)::r,cs,p,h=>by
  simp only[Yt];refine Ru ?_
  split
  .exact Vf _ h
  .exact h
theorem Ro{env:Env}:∀{names:ZK} {cs:List (Str×Addr)} {x:Str},(x,NameKind.free)∈names->∃c,(x,c)∈Yt env names cs
 | (n,k)::r,cs,x,h=>by
  rcases Y3.mp h with e | h
  .cases e;exact⟨_,by simp only[Yt,B0s,if_true];exact Ru Vt⟩
  .simp only[Yt];exact Ro h
theorem Mx{Z:Type}:∀{l:List (Str×Z)} {x:Str} {b:Z},(x,b)∈l->∃c,l.lookup x=some c
 | (n,c)::r,x,b,h=>by
  cases hx:x == n with
  | true=>exact⟨c,by simp only[List.lookup_cons,hx]⟩
  | false =>
   rcases Y3.mp h with e | h
   .cases e;simp at hx
   .obtain⟨d,hd⟩:=Mx h;exact⟨d,by simp only[List.lookup_cons,hx];exact hd⟩
theorem Wo{scope:Scope}{env:Env}(h:∀y∈scope.names,y.2=.free->∃c,env.cells.lookup y.1=some c):closureFor scope env=pure (Yt env scope.names []):=by
 have go:∀(names:ZK) (cs:List (Str×Addr)),(∀y∈names,y.2=.free->∃c,env.cells.lookup y.1=some c) ->
   (forIn names cs fun x cs=>(do
    if x.2 == NameKind.free then pure (ForInStep.yield ((x.1, <-cellOf env x.1)::cs)) else pure (ForInStep.yield cs):Sem (ForInStep (List (Str×Addr)))))=pure (Yt env names cs):=by
  intro names
  induction names with
  | nil=>intro cs _;rfl
  | cons y r ih =>
   intro cs hn;obtain⟨n,k⟩:=y;have hr:∀y∈r,y.2=.free->∃c,env.cells.lookup y.1=some c:=fun y hy=>hn y (Vf _ hy);rw[List.forIn_cons];by_cases hk:k=.free
   .subst hk;obtain⟨c,hc⟩:=hn (n,.free) Vt rfl
    have ec:cellOf env n=pure c:=by
     unfold cellOf;dsimp only at hc;rw[hc]
    simp only[B0s,if_true,ec,pure_bind,Yt];rw[ih _ hr];dsimp only at hc;rw[hc]
    rfl
   .have hb:(k == NameKind.free)=false:=by simpa using hk
    simp only[hb,we,if_false,pure_bind,Yt];exact ih _ hr
 have:=go scope.names [] h;unfold closureFor;simp only[bind_pure_comp]at this ⊢
 first
  | exact this
  | (simpa using this)
structure Pd(X:Cx)(NX:ZD)(outer scope:Scope)(N:ZD)(fr:ZG):Prop where
 nx:X.N=NX
 sc:X.env.scope.names=outer.names
 ok1:Ks outer scope=true
 ok2:Ji NX scope.names N fr=true
theorem Pd.ok{X:Cx}{NX:ZD}{outer scope:Scope}{N:ZD}{fr:ZG}(C:Pd X NX outer scope N fr)(ok:X.Ok):As X scope N fr:=by
 have h1:=C.ok1;unfold Ks at h1;simp only[Y8,decide_eq_true_eq,Pt,Bool.or_eq_true]at h1;obtain⟨hk,hn⟩:=h1
 have kof:∀x,X.env.kindOf x=outer.names.lookup x:=fun x=>by
  show X.env.scope.names.lookup x=_;rw[C.sc]
 have Sy:∀y∈scope.names,y.2=.free->X.env.kindOf y.1=some .cell\/X.env.kindOf y.1=some .free:=fun y hy e=>by
  rcases(hn y hy).2 with (z | z) | z
  .exact absurd e z
  .exact .inl ((kof _).trans z)
  .exact .inr ((kof _).trans z)
 have Sf:∀y∈scope.names,y.2=.free->∃c,X.env.cells.lookup y.1=some c:=fun y hy e=>ok.has y.1 (Sy y hy e);refine⟨Wo Sf,hk,fun y hy=>(hn y hy).1.1,fun y hy e=>?_,fun x c e=>?_,fun x h=>?_,Nh C.ok2,fun i j e=>?_⟩
 .rcases(hn y hy).1.2 with z | z
  .exact absurd e z
  .exact z
 .exact Ra Sf (fun p hp=>by cases hp) (x,c) (PySem.mem_of_lookup e)
 .have hm:(x,NameKind.free)∈scope.names:=by
   rcases h with h | h
   .obtain⟨k0,h1,h2⟩:=Tf h;rcases h2 with h2 | ⟨h2,_⟩
    .exact absurd h2.symm (hn _ h1).1.1
    .subst h2;exact h1
   .obtain⟨k0,h1,h2⟩:=Tf h;rcases h2 with h2 | ⟨_,h2⟩
    .subst h2;exact h1
    .cases h2
  obtain⟨c,hc⟩:=Ro (env:=X.env) (cs:=[]) hm;exact Mx hc
 .obtain⟨x,q1,q2,q3⟩:=Jx C.ok2 e;have hm:=PySem.mem_of_lookup q3;have hf:=Sy (x,.free) hm rfl;refine⟨x,q1,by rw[C.nx];exact q2, ?_, ?_,Du q3⟩
  .exact .inr hf
  .intro z;dsimp only at hf;rw[z]at hf;rcases hf with hf | hf<;>cases hf
section
variable{X:Cx}{scope:Scope}{N:ZD}{fr:ZG}{XF:ZY}{Z:St}{H:Hp}{s:Shared}{fp:ZU}
theorem cj(C:As X scope N fr)(I:Inv X XF Z H s)(hf:∀b∈fp,Bx X XF H b)(hob:∀b∈fp,∃o,s.heap.get? b=some o){h1:Heap}{tk:Nat}
  (E5:h1.Ns s.heap.objs.size fun _=>none) (hk:∀b o,s.heap.get? b=some o->h1.get? b=some o) :
  Inv (Z1 X scope N fp s H) [] (frees fr Z) H { s with heap:=h1,toks:=tk }:=by
 have lt:∀b∈fp,b<s.heap.objs.size:=fun b hb=>let ⟨_,e⟩:=hob b hb;Y7 e;have cellK:∀x c,(Yt X.env scope.names []).lookup x=some c->∃v,s.heap.IsCell c v:=fun x c e=>I.cell x c (C.cells x c e);have ck:∀c v,s.heap.IsCell c v->h1.IsCell c v:=fun c v ⟨o,e,d⟩=>⟨o,hk c o e,d⟩
 refine⟨⟨I.ok.mod,C.kind,I.ok.glob,I.ok.blt,Z5 _,fun x y c e1 e2=>I.ok.inj x y c (C.cells x c e1) (C.cells y c e2),fun x h=>C.has x h,fun x c h _=>absurd h Ti,I.ok.hd,I.ok.frames,.inl rfl,
   fun b hb=>⟨Gk (lt b hb),fun x c e=>(hf b hb).2.2.2.2.1 x c (C.cells x c e)⟩,I.bs,U0 I.ok.bsz I.sz,fun b o e hb=>?_,fun b hb hb'=>?_,I.stack,I.stkFree⟩,
  rfl,I.bare,Un.kept hk,⟨_,E5,fun i x v e1 e2 e3=>?_⟩,fun x c e=>?_,I.hok.fresh (Z5 _),fun x c e=>I.freeC x c (C.cells x c e),fun p hp=>absurd (show p∈([]:ZY) from hp) (by simp),I.hok.kept hk, ?_⟩
 .rcases(hf b hb).2.2.2.1 with z | z
  .exact I.ok.noex b o e z
  .exact absurd (W6 (Y7 (I.ok.bs b o e).1) z) (Nat.lt_irrefl _)
 .rcases Y3.mp (I.stkSub b hb') with z | z
  .exact(hf b hb).2.1 z
  .exact(hf b hb).2.2.1 z
 .obtain⟨j,q1,q2⟩:=jb e2;obtain⟨x',n1,n2,vis,nl,k⟩:=C.fr i j q1;have ex:x=x':=D3 (e1.symm.trans n1);subst ex;obtain⟨m,hm,hl⟩:=I.loc;obtain⟨u,r,l⟩:=hl j x v n2 q2 vis;refine⟨u,r, ?_⟩;rcases l with ⟨l1,_⟩ | ⟨_,c,l2,l3⟩
  .exact absurd l1 nl
  .obtain⟨c',uz⟩:=C.has x k;have ec:=C.cells x c' uz;rw[l2]at ec;have ec':c=c':=D3 ec;subst ec';exact .inr ⟨k,c,uz,ck c _ l3⟩
 .obtain⟨v,z⟩:=cellK x c e;exact⟨v,ck c v z⟩
 .show (frees fr Z).length=N.length;rw[Jo,C.len]
theorem Hj(I:Inv X XF Z H s)(hf:∀b∈fp,Bx X XF H b){σ':St}{H':Hp}{s':Shared}(J:Inv (Z1 X scope N fp s H) [] σ' H' s'):Inv X XF Z H' s' :=
 I.call' (ch:=fp) J.os J.base J.hok J.bare fun b hb=>⟨(hf b hb).2.2.2.1,(hf b hb).2.1,(hf b hb).2.2.2.2.1,(hf b hb).2.2.2.2.2⟩
end
def PTs(X:Cx)(ifs:ZC)(t:TT):Prop :=
 ∀(XF:ZY) (s:Shared) (Z:St) (H:Hp) (Q:Bool->Hp->Prop),Inv X XF Z H s->t Z H Q ->
  wpAny (model X.prog X.w) X.A (Ai ifs X.env) (TP X XF Z Q) X.xe s
def A3:TT:=fun _ H Q=>Q true H
theorem Xz{X:Cx}:PTs X [] A3:=fun _ _ _ H _ I h=>wpAny_tests_nil ⟨H,I,h⟩
theorem I9{X:Cx}{c:Expr}{t:TT}(h:PT X c t):PTs X [c] t:=fun XF s Z H Q I hw=>wpAny_tests_one (h XF s Z H Q I hw)
def Zj1(J:It)(g:TG)(tt:TT)(te:TE)(D:Addr)(W:Nat->Nat->ZQ->St->Hp->Prop)(fin:Hp->Prop):Prop :=
 ∀i m ys Z H,W i m ys Z H->H D=some (.lst ys)/\((J.stop i H/\fin H)\/(J.go i H/\∃N:ZQ->St->Hp->Prop,(∀ys' σ' H',N ys' σ' H'->∃m',m'<m/\W (i+1) m' ys' σ' H') /\
  ∀x H',J.yld i H x H'->g x Z H' fun σ2 H2=>tt σ2 H2 fun ok H3 =>
   if ok=true then te σ2 H3 fun y H4=>H4 D=some (.lst ys)/\ys.length<sizeLine/\N (ys++[y]) σ2 (upd H4 D (.lst (ys++[y]))) else N ys σ2 H3))
abbrev DG:=ZU->Shared->Hp->TG
abbrev DT:=ZU->Shared->Hp->TT
abbrev DE:=ZU->Shared->Hp->TE
def yp(wi:TI)(fr:ZG)(g:DG)(tt:DT)(te:DE):TE:=fun Z H Q=>wi Z H fun J H1=>∀D fp sx,H1 D=none ->
 ∃W:Nat->Nat->ZQ->St->Hp->Prop,(∃m,W 0 m [] (frees fr Z) (upd H1 D (.lst [])))/\Zj1 J (g fp sx (upd H1 D (.lst []))) (tt fp sx (upd H1 D (.lst []))) (te fp sx (upd H1 D (.lst []))) D W (fun H=>Q (.ref D) H)
section
variable{X:Cx}{scope:Scope}{N:ZD}{fr:ZG}{tg elt iter:Expr}{ifs:ZC}{pos:Pos}{wi:TI}{g:DG}{tt:DT}{te:DE}
theorem Ex{XF:ZY}{Z:St}{s2:Shared}{it:Addr}{fp:ZU}{tn:Nat->Heap->Prop}{J:It}{H2:Hp}{RR:Value->Addr->Result->Shared->Prop}{E:ZW}
  (hc:X.calm=true) (C:As X scope N fr)
  (hg:∀fp s H,PG (Z1 X scope N fp s H) tg (g fp s H)) (ht:∀fp s H,PTs (Z1 X scope N fp s H) ifs (tt fp s H)) (he:∀fp s H,PE (Z1 X scope N fp s H) elt (te fp s H))
  (I2:Inv X XF Z H2 s2) (T:Turn X.prog X.w X.K tg J fp it tn) (yu:tn 0 s2.heap) (f2:∀b∈fp,Bx X XF H2 b) {fin:Addr->Hp->Prop}
  (hW:∀D fp sx,H2 D=none->∃W:Nat->Nat->ZQ->St->Hp->Prop,(∃m,W 0 m [] (frees fr Z) (upd H2 D (.lst [])))/\Zj1 J (g fp sx (upd H2 D (.lst []))) (tt fp sx (upd H2 D (.lst []))) (te fp sx (upd H2 D (.lst []))) D W (fin D))
  (c9:∀D Cc s' σ' H' m,Inv X XF Z H' s'->H' Cc=none->Cc≠X.env.locals->Cc ∉ X.fs->X.s₀.heap.objs.size<=Cc->(∀x c,X.env.cells.lookup x=some c->c≠Cc)->(∀p∈X.pn++XF,p.1≠Cc)->s'.heap.Ns Cc m->fin D H' ->
   RR (.ref D) Cc (.ok σ') s') :
  wpAny (model X.prog X.w) X.A (newList []) (fun acc s₃=>wpAny (model X.prog X.w) X.A (newFunctionEnv scope X.env.globals (Yt X.env scope.names []) [] X.env.qual none .none (some X.env)) (fun cenv s₄ =>
   codeAny (model X.prog X.w) X.A (.compStart (.ListComp elt [⟨tg,iter,ifs,0⟩] scope pos) 0 (.ref it) acc { cenv with scope:=relabel scope X.env }) (RR acc cenv.locals) s₄) E s₃) E s2:=by
 refine wpAny_newObj_type (wpAny_newFunctionEnv C.nocell (by intro y hy;simp at hy) (fun h₁ hns₁ hsb₁=>?_) C.kind);dsimp only at hns₁ hsb₁ ⊢
 have I3:Inv X XF Z (upd H2 s2.heap.objs.size (.lst [])) { s2 with heap:=s2.heap.push { cls:=.type "list",dict:=none,data:=.seq ([]:ZM).toArray } } :=
  I2.laid (t':=s2.toks) (fun b o e=>Yr _ e) (Z5 _) ⟨Ma _,[],0,.nil,U1 _ rfl⟩
 have hD:H2 s2.heap.objs.size=none:=I2.hok.fresh (Z5 _);obtain⟨W,⟨m0,w0⟩,turn⟩:=hW _ fp { s2 with heap:=s2.heap.push { cls:=.type "list",dict:=none,data:=.seq ([]:ZM).toArray } } hD;generalize hDD:s2.heap.objs.size=D at *;generalize hS3:({ s2 with heap:=s2.heap.push { cls:=.type "list",dict:=none,data:=.seq ([]:ZM).toArray } }:Shared)=S3 at *;have hS3h:s2.heap.push { cls:=.type "list",dict:=none,data:=.seq ([]:ZM).toArray }=S3.heap:=by rw[<-hS3]
 rw[hS3h]at hns₁ hsb₁ ⊢;have obj2:=T.obj 0 _ yu
 have nD:∀b∈fp,b≠D:=fun b hb z=>by
  obtain⟨o,e,_⟩:=obj2 b hb;have q:=Y7 e;rw[hDD,z]at q;exact absurd q (Nat.lt_irrefl _)
 have f3:∀b∈fp,Bx X XF (upd H2 D (.lst [])) b:=fun b hb=>⟨by rw[Zz (nD b hb)];exact(f2 b hb).1,(f2 b hb).2⟩
 have ob3:∀b∈fp,∃o,S3.heap.get? b=some o:=fun b hb=>by
  obtain⟨o,e,_⟩:=obj2 b hb;exact⟨o,by rw[<-hS3h];exact Yr _ e⟩
 have st3:tn 0 S3.heap:=T.keep _ _ _ yu fun b hb o e=>by rw[<-hS3h];exact Yr _ e
 have hk1:∀b o,S3.heap.get? b=some o->h₁.get? b=some o:=fun b o e=>hsb₁.extBut b o (Gk (Y7 e)) (Yr _ e);have J1:Inv (Z1 X scope N fp S3 (upd H2 D (.lst []))) [] (frees fr Z) (upd H2 D (.lst [])) { S3 with heap:=h₁,toks:=s2.toks+([]:List (Str×Value)).length }:=cj C I3 f3 ob3 hns₁ hk1;have st4:tn 0 h₁:=T.keep _ _ _ st3 fun b hb o e=>hk1 b o e;have es:({ s2 with heap:=h₁,toks:=s2.toks+([]:List (Str×Value)).length }:Shared)={ S3 with heap:=h₁,toks:=s2.toks+([]:List (Str×Value)).length }:=by rw[<-hS3]
 have FpC:∀{H':Hp},(∀b∈fp,H' b=none)->∀b∈fp,Bx (Z1 X scope N fp S3 (upd H2 D (.lst []))) [] H' b:=fun hn b hb =>
  ⟨hn b hb,(J1.ok.exf b hb).1,J1.ok.exfs b hb,.inl hb,(J1.ok.exf b hb).2,fun p hp=>absurd (show p∈([]:ZY) from hp) (by simp)⟩
 have loop:codeAny (model X.prog X.w) X.A (.compLoop (.ListComp elt [⟨tg,iter,ifs,0⟩] scope pos) 0 (.ref it) (.ref D) (Z1 X scope N fp S3 (upd H2 D (.lst []))).env) (RR (.ref D) S3.heap.objs.size)
   { S3 with heap:=h₁,toks:=s2.toks+([]:List (Str×Value)).length }:=by
  refine Q5 (fun n s'=>∃i ys σ' H',Inv (Z1 X scope N fp S3 (upd H2 D (.lst []))) [] σ' H' s'/\tn i s'.heap/\(∀b∈fp,H' b=none)/\W i n ys σ' H') ?_ m0 ⟨0,[],_,_,J1,st4,fun b hb=>(f3 b hb).1,w0⟩;rintro n s5 ⟨i,ys,σ5,H5,J5,st5,fr5,w5⟩;obtain⟨hDl,alt⟩:=turn i n ys σ5 H5 w5;rcases alt with ⟨stop,fi⟩ | ⟨go,NN,hNN,step⟩
  .refine Z9 (T.done (Z1 X scope N fp S3 (upd H2 D (.lst []))) rfl rfl rfl hc i [] s5 σ5 H5 pj J5 (FpC fr5) st5 stop) fun r s6 ⟨hr,J6⟩=>?_;subst hr;show RR (.ref D) S3.heap.objs.size (.ok .next) s6;have I6:=Hj I3 f3 J6;obtain⟨mm,hmm,_⟩:=J6.loc;refine c9 D _ s6 _ H5 mm I6 J6.free ?_ ?_ ?_ ?_ ?_ hmm fi
   .exact Nat.ne_of_gt I3.lt
   .exact I3.nofs (Z5 _)
   .exact I3.sz
   .intro x c e z;obtain⟨v,q⟩:=I3.cell x c e;exact absurd q.lt (by rw[z];exact Nat.lt_irrefl _)
   .intro p hp z;exact absurd (Y7 (I3.pin p hp).1) (by rw[z];exact Nat.lt_irrefl _)
  .refine Z9 (T.item (Z1 X scope N fp S3 (upd H2 D (.lst []))) rfl rfl rfl hc i [] s5 σ5 H5 pj J5 (FpC fr5) st5 go) fun r s6 ⟨u,hr,h6⟩=>?_;subst hr;refine Z9 (Q:=_) h6 fun _ s7 ⟨x,H7,J7,r7,y7,st7,fr7⟩=>?_;have J7':=J7.pinned (FpC fr7) (T.obj _ _ st7)
   have back:∀{σ9:St} {H9:Hp} {s9:Shared},Inv (Z1 X scope N fp S3 (upd H2 D (.lst []))) ([]++C8 fp s7.heap) σ9 H9 s9->tn (i+1) s9.heap/\∀b∈fp,H9 b=none:=fun {σ9 H9 s9} J9 =>
    ⟨T.keep _ _ _ st7 fun b hb o e=>(J9.pin (b,o) (zc _ (zc _ (Jh hb e)))).1,fun b hb=>by
     obtain⟨o,e,d⟩:=T.obj _ _ st7 b hb;exact(J9.pin (b,o) (zc _ (zc _ (Jh hb e)))).2.1⟩
   refine Z9 (hg fp S3 _ _ s7 σ5 H7 x u _ J7' r7 (step x H7 y7)) fun _ s8 ⟨σ8,H8,J8,q8⟩=>?_;refine Z9 (ht fp S3 _ _ s8 σ8 H8 _ J8 q8) fun ok s9 ⟨H9,J9,q9⟩=>?_;cases ok with
   | false =>
    rw[if_neg Ti]at q9;unfold TurnEnd;rw[if_neg Ti];obtain⟨m',hm,w9⟩:=hNN _ _ _ q9;exact⟨m',hm,i+1,ys,σ8,H9,J9.unpinned,(back J9).1,(back J9).2,w9⟩
   | true =>
    rw[if_pos rfl]at q9;unfold TurnEnd;rw[if_pos rfl];refine Z9 (he fp S3 _ _ s9 σ8 H9 _ J9 q9) fun yv s10 ⟨y,H10,J10,r10,hD10,hz,n10⟩=>?_;obtain⟨m',hm,w10⟩:=hNN _ _ _ n10;refine Z9 (Lh (X:=Z1 X scope N fp S3 (upd H2 D (.lst []))) _ s10 σ8 H10 (.ref D) [y] (.ref D) [yv] (fun _ H'=>H'=upd H10 D (.lst (ys++[y]))) J10 rfl (.cons r10 .nil) ⟨D,ys,y,rfl,rfl,hD10,hz,rfl⟩) fun _ s11 ⟨v11,H11,J11,_,e11⟩=>?_;subst e11;exact⟨m',hm,i+1,ys++[y],σ8,_,J11.unpinned,(back J11).1,(back J11).2,w10⟩
 rw[es];exact codeAny_compStart_list loop (T.self _ 0 _ _ _ st4 loop)
theorem Zzk{NX:ZD}{outer:Scope}(hc:X.calm=true)(hi:PI X tg iter wi)(C:Pd X NX outer scope N fr)
  (hg:∀fp s H,PG (Z1 X scope N fp s H) tg (g fp s H)) (ht:∀fp s H,PTs (Z1 X scope N fp s H) ifs (tt fp s H)) (he:∀fp s H,PE (Z1 X scope N fp s H) elt (te fp s H))
  (hs:∀x,foldedSetIterable iter X.env x=pure x:=by intro _;rfl):PE X (.ListComp elt [⟨tg,iter,ifs,0⟩] scope pos) (yp wi fr g tt te):=by
 intro XF s Z H Q I h;have C:=C.ok I.ok;rw[eval_ListComp];refine wpAny_comprehension_free (use:=none) rfl hs C.clos C.kind C.names (Z9 (hi XF s Z H _ I h) fun v s1 h1=>Z9 h1 fun itv s2 h2=>?_);obtain⟨it,fp,tn,J,H2,e,I2,T,yu,f2,hW⟩:=h2;subst e;refine Ex (RR:=fun acc Cc=>compPost (model X.prog X.w) X.A X.xe none (EP X XF Z Q) acc Cc) hc C hg ht he I2 T yu f2 hW ?_;intro D Cc s' fl H' m I' f0 f1 f2' f3 f4 f5 E5 fi;refine⟨m,E5,fun h' sb=>?_⟩;exact⟨.ref D,H',I'.turned (t':=s'.toks) (fun b o hb e=>(sb.2 b hb).trans e) f0 f1 (.inr f3) f4 f5,rfl,fi⟩
theorem K2{NX:ZD}{outer:Scope}{i:Nat}{x:Str}{pos' Jz:Pos}(hN:X.N.Nodup)(hix:X.N[i]?=some x)(hx:Loc X.env.scope x)(hc:X.calm=true)(hi:PI X tg iter wi)(C:Pd X NX outer scope N fr)
  (hg:∀fp s H,PG (Z1 X scope N fp s H) tg (g fp s H)) (ht:∀fp s H,PTs (Z1 X scope N fp s H) ifs (tt fp s H)) (he:∀fp s H,PE (Z1 X scope N fp s H) elt (te fp s H))
  (hsw:swapsWith (.ListComp elt [⟨tg,iter,ifs,0⟩] scope pos) (some (.Name x pos')) Jz.line X.env=pure true:=by rfl)
  (hs:∀x,foldedSetIterable iter X.env x=pure x:=by intro _;rfl) (hf:X.fn x=true\/X.env.scope.names.lookup x=some .local:=by first | exact .inl rfl | exact .inr rfl | assumption) :
  PS X (.Assign [.Name x pos'] (.ListComp elt [⟨tg,iter,ifs,0⟩] scope pos) Jz) (tAsg (yp wi fr g tt te) (ng i)):=by
 intro XF s Z H Dd I h;have C:=C.ok I.ok;rw[exec_Assign_Name_used _ _ _ _ hsw];refine Zx (wpAny_standAt (Zx ?_));show wpAny _ X.A (do let _ <-comprehension (.ListComp elt [⟨tg,iter,ifs,0⟩] scope pos) scope X.env _ (newList []) false (eval iter X.env) (some (assign (.Name x pos') X.env))) _ _ s
 refine Zx (wpAny_mono (wpAny_comprehension_free (use:=some (assign (.Name x pos') X.env)) (Q:=fun _ s'=>SP X XF Dd .next s') rfl hs C.clos C.kind C.names
  (Z9 (hi XF s Z H _ I h) fun v s1 h1=>Z9 h1 fun itv s2 h2=>?_)) (fun _ s' hq=>Zf (Zf hq)) fun _ _ e=>e)
 obtain⟨it,fp,tn,J,H2,e,I2,T,yu,f2,hW⟩:=h2;subst e;refine Ex (RR:=fun acc Cc=>compPost (model X.prog X.w) X.A X.xe (some (assign (.Name x pos') X.env)) (fun _ s'=>SP X XF Dd .next s') acc Cc) hc C hg ht he I2 T yu f2 hW ?_;intro D Cc s' fl H' m I' f0 f1 f2' f3 f4 f5 E5 fi;show wpAny _ X.A (assign (.Name x pos') X.env (.ref D)) _ _ _;refine wpAny_assign_Name (Lv (v:=.ref D) I' hN hix hx rfl (fun s3 I3 ⟨a,sb,ha⟩=>?_) hf)
 have na:Cc≠a:=by
  rcases ha with z | z
  .rw[z];exact f1
  .exact fun q=>f4 x a z q.symm
 refine⟨m,E5.sameBut sb na,fun h' sb'=>?_⟩;exact⟨_,H',I3.turned (t':=s3.toks) (fun b o hb e=>(sb'.2 b hb).trans e) f0 f1 (.inr f3) f4 f5,fi⟩
end
end L2
namespace SetM
open PySem
def uq(xs:ZS):Prop:=∀a b (h:a<b) (hb:b<xs.size),xs[a]'(Nat.lt_trans h hb)<xs[b]
theorem getD_in{xs:ZS}{i d:Nat}(h:i<xs.size):xs.getD i d=xs[i]:=by simp[Array.getD,h]
theorem Qi{xs:ZS}{j:Nat}(hr:uq xs):∀(fuel lo hi:Nat),hi - lo<=fuel->lo<=hi->hi<=xs.size->(∀i (h:i<xs.size),i<lo->xs[i]<j)->(∀i (h:i<xs.size),hi<=i->j<=xs[i]) ->
  (∀i (h:i<xs.size),i<SetTable.below.go xs j fuel lo hi->xs[i]<j)/\(∀i (h:i<xs.size),SetTable.below.go xs j fuel lo hi<=i->j<=xs[i])/\SetTable.below.go xs j fuel lo hi<=xs.size
 | 0,lo,hi,hf,hl,hs,h1,h2=>by
  have e:lo=hi:=by omega
  subst e;simp only[SetTable.below.go];exact⟨h1,h2,hs⟩
 | fuel+1,lo,hi,hf,hl,hs,h1,h2=>by
  simp only[SetTable.below.go];by_cases h:lo<hi
  .rw[if_pos h];have hm:(lo+hi) / 2<xs.size:=by omega
   rw[getD_in hm];by_cases hc:xs[(lo+hi) / 2]<j
   .rw[if_pos hc];refine Qi hr fuel _ _ (by omega) (by omega) hs (fun i p8 Rt=>?_) h2;rcases Nat.lt_or_ge i ((lo+hi) / 2) with z | z
    .exact Nat.lt_trans (hr i _ z hm) hc
    .have e:i=(lo+hi) / 2:=by omega
     subst e;exact hc
   .rw[if_neg hc];refine Qi hr fuel _ _ (by omega) (by omega) (by omega) h1 (fun i p8 hle=>?_);rcases Nat.lt_or_ge ((lo+hi) / 2) i with z | z
    .have:=hr _ i z p8;omega
    .have e:i=(lo+hi) / 2:=by omega
     subst e;omega
  .rw[if_neg h];have e:lo=hi:=by omega
   subst e;exact⟨h1,h2,hs⟩
theorem Gy{xs:ZS}{j:Nat}(hr:uq xs):(∀i (h:i<xs.size),i<SetTable.below xs j->xs[i]<j)/\(∀i (h:i<xs.size),SetTable.below xs j<=i->j<=xs[i])/\SetTable.below xs j<=xs.size :=
 Qi hr xs.size 0 xs.size (by omega) (by omega) (Z5 _) (fun i _ h=>by omega) (fun i h h'=>by omega)
theorem H0{xs:ZS}(hr:uq xs){i:Nat}(h:i<xs.size):SetTable.below xs (xs[i]+1)=i+1:=by
 obtain⟨h1,h2,h3⟩:=Gy (j:=xs[i]+1) hr;rcases Nat.lt_trichotomy (SetTable.below xs (xs[i]+1)) (i+1) with z | z | z
 .have:=h2 i h (by omega);omega
 .exact z
 .have hi:i+1<xs.size:=by omega
  have:=h1 (i+1) hi z;have:=hr i (i+1) (by omega) hi;omega
theorem He{xs:ZS}(hr:uq xs):SetTable.below xs 0=0:=by
 obtain⟨h1,h2,h3⟩:=Gy (j:=0) hr;rcases Nat.eq_zero_or_pos (SetTable.below xs 0) with z | z
 .exact z
 .have:=h1 0 (by omega) z;omega
theorem xn(n:Nat):uq (Array.range n):=fun a b h hb=>by simp;omega
theorem Hw{xs:ZS}{p j:Nat}(hp:p<=xs.size):∀i,(SetTable.insertAt xs p j)[i]?=if i<p then xs[i]? else if i=p then some j else xs[i - 1]?:=by
 intro i;unfold SetTable.insertAt;have Xi:((xs.extract 0 p).push j).size=p+1:=by simp;omega
 rw[Array.getElem?_append,Xi];by_cases h1:i<p+1
 .rw[if_pos h1,Array.getElem?_push];have hs2:(xs.extract 0 p).size=p:=by simp;omega
  rw[hs2];by_cases h2:i=p
  .rw[if_pos h2,if_neg (by omega),if_pos h2]
  .rw[if_neg h2,if_pos (by omega)];rw[Array.getElem?_extract];simp;omega
 .rw[if_neg h1,if_neg (by omega),if_neg (by omega)];rw[Array.getElem?_extract];have e:p+(i - (p+1))=i - 1:=by omega
  rw[e];simp;intro h;omega
theorem Vr{Z:Type}{xs:Array Z}{p:Nat}{j:Z}(hp:p<=xs.size):(SetTable.insertAt xs p j).size=xs.size+1:=by
 unfold SetTable.insertAt;simp;omega
theorem ie{xs:ZS}{j:Nat}(hr:uq xs)(hn:xs[SetTable.below xs j]?≠some j):uq (SetTable.insertAt xs (SetTable.below xs j) j):=by
 obtain⟨h1,h2,h3⟩:=Gy (j:=j) hr;generalize hk:SetTable.below xs j=k at h1 h2 h3 hn;have g:=Hw (xs:=xs) (j:=j) h3;intro a b hab hb;rw[Vr h3]at hb;have ga:=g a;have gb:=g b;have ha':a<(SetTable.insertAt xs k j).size:=by rw[Vr h3];omega
 have hb':b<(SetTable.insertAt xs k j).size:=by rw[Vr h3];omega
 rw[Fb ha']at ga;rw[Fb hb']at gb
 have strict:∀i (h:i<xs.size),k<=i->j<xs[i]:=fun i h hk'=>by
  have hle:=h2 i h hk';rcases Nat.lt_or_ge k i with z | z
  .have hkz:k<xs.size:=by omega
   have:=hr k i z h;have:=h2 k hkz (Z5 _);omega
  .have e:i=k:=by omega
   subst e;rw[Fb h]at hn;have:xs[i]≠j:=fun q=>hn (by rw[q]);omega
 by_cases a1:a<k
 .rw[if_pos a1,Fb (by omega)]at ga;have ga':=D3 ga;by_cases b1:b<k
  .rw[if_pos b1,Fb (by omega)]at gb;have gb':=D3 gb;rw[ga',gb'];exact hr a b hab (by omega)
  .rw[if_neg b1]at gb;by_cases b2:b=k
   .rw[if_pos b2]at gb;have gb':=D3 gb;rw[ga',gb'];exact h1 a (by omega) a1
   .rw[if_neg b2,Fb (by omega)]at gb;have gb':=D3 gb;rw[ga',gb'];exact hr a (b - 1) (by omega) (by omega)
 .rw[if_neg a1]at ga;rw[if_neg (by omega),if_neg (by omega),Fb (by omega)]at gb;have gb':=D3 gb;by_cases a2:a=k
  .rw[if_pos a2]at ga;have ga':=D3 ga;rw[ga',gb'];exact strict (b - 1) (by omega) (by omega)
  .rw[if_neg a2,Fb (by omega)]at ga;have ga':=D3 ga;rw[ga',gb'];exact hr (a - 1) (b - 1) (by omega) (by omega)
structure D0(t:SetTable)(n:Nat):Prop where
 size:t.place.size=n
 dum:t.dummies=#[]
 ris:uq t.place
 room:n<=t.mask
theorem D0.fits{t:SetTable}{n:Nat}(h:D0 t n):t.fits n=true:=by
 unfold SetTable.fits SetTable.fill;rw[h.dum,h.size];simp;exact h.room
theorem Lj(f m:Nat)(led:Bool):D0 (SetTable.fresh f m led) 0:=⟨rfl,rfl,fun a b _ hb=>by simp[SetTable.fresh]at hb,Ma _⟩
theorem Ut(t:SetTable)(n:Nat):D0 (t.standIn n) n:=⟨by simp[SetTable.standIn],rfl,xn n,by simp[SetTable.standIn];omega⟩
theorem X1(j:Nat):SetTable.has #[] j=false:=by simp[SetTable.has]
theorem Wg{t:SetTable}{n:Nat}(hs:t.place.size=n)(hd:t.dummies=#[])(hr:uq t.place):D0 (t.orStandIn n) n:=by
 unfold SetTable.orStandIn
 split
 .rename_i h
  refine⟨hs,hd,hr, ?_⟩;unfold SetTable.fits SetTable.fill at h;rw[hd,hs]at h;simpa using h
 .exact Ut t n
theorem Tz{t:SetTable}(hd:t.dummies=#[]){f:Nat->Int}{h:Int}{j:Nat}{dm:ZH}:∀(fuel:Nat) (p:SetTable.Probe),p.dummy=none->SetTable.probe.go t f h fuel p=some (.empty j dm)->dm=none/\t.place[SetTable.below t.place j]?≠some j
 | 0,p,_,e=>by simp[SetTable.probe.go]at e
 | fuel+1,p,hp,e=>by
  have adv:(t.advance p).dummy=none:=by
   unfold SetTable.advance
   split
   .exact hp
   .exact hp
  simp only[SetTable.probe.go]at e;cases hs:t.slot p.j with
  | empty =>
   rw[hs]at e;simp only[Option.some.injEq,SetTable.Met.empty.injEq]at e;obtain⟨e1,e2⟩:=e;subst e1;refine⟨by rw[<-e2,hp],fun q=>?_⟩;unfold SetTable.slot at hs;simp[q]at hs
  | dummy =>
   exfalso
   unfold SetTable.slot at hs;simp only[hd,X1]at hs
   split at hs<;>simp at hs
  | live i =>
   rw[hs]at e;simp only at e
   split at e
   .simp at e
   .exact Tz hd fuel _ adv e
theorem Kf{t:SetTable}{es:Array (Int×Value)}(h:D0 t es.size)(k:Int)(x:Value):D0 (layNew t es k x).2.1 (layNew t es k x).1.size:=by
 unfold layNew;cases hf:t.freeSlot k with
 | none =>
  simp only;have:(es.push (k,x)).size=es.size+1:=by simp
  rw[this];exact Ut t _
 | some sw =>
  obtain⟨slot,wd⟩:=sw;simp only;unfold SetTable.freeSlot at hf
  have hn:t.place[SetTable.below t.place slot]?≠some slot:=by
   cases hp:t.probe (fun _=>k+1) k (t.probeStart k) with
   | none=>rw[hp]at hf;simp at hf
   | some m =>
    rw[hp]at hf;cases m with
    | candidate a b c=>simp at hf
    | empty j dm =>
     obtain⟨e1,e2⟩:=Tz h.dum _ (t.probeStart k) rfl hp;subst e1;simp at hf;rw[<-hf.1];exact e2
  obtain⟨_,_,hb⟩:=Gy (j:=slot) h.ris;have hb':SetTable.below t.place slot<=es.size:=by rw[<-h.size];exact hb
  have e1:(t.put slot).2=SetTable.below t.place slot:=rfl;refine Wg ?_ ?_ ?_
  .rw[e1,Vr hb'];show (SetTable.insertAt t.place (SetTable.below t.place slot) slot).size=es.size+1;rw[Vr hb,h.size]
  .show (if SetTable.has t.dummies slot then _ else t.dummies)=#[];rw[h.dum,X1]
   rfl
  .exact ie h.ris hn
theorem Hz{t:SetTable}{es:Array (Int×Value)}(k:Int)(x:Value):(layNew t es k x).2.1.led=t.led:=by
 unfold layNew
 split
 .simp only[SetTable.orStandIn]
  split<;>rfl
 .rfl
theorem K1(n:Nat)(g:Nat->ZH):((List.range n).filterMap fun j=>(g j).map (j, ·)).Pairwise fun a b=>a.1<b.1:=by
 rw[List.pairwise_filterMap];refine List.Pairwise.imp ?_ List.pairwise_lt_range;intro a b hab c hc d hd;cases ha:g a with
 | none=>rw[ha]at hc;simp at hc
 | some u =>
  cases hb:g b with
  | none=>rw[hb]at hd;simp at hd
  | some v =>
   rw[ha]at hc;rw[hb]at hd;simp at hc hd;rw[<-hc, <-hd];exact hab
theorem Fp{t:SetTable}{es:Array (Int×Value)}(wanted:Nat):D0 (relayAll t es wanted).2.1 (relayAll t es wanted).1.size:=by
 unfold relayAll;cases hr:t.relaid (es.map (·.1)) wanted with
 | none=>exact Ut t _
 | some to =>
  obtain⟨t',order⟩:=to;simp only
  split
  .rename_i hc
   unfold SetTable.relaid SetTable.laid at hr;cases hl:SetTable.layClean (SetTable.sizeAbove wanted - 1) (es.map (·.1)) with
   | none=>rw[hl]at hr;simp at hr
   | some owner =>
    rw[hl]at hr;simp at hr;obtain⟨h1,h2⟩:=hr;have Wl:=(uk.mp hc).2;have hd:t'.dummies=#[]:=by rw[<-h1]
    refine⟨?_,hd, ?_, ?_⟩
    .unfold SetTable.fits at Wl;simp at Wl;exact Wl.1
    .rw[<-h1];intro a b hab hb;have hp:=K1 (SetTable.sizeAbove wanted - 1+1) (fun j=>owner[j]?.getD none);have hp2:(((List.range (SetTable.sizeAbove wanted - 1+1)).filterMap fun j=>(owner[j]?.getD none).map (j, ·)).map fun p=>p.1).Pairwise (· < ·):=List.pairwise_map.mpr hp;simp only[List.getElem_toArray];exact List.pairwise_iff_getElem.mp hp2 a b _ _ hab
    .unfold SetTable.fits SetTable.fill at Wl;rw[hd]at Wl;simp at Wl;exact(Wl.1 ▸ Wl.2:_)
  .exact Ut t _
theorem Qv{t:SetTable}{es:Array (Int×Value)}(wanted:Nat):(relayAll t es wanted).2.1.led=t.led:=by
 unfold relayAll;cases hr:t.relaid (es.map (·.1)) wanted with
 | none=>rfl
 | some to =>
  obtain⟨t',order⟩:=to;simp only
  split
  .unfold SetTable.relaid SetTable.laid at hr;cases hl:SetTable.layClean (SetTable.sizeAbove wanted - 1) (es.map (·.1)) with
   | none=>rw[hl]at hr;simp at hr
   | some owner =>
    rw[hl]at hr;simp at hr;rw[<-hr.1]
  .rfl
theorem Ga{Z U:Type}{F:Z->U->Prop}{l l':List U}(p:l'.Perm l):∀{ks:List Z},Paired F ks l->∃Tc,Paired F Tc l'/\Tc.Perm ks:=by
 induction p with
 | nil=>intro ks h;cases h;exact⟨[],.nil,.nil⟩
 | cons x p ih =>
  intro ks h;cases h with
  | cons r t =>
   obtain⟨Tc,h1,h2⟩:=ih t;exact⟨_::Tc,.cons r h1,h2.cons _⟩
 | swap x y l =>
  intro ks h;cases h with
  | cons r t =>
   cases t with
   | cons r' t'=>exact⟨_::_::_,.cons r' (.cons r t'),.swap _ _ _⟩
 | trans p1 p2 ih1 ih2 =>
  intro ks h;obtain⟨k1,h1,h2⟩:=ih2 h;obtain⟨k2,h3,h4⟩:=ih1 h1;exact⟨k2,h3,h4.trans h2⟩
theorem Mm{Z U:Type}{F:Z->U->Prop}:∀{ks:List Z} {l:List U},Paired F ks l->∀k∈ks,∃e∈l,F k e
 | _,_,.nil,k,h=>by cases h
 | _,_,.cons r t,k,h=>by
  rcases Y3.mp h with z | z
  .subst z;exact⟨_,Vt,r⟩
  .obtain⟨e,h1,h2⟩:=Mm t k z;exact⟨e,Vf _ h1,h2⟩
theorem Gi{Z U:Type}{F:Z->U->Prop}:∀{ks:List Z} {l:List U},Paired F ks l->∀e∈l,∃k∈ks,F k e
 | _,_,.nil,k,h=>by cases h
 | _,_,.cons r t,k,h=>by
  rcases Y3.mp h with z | z
  .subst z;exact⟨_,Vt,r⟩
  .obtain⟨e,h1,h2⟩:=Gi t k z;exact⟨e,Vf _ h1,h2⟩
section
variable{prog:Program}{w:World}{K:Type}[DecidableEq K](knd:KeyKind prog w K)
structure Zqh(o:Obj)(ks:List K):Prop where
 ex:o.ExactSet
 dat:∃es ep t,o.data=.set es ep t/\ElemsOf knd es.toList/\Paired (fun k (e:Int×Value)=>knd.is k e.2=true) ks es.toList/\es.size<scanBound/\D0 t es.size/\t.led=!(w.params.followText "set-order")
 nd:ks.Nodup
def Jf(h:Heap)(a:Addr)(ks:List K):Prop:=∃o,h.get? a=some o/\Zqh knd o ks
variable{knd}{A:Around}{E:ZW}{s:Shared}{a:Addr}
theorem Zqh.len{o:Obj}{ks:List K}(h:Zqh knd o ks):ks.length<scanBound:=by
 obtain⟨es,ep,t,_,_,p,b,_⟩:=h.dat;rw[p.length,W8];exact b
theorem Ce{o:Obj}{es Hm:Array (Int×Value)}{ep:Nat}{t t':SetTable}{Tc:List K}{h:Heap}(ho:h.get? a=some o)(hex:o.ExactSet)(hd:o.data=.set es ep t)(el:ElemsOf knd Hm.toList)
  (pr:Paired (fun k (e:Int×Value)=>knd.is k e.2=true) Tc Hm.toList) (hb:Hm.size<scanBound) (ti:D0 t' Hm.size) (hl:t'.led=!(w.params.followText "set-order")) (nd:Tc.Nodup) :
  (h.update a (Obj.putSet Hm t')).get? a=some { o with data:=.set Hm (ep+1) t' }/\Zqh knd { o with data:=.set Hm (ep+1) t' } Tc:=by
 have mem:∀k',(decide (k'∈Tc))=true↔∃e∈Hm.toList,knd.is k' e.2=true:=fun k'=>by
  rw[decide_eq_true_eq];constructor
  .exact fun hk=>Mm pr k' hk
  .rintro⟨e,he,hq⟩;obtain⟨k2,h1,h2⟩:=Gi pr e he;rw[knd.inj e.2 k' k2 hq h2];exact h1
 obtain⟨e1,o2,es2,ep2,t2,e2,ex2,d2,_⟩:=SetOf_store (knd:=knd) ho hex hd el mem hb ti.fits;rw[e1]at e2;cases e2;exact⟨e1,⟨ex2,⟨Hm,ep+1,t',rfl,el,pr,hb,ti,hl⟩,nd⟩⟩
theorem ik{ks:List K}{k:K}{x:Value}{Q:Bool->Shared->Prop}(c6:knd.is k x=true)(hsc:x.scannable=true)(hS:Jf knd s.heap a ks)(hroom:ks.length+1<scanBound)
  (h:∀h' Tc,Heap.SameBut a s.heap h'->Jf knd h' a Tc->Tc.Perm (if k∈ks then ks else ks++[k])->Q (!decide (k∈ks)) { s with heap:=h' }) :
  wpAny (model prog w) A (setAddHashed a x (knd.hash k)) Q E s:=by
 obtain⟨o,ho,S⟩:=hS;obtain⟨es,ep,t,hd,wk,pr,hb,ti,Hv⟩:=S.dat;have hlen:ks.length=es.size:=by rw[pr.length,W8]
 unfold setAddHashed setAddHashedIn;refine wpAny_holding (Zx (wpAny_setState_of ho hd ti.fits ?_));dsimp only;rw[byScan_of hsc hb wk];simp only[↓reduceIte];unfold setAddByScan;refine Zx (Zx (wpAny_rule (Zx (wpAny_setScan_of c6 ho hd ti.fits wk ?_))));cases hr:List.findIdx? (fun e=>knd.is k e.2) es.toList with
 | some j =>
  dsimp only;obtain⟨hj,hpj,_⟩:=List.findIdx?_eq_some_iff_getElem.mp hr
  have hk:k∈ks:=by
   obtain⟨k2,h1,h2⟩:=Gi pr _ (wu hj);rw[knd.inj _ k k2 hpj h2];exact h1
  have q:=h s.heap ks (Heap.SameBut.refl a s.heap) ⟨o,ho,S⟩ (by rw[if_pos hk]);rw[Mi hk]at q;exact Zf (Zf q)
 | none =>
  dsimp only
  have hk:k ∉ ks:=fun hm=>by
   obtain⟨e,he,hq⟩:=Mm pr k hm;have z:=List.findIdx?_eq_none_iff.mp hr e he;rw[hq]at z;cases z
  have gw:∀(b:Bool) {s₁:Shared} {Q':ZA},Q' () s₁->wpAny (model prog w) A (match b with | true=>rule "set.scan.the-table-gave-way" | false=>pure ()) Q' E s₁ :=
   fun b s₁ Q' hq=>by cases b<;>first | exact Zf hq | exact wpAny_rule hq
  have perm0:=layNew_perm t es (knd.hash k) x;have P6:=Kf (t:=t) ti (knd.hash k) x;have t4:=Hz (t:=t) (es:=es) (knd.hash k) x;generalize hL:layNew t es (knd.hash k) x=L at perm0 P6 t4 ⊢;obtain⟨Wu,t1,wasDummy,gave⟩:=L;dsimp only at perm0 P6 t4 ⊢;rw[Array.toList_push]at perm0;have el1:ElemsOf knd Wu.toList:=(wk.push c6 hsc).perm perm0;have pr0:Paired (fun k (e:Int×Value)=>knd.is k e.2=true) (ks++[k]) (es.toList++[(knd.hash k,x)]):=Paired.snoc pr c6;obtain⟨ks1,pr1,pk1⟩:=Ga perm0 pr0
  have nd1:ks1.Nodup:=pk1.nodup_iff.mpr (List.nodup_append.mpr ⟨S.nd,List.nodup_cons.mpr ⟨by simp,List.nodup_nil⟩,fun u hu v hv=>by
   rw[B8.mp hv];exact fun z=>hk (z ▸ hu)⟩)
  have sz1:Wu.size=es.size+1:=by
   have:=perm0.length_eq;rw[Gg,W8,W8]at this;simpa using this
  have hb1:Wu.size<scanBound:=by omega
  refine Zx (gw _ ?_)
  have tailOk:∀t2:SetTable,D0 t2 Wu.size->t2.led=t.led->wpAny (model prog w) A (do
    storeSet a Wu t2
    if (!wasDummy && t2.tooFull)=true then do
      (match (relayAll t2 Wu (SetTable.grown Wu.size)).2.2 with | true=>rule "set.scan.the-table-gave-way" | false=>pure ())
      storeSet a (relayAll t2 Wu (SetTable.grown Wu.size)).1 (relayAll t2 Wu (SetTable.grown Wu.size)).2.1
      pure (some true)
     else pure (some true)) (fun b s'=>b=some true/\∃h' Tc,s'={ s with heap:=h' }/\Heap.SameBut a s.heap h'/\Jf knd h' a Tc/\Tc.Perm (ks++[k])) E s:=by
   intro t2 ti2 pe;refine Zx (wpAny_storeSet_of ho hd ?_ (fits_of_scanBound hb1));obtain⟨g1,S1⟩:=Ce (knd:=knd) ho S.ex hd el1 pr1 hb1 ti2 (pe.trans Hv) nd1;have sb1:=Heap.SameBut.update s.heap a (Obj.putSet Wu t2)
   split
   .have hp:=relayAll_perm t2 Wu (SetTable.grown Wu.size);have ti3:=Fp (t:=t2) (es:=Wu) (SetTable.grown Wu.size);have led3:=Qv (t:=t2) (es:=Wu) (SetTable.grown Wu.size);generalize relayAll t2 Wu (SetTable.grown Wu.size)=Rl at hp ti3 led3 ⊢;obtain⟨es2,t3,gave2⟩:=Rl;dsimp only at hp ti3 led3 ⊢;obtain⟨ks2,pr2,pk2⟩:=Ga hp pr1
    have sz2:es2.size=Wu.size:=by
     have:=hp.length_eq
     rwa [W8,W8]at this
    have hb2:es2.size<scanBound:=by omega
    refine Zx (gw _ ?_);refine Zx (wpAny_storeSet_of g1 rfl ?_ (fits_of_scanBound hb2));obtain⟨g2,S2⟩:=Ce (knd:=knd) g1 S1.ex rfl (el1.perm hp) pr2 hb2 ti3 (led3.trans (pe.trans Hv)) (pk2.nodup_iff.mpr nd1);exact Zf ⟨rfl,_,ks2,rfl,sb1.trans (Heap.SameBut.update _ a _),⟨_,g2,S2⟩,pk2.trans pk1⟩
   .exact Zf ⟨rfl,_,ks1,rfl,sb1,⟨_,g1,S1⟩,pk1⟩
  have fin:∀b s',(b=some true/\∃h' Tc,s'={ s with heap:=h' }/\Heap.SameBut a s.heap h'/\Jf knd h' a Tc/\Tc.Perm (ks++[k])) ->
    wpAny (model prog w) A (match b with | some added=>pure added | none=>setAddHashedIn a x (knd.hash k) 99999) Q E s':=by
   rintro b s' ⟨rfl,h',Tc,rfl,sb,g,pk⟩;have q:=h h' Tc sb g (by rw[if_neg hk];exact pk);rw[Mp hk]at q;exact Zf q
  split
  .refine Zx ?_;rw[hashByValue_scannable 8 hsc];refine Zf ?_;refine wpAny_mono (tailOk _ ?_ ?_) fin fun _ _ z=>z
   .split
    .exact P6
    .exact⟨P6.size,P6.dum,P6.ris,P6.room⟩
   .split
    .exact t4
    .exact t4
  .refine Zx (Zf ?_);simp only[↓reduceIte];exact wpAny_mono (tailOk _ P6 t4) fin fun _ _ z=>z
end
end SetM
namespace SetM
open PySem PyProof.Rows
section
variable{prog:Program}{w:World}{K:Type}[DecidableEq K]{knd:KeyKind prog w K}
theorem Jf.at'{h h':Heap}{a:Addr}{ks:List K}(x:Jf knd h a ks)(e:∀o,h.get? a=some o->h'.get? a=some o):Jf knd h' a ks:=let ⟨o,ho,S⟩:=x;⟨o,e o ho,S⟩
structure Wz(val:Nat->K)(i:Nat)(ks:List K):Prop where
 mem:∀x,x∈ks↔∃j,j<i/\val j=x
 len:ks.length<=i
theorem Wz.zero(val:Nat->K):Wz val 0 []:=⟨fun x=>⟨fun z=>absurd z V4,fun⟨j,z,_⟩=>absurd z (Nat.not_lt_zero _)⟩,Z5 _⟩
theorem Wz.next{val:Nat->K}{i:Nat}{ks Tc:List K}(u:Wz val i ks)(pk:Tc.Perm (if val i∈ks then ks else ks++[val i])):Wz val (i+1) Tc:=by
 refine⟨fun x=>?_, ?_⟩
 .rw[pk.mem_iff];constructor
  .intro hx
   have hx':x∈ks\/x=val i:=by
    split at hx
    .exact .inl hx
    .rcases Cb.mp hx with hx | hx
     .exact .inl hx
     .exact .inr (B8.mp hx)
   rcases hx' with hx' | hx'
   .obtain⟨j,h1,h2⟩:=(u.mem x).mp hx';exact⟨j,by omega,h2⟩
   .exact⟨i,by omega,hx'.symm⟩
  .rintro⟨j,h1,h2⟩;by_cases hx:x∈ks
   .split
    .exact hx
    .exact List.mem_append_left _ hx
   .have e:j=i:=by
     rcases Nat.lt_or_ge j i with z | z
     .exact absurd ((u.mem x).mpr ⟨j,z,h2⟩) hx
     .omega
    subst e;rw[h2,if_neg hx];exact zc _ (List.mem_singleton_self _)
 .rw[pk.length_eq];have:=u.len
  split
  .omega
  .simp only[Gg,ZI];omega
variable{A:Around}{R:Result->Shared->Prop}{I:Addr}{fp wr:ZU}{G:Array GenState->Array GenState->Prop}{n:Nat}{P:Nat->Value->Prop}{St:Nat->Shared->Prop}
theorem B1(W:WalksS prog w A.in1 I fp wr G n P St){a:Addr}(na:a ∉ fp){val:Nat->K}(hval:∀i v,P i v->knd.is (val i) v=true/\v.scannable=true)(hb:n+1<scanBound)(i:Nat)(s:Shared)(ks:List K)
  (hi:i<=n) (st:St i s) (hS:Jf knd s.heap a ks) (u:Wz val i ks) (fin:∀s' Tc,Moved (a::wr) G s s'->Jf knd s'.heap a Tc->Wz val n Tc->R (.ok (.ret .none)) s') :
  codeAny (model prog w) A (.builtin "set.update.loop" ⟨[.ref a,.ref I],[]⟩) R s:=by
 have naw:a ∉ wr:=fun z=>na (W.sub _ z);have more:∀b∈wr,b∈a::wr:=fun b z=>Vf _ z;refine codeAny_builtin PyProof.Rows.F.entry_set_update_loop ?_;rw[Around.under_plainId PyProof.Rows.F.plain_set_update_loop];refine Zx (m:=pyNext (.ref I)) ?_;by_cases Rt:i<n
 .refine W.item i s _ _ Rt st fun v s1 hP st1 mv=>?_;obtain⟨hv,hsc⟩:=hval i v hP;have hS1:Jf knd s1.heap a ks:=hS.at' fun o e=>mv.heap a o naw e;refine Zx (m:=holding [v] (setAdd a v)) (wpAny_holding ?_);unfold setAdd;refine wpAny_holding (Zx (knd.pyHash (k:=val i) hv ?_));have:=u.len;refine ik (knd:=knd) (s:={ s1 with toks:=s1.toks+1 }) hv hsc hS1 (by omega) fun h2 ks2 sb hS2 pk=>Zf ⟨plainId_quiet PyProof.Rows.F.plain_set_update_loop _, ?_⟩;refine B1 W na hval hb (i+1) { s1 with heap:=h2,toks:=s1.toks+1 } ks2 Rt (W.frame _ s1 _ _ st1 (Nat.le_succ _) fun b hb' o e=>?_) hS2 (u.next pk) fun s3 ks3 mv3 hS3 u3=>?_
  .rw[sb.2 b fun z=>na (z ▸ hb')];exact e
  .refine fin s3 ks3 (Moved.trans W.gtrans ((mv.mono more).then_heap (Nat.le_succ _) fun b o hb' e=>?_) mv3) hS3 u3;rw[sb.2 b fun z=>hb' (z ▸ Vt)];exact e
 .have e:i=n:=by omega
  subst e;exact W.done s _ _ st fun s1 mv=>Zf (fin s1 ks (mv.mono more) (hS.at' fun o e=>mv.heap a o naw e) u)
termination_by n - i
end
section
variable{prog:Program}{w:World}{A:Around}{E:ZW}{s:Shared}
theorem R0{T newId initId:String}{args:ZM}{Q:ZW}(ft:TypeCalled T newId initId)(hct:checkTypeCall T ⟨args,[]⟩=pure ())
  (h:codeAny (model prog w) A.in1 (.call (.builtin newId) ⟨.type T::args,[]⟩) (wants (fun obj s1=>s1.TypeIs obj T/\codeAny (model prog w) A.in1 (.call (.builtin initId) ⟨obj::args,[]⟩) (wants (fun r s2=>r=.none/\Q obj s2) E) s1) E) s) :
  wpAny (model prog w) A (call (.type T) args) Q E s:=by
 have q1:=ft.notType;have q2:=ft.canCreate;have q3:=ft.made;have q4:=ft.sub;obtain⟨c,tl,q5⟩:=ft.mro
 apply wpAny_call
 apply codeAny_of_tree
 change wpAny (model prog w) _ (callAny (Value.type T) ⟨args,[]⟩) _ _ s
 refine Zf (And.intro (Code.quiet_builtin _ (by decide +kernel)) (codeAny_builtin PySem.F.entry_type_call ?_));rw[Around.under_plain (weight_type_call_type T args []) (units_type_call_type T args [])]
 repeat (any_goals (first | assumption | wp_step))
 refine codeAny_mono h fun r s1 hr=>?_;rcases r with e | fl
 .exact hr
 .cases fl with
  | ret obj =>
   obtain⟨hT,hI⟩:=hr;have q6:=ft.init.lookup;have q7:=ft.init.bind obj
   repeat (any_goals (first | assumption | wp_step))
   refine codeAny_mono hI fun r2 s2 hr2=>?_;rcases r2 with e2 | fl2
   .exact hr2
   .cases fl2 with
    | ret r3 =>
     obtain⟨rfl,q⟩:=hr2
     repeat (any_goals (first | assumption | wp_step))
    | _=>exact hr2.elim
  | _=>exact hr.elim
noncomputable abbrev Vk(b:Bool):Obj:={ cls:=.type "set",dict:=none,data:=.set #[] 0 (.fresh 0 0 b) }
theorem Xb(x:Value){Q1:ZW}(h:Q1 (.ref s.heap.objs.size) { s with heap:=s.heap.push (Vk (!(w.params.followText "set-order"))) }) :
  codeAny (model prog w) A (.call (.builtin "set.__new__") ⟨[.type "set",x],[]⟩) (wants Q1 E) s:=by
 have q:=sub_set_self;refine codeAny_call_builtin PySem.F.plain_set_new PySem.F.entry_set_new (wpAny_of_eq (PySem.F.newCall_set_1 x) ?_);unfold Builtin.«set.__new__» Builtin.Frozenset.newClass;obtain⟨hp,gs,dr,tk,so⟩:=s;dsimp only
 wp_walk
 refine wpAny_askSetting (Zf ?_);dsimp only;simp only[newObj];exact Zx (wpAny_alloc (Zf (Zf h)))
variable{K:Type}[DecidableEq K]{knd:KeyKind prog w K}
set_option maxHeartbeats 4000000 in
theorem rl{l:Addr}{xs:ZN}{val:Nat->K}{Q:ZW}(hh:A.handled=none)(hl:s.heap.IsList l xs)(hx:∀i v,xs[i]?=some v->knd.is (val i) v=true/\v.scannable=true)(hb:xs.size+1<scanBound)
  (fin:∀(h1:Heap) (tk:Nat) (ks:List K),Jf knd h1 s.heap.objs.size ks->Wz val xs.size ks->(∀b o,s.heap.get? b=some o->h1.get? b=some o)->Q (.ref s.heap.objs.size) { s with heap:=h1,toks:=tk }) :
  wpAny (model prog w) A (call (.type "set") [.ref l]) Q E s:=by
 refine R0 PySem.F.called_set (PySem.F.typeCall_set_1 (.ref l)) (Xb (.ref l) ?_);generalize hb0:(!(w.params.followText "set-order"))=b0;have at0:(s.heap.push (Vk b0)).get? s.heap.objs.size=some (Vk b0):=U1 _ rfl;have ty0:Shared.TypeIs { s with heap:=s.heap.push (Vk b0) } (.ref s.heap.objs.size) "set" := ⟨_,at0,rfl⟩;refine⟨ty0,codeAny_call_builtin PySem.F.called_set.init.plain PySem.F.entry_set_init (check_set_init_1 ty0 ?_)⟩;obtain⟨⟨c0,d0,dt0,sl0⟩,e0,hc0,n0,hd0⟩:=hl;simp only at hc0 hd0;subst hc0 hd0;have e1:(s.heap.push (Vk b0)).get? l=some ⟨.type "list",d0,.seq xs n0,sl0⟩:=Yr _ e0;have li:(s.heap.push (Vk b0)).IsList l xs:=⟨_,e1,rfl,n0,rfl⟩;have u1:=PySem.F.sub_list_set;have u2:=PySem.F.sub_list_frozenset;have u3:(Value.type "list" == Value.type "dict")=false:=by decide
 unfold Builtin.«set.__init__» noKeywords Builtin.Frozenset.updateFrom;generalize hit:pyIter=it
 wp_walk
 subst hit;have lt0:l<s.heap.objs.size:=Y7 e0;have sz:(s.heap.push (Vk b0)).objs.size=s.heap.objs.size+1:=Heap.size_push _ _;refine wpAny_pyIter_list li (Zx (wpAny_runValue ?_))
 refine B1 (knd:=knd) (val:=val) ((Walks.list (by simp[hh]) _ l (by rw[sz];exact Gk (Nat.lt_succ_of_lt lt0)) xs).toS) (fun z=>(Y3.mp z).elim (fun z=>absurd z (Gk (by rw[sz];exact Nat.lt_succ_self _))) fun z=>absurd (B8.mp z) (Nat.ne_of_gt lt0)) hx hb 0 _ [] (Ma _) ⟨⟨_,U1 _ rfl,rfl,rfl⟩,li.push _⟩
  ⟨_,Yr _ at0,⟨⟨rfl,rfl,rfl⟩,⟨#[],0,_,rfl,fun e he=>by simp at he,.nil,by unfold scanBound;decide,Lj _ _ _,hb0.symm⟩,List.nodup_nil⟩⟩ (Wz.zero val) ?_
 rintro⟨h2,g2,d2,tk2,o2⟩ ks mv S2 u;have x1:g2=s.gens:=mv.gens;have x2:d2=s.drawn:=mv.drawn;have x3:o2=s.os:=mv.os;subst x1 x2 x3;refine Zf (Zf ⟨rfl,fin h2 tk2 ks S2 u fun b o e=>mv.heap b o ?_ (Yr _ (Yr _ e))⟩);have lb:=Y7 e;intro z;rcases Y3.mp z with z | z
 .exact absurd z (Gk lb)
 .have z:=B8.mp z;rw[sz]at z;exact absurd z (Gk (Nat.lt_succ_of_lt lb))
end
theorem Jn:Slot "set_iterator" "__next__" "set_iterator.__next__" :=
 Slot.of (owner:="set_iterator") (n:="__next__") (by rw[typeLookup_type,builtinLookup_eq_fast];kernel_rfl) (by decide +kernel) (by decide +kernel) (by decide +kernel) (.inl (by decide +kernel)) (by rw[isSubtype_type];kernel_rfl)
theorem Om:entryFor table "set_iterator.__next__" = some Builtin.«set_iterator.__next__»:=entryFor_of_tree (by kernel_rfl)
theorem Iv(a:Value):argsOk "set_iterator.__next__" ⟨[a],[]⟩:=by unfold argsOk;kernel_rfl
theorem C4:entryFor table "set.__iter__" = some Builtin.«frozenset.__iter__»:=entryFor_alias (id':="frozenset.__iter__") (by kernel_rfl) rfl (by decide +kernel) (by kernel_rfl)
theorem Mn{Z:Type}:∀(l:List Z) (i:Nat) (h:i<l.length),(l[i]::l.eraseIdx i).Perm l
 | x::l,0,h=>.refl _
 | x::l,i+1,h=>by
  have ih:=Mn l i (by simpa using h);simp only[List.getElem_cons_succ,List.eraseIdx_cons_succ];exact(List.Perm.swap _ _ _).trans (ih.cons x)
theorem Nu{prog:Program}{w:World}{A:Around}{E:ZW}{Z:Type}:∀(n:Nat) (xs:List Z) (s:Shared) (Q:List Z->Shared->Prop),xs.length=n->(∀ys d,ys.Perm xs->Q ys { s with drawn:=d })->wpAny (model prog w) A (drawOrder n xs) Q E s
 | 0,xs,s,Q,hn,h=>by
  have e:xs=[]:=List.length_eq_zero_iff.mp hn;subst e;have q:=h [] s.drawn .nil;exact Zf q
 | n+1,xs,s,Q,hn,h=>by
  cases xs with
  | nil=>simp at hn
  | cons x0 xr =>
   generalize hx:x0::xr=xs at hn h ⊢
   have e:drawOrder (n+1) xs=(choose .order xs.length >>= fun i=>match xs[i]? with | some x=>(drawOrder n (xs.eraseIdx i) >>= fun r=>pure (x::r)) | none=>unsupported "internal:drawOrder"):=by
    subst hx;rfl
   rw[e];refine Zx ?_;intro Γ p hΓ;show Sem.wp _ _ (.choose _ _ _) _ _ _ _;rw[Sem.wp_choose];refine⟨by omega, ?_⟩;have lt:=Nat.mod_lt ((model prog w).w.draws .order (s.drawn.get .order)) (show xs.length>0 by omega);generalize (model prog w).w.draws .order (s.drawn.get .order) % xs.length=i at lt ⊢;rw[Sem.wp_pure];have ex:xs[i]?=some xs[i]:=V0 lt;dsimp only;rw[ex];refine Zx (Nu n (xs.eraseIdx i) _ _ (by rw[List.length_eraseIdx_of_lt lt];omega) fun ys d hp=>Zf (h _ _ ((hp.cons _).trans (Mn xs i lt))))
inductive zr(w:World)(a:Addr)(es:Array (Int×Value))(ep:Nat)(t:SetTable)(h:Heap):Nat->Value->ZM->Prop where
 | byText{i:Nat}{k:Int}{tk:Tok}:w.params.followText "set-order" = true->zr w a es ep t h i (.int k tk) ((pickOrder (w.params.setOrder a ep) es).toList.map (·.2))
 | drawn {i:Nat} {T:Addr} {c:Nat} {ps:List Nat}:ps.Perm (List.range es.size)->h.get? T=some { cls:=.type "tuple",data:=.seq (ps.map fun(p:Nat)=>rawInt p).toArray c } ->
   zr w a es ep t h i (.ref T) (ps.map fun p=>(es.getD p (0,.none)).2)
 | plain {i:Nat} {tk:Tok}:w.params.followText "set-order" = false->(!t.plain && es.size>1)=false->t.led=true->zr w a es ep t h i (.int (if i=0 then 0 else ((t.place.getD (i - 1) 0+1:Nat):Int)) tk) (es.toList.map (·.2))
noncomputable abbrev Rb(first:Value)(i:Nat)(a:Addr)(n ep:Nat):Obj:={ cls:=.type "set_iterator",data:=.fields #[first,rawInt i,.ref a,rawInt n,rawInt ep] }
section
variable{prog:Program}{w:World}{A:Around}{E:ZW}{s:Shared}{a:Addr}{o:Obj}{es:Array (Int×Value)}{ep:Nat}{t:SetTable}
theorem cz{Q:ZW}(ho:s.heap.get? a=some o)(hex:o.ExactSet)(hd:o.data=.set es ep t)(ti:D0 t es.size)(hl:t.led=!(w.params.followText "set-order"))(hb:es.size<scanBound)
  (fin:∀I first h1 d vs,(∀b ob,s.heap.get? b=some ob->h1.get? b=some ob)->s.heap.objs.size<=I->h1.get? I=some (Rb first 0 a es.size ep)->(∀T,first=.ref T->T≠I/\s.heap.objs.size<=T)->zr w a es ep t h1 0 first vs->Q (.ref I) { s with heap:=h1,drawn:=d }) :
  wpAny (model prog w) A (pyIter (.ref a)) Q E s:=by
 have hT:s.TypeIs (.ref a) "set" := ⟨o,ho,hex.1⟩;refine wpAny_pyIter_slot hT PySem.F.slot_set_iter (wpAny_call_entry PySem.F.slot_set_iter hT C4 ?_ (PySem.F.args_set_iter_1 _));unfold Builtin.«frozenset.__iter__» Builtin.Frozenset.slot0 slotArgs;simp only[List.isEmpty_nil,Bool.not_true,we, ↓reduceIte,bind_assoc,List.length_nil,bne_self_eq_false];unfold Builtin.Frozenset.addrOf Builtin.Frozenset.sizeOf;refine Zx (Zf ?_);dsimp only;refine Zx (Zf ?_);refine Zx (Zx (wpAny_setEntries_of ho hd ti.fits (Zf ?_)));unfold setDrawn setsByText;refine Zx (Zx (wpAny_setState_of ho hd ti.fits ?_));dsimp only;refine Zx (Zx (wpAny_askSetting (Zf (Zf ?_))));dsimp only;have eEp:∀(s1:Shared) {Q1:Nat->Shared->Prop},s1.heap.get? a=some o->Q1 ep s1->wpAny (model prog w) A.in1 (setEpoch a) Q1 E s1:=fun s1 Q1 e q=>wpAny_setEpoch_of e hd ti.fits q
 split
 .rename_i hdr
  refine Zx (Nu _ _ _ _ (XJ) fun ps d hp=>?_);refine Zx (wpAny_newTuple ?_ (by rw[Z4,hp.length_eq,XJ];exact fits_of_scanBound hb));refine Zx (eEp _ (Yr _ ho) ?_);refine Zx (wpAny_newObj_type (Zf ⟨_,rfl,"set_iterator",_,⟨_,U1 _ rfl,rfl⟩,Jn.lookup, ?_⟩));refine fin _ (.ref s.heap.objs.size) _ d _ (fun b ob e=>Yr _ (Yr _ e)) ?_ (U1 _ rfl) ?_ (.drawn hp (Yr _ (U1 _ rfl)))
  .rw[Heap.size_push];exact Nat.le_succ _
  .rintro T e;cases e;exact⟨by rw[Heap.size_push];exact Gk (Nat.lt_succ_self _),Z5 _⟩
 .rename_i hdr
  refine Zx (Zf (Zx (eEp _ ho ?_)));refine Zx (wpAny_newObj_type (Zf ⟨_,rfl,"set_iterator",_,⟨_,U1 _ rfl,rfl⟩,Jn.lookup, ?_⟩));have old:∀b ob,s.heap.get? b=some ob->(s.heap.push (Rb (rawInt 0) 0 a es.size ep)).get? b=some ob:=fun b ob e=>Yr _ e;cases hbt:w.params.followText "set-order" with
  | true=>exact fin s.heap.objs.size (rawInt 0) _ s.drawn _ old (Z5 _) (U1 _ rfl) (fun T e=>by cases e) (.byText hbt)
  | false =>
   have h1:(!t.plain && decide (es.size>1))=false:=by
    have h2:¬ (!false && (!t.plain && decide (es.size>1)))=true:=by rw[<-hbt];exact hdr
    simpa using h2
   exact fin s.heap.objs.size (rawInt 0) _ s.drawn _ old (Z5 _) (U1 _ rfl) (fun T e=>by cases e) (.plain hbt h1 (by rw[hl,hbt];rfl))
end
theorem Xj{Z:Type}(nx:Nat->Nat):∀(fuel k:Nat) (left:List Z) (out:Array Z),left.length<=fuel->(pickOrder.go nx fuel k left out).toList.Perm (out.toList++left)
 | 0,k,left,out,h=>by
  have e:left=[]:=List.length_eq_zero_iff.mp (by omega);subst e;simp[pickOrder.go]
 | fuel+1,k,left,out,h=>by
  simp only[pickOrder.go];cases left with
  | nil=>simp
  | cons x0 xr =>
   generalize hx:x0::xr=l at h ⊢;have lt:nx k % l.length<l.length:=Nat.mod_lt _ (by rw[<-hx];simp);rw[V0 lt];dsimp only;refine(Xj nx fuel (k+1) _ _ (by rw[List.length_eraseIdx_of_lt lt];omega)).trans ?_;rw[Array.toList_push,XX];exact List.Perm.append_left _ (Mn l _ lt)
theorem qy{Z:Type}(nx:Nat->Nat)(xs:Array Z):(pickOrder nx xs).toList.Perm xs.toList:=by
 have q:=Xj nx xs.size 0 xs.toList #[] (by simp);exact q
theorem range_items(es:Array (Int×Value)):(List.range es.size).map (fun p=>(es.getD p (0,.none)).2)=es.toList.map (·.2):=by
 apply List.ext_getElem
 .simp
 .intro i h1 h2;have h3:i<es.size:=by simpa using h1
  simp[h3]
section
variable{w:World}{a:Addr}{es:Array (Int×Value)}{ep:Nat}{t:SetTable}{h:Heap}{i:Nat}{first:Value}{vs:ZM}
theorem zr.perm(F:zr w a es ep t h i first vs):vs.Perm (es.toList.map (·.2)):=by
 cases F with
 | byText _=>exact(qy _ _).map _
 | drawn hp _=>rw[<-range_items];exact hp.map _
 | plain _ _ _=>exact .refl _
end
section
variable{prog:Program}{w:World}{A:Around}{E:ZW}{s:Shared}{a I:Addr}{o:Obj}{es:Array (Int×Value)}{ep:Nat}{t:SetTable}{i:Nat}{first:Value}{vs:ZM}
theorem below_at{xs:ZS}(hr:uq xs){i:Nat}(hi:i<=xs.size):SetTable.below xs (if i=0 then (0:Int) else ((xs.getD (i - 1) 0+1:Nat):Int)).toNat=i:=by
 by_cases h:i=0
 .subst h;rw[if_pos rfl];exact He hr
 .rw[if_neg h,XG,getD_in (by omega),H0 hr (by omega)];omega
theorem Qs{h:Heap}{n:Nat}{x0 x1 x2 x3 x4:Value}(k:Nat)(v:Value)(hI:h.get? I=some { cls:=.type "set_iterator",data:=.fields #[x0,x1,x2,x3,x4] }) :
  (h.update I (Obj.mapFields (·.setIfInBounds k v))).get? I=some { cls:=.type "set_iterator",data:=.fields (#[x0,x1,x2,x3,x4].setIfInBounds k v) }:=by
 rw[Heap.get?_update_self _ hI rfl]
 rfl
theorem Ju{h:Heap}{f:Obj->Obj}{b:Addr}{ob:Obj}(hb:b≠I)(e:h.get? b=some ob):(h.update I f).get? b=some ob:=(Heap.get?_update_other _ _ (Ne.symm hb)).trans e
theorem zr.heap{h h1:Heap}(F:zr w a es ep t h i first vs)(k:∀T,first=.ref T->∀ob,h.get? T=some ob->h1.get? T=some ob):zr w a es ep t h1 i first vs:=by
 cases F with
 | byText hb=>exact .byText hb
 | drawn hp e=>exact .drawn hp (k _ rfl _ e)
 | plain hb hp hl=>exact .plain hb hp hl
theorem next_item{v:Value}{Q:ZT->Shared->Prop}(ho:s.heap.get? a=some o)(hex:o.ExactSet)(hd:o.data=.set es ep t)(ti:D0 t es.size)(hI:s.heap.get? I=some (Rb first i a es.size ep))(ph:a≠I)(hT:∀T,first=.ref T->T≠I)
  (F:zr w a es ep t s.heap i first vs) (hv:vs[i]?=some v)
  (fin:∀h1 first',(∀b ob,b≠I->s.heap.get? b=some ob->h1.get? b=some ob)->h1.get? I=some (Rb first' (i+1) a es.size ep)->(∀T,first'=.ref T->first=.ref T)->zr w a es ep t h1 (i+1) first' vs->Q (some v) { s with heap:=h1 }) :
  wpAny (model prog w) A (pyNext (.ref I)) Q E s:=by
 have hTy:s.TypeIs (.ref I) "set_iterator" := ⟨_,hI,rfl⟩;unfold pyNext;refine Zx (wpAny_attempt (wpAny_callSpecial?_slot (name:=Str.ofString "__next__") hTy Jn (wpAny_call_entry Jn hTy Om ?_ (Iv _))));unfold Builtin.«set_iterator.__next__» slotArgs;simp only[List.isEmpty_nil,Bool.not_true,we, ↓reduceIte,bind_assoc,List.length_nil,bne_self_eq_false];refine Zx (Zf ?_);dsimp only;refine Zx (wpAny_fieldsOf hI rfl ?_);dsimp only[rawInt];refine Zx (wpAny_setEntries_of ho hd ti.fits ?_);rw[if_neg (by simp)]
 have two:∀(nx:Nat) {Q1:Fin->Shared->Prop},(∀h1,(∀b ob,b≠I->s.heap.get? b=some ob->h1.get? b=some ob)->h1.get? I=some (Rb (.int nx 0) (i+1) a es.size ep)->Q1 (.done (.ret v)) { s with heap:=h1 }) ->
   wpAny (model prog w) A.in1 (do setField (.ref I) 0 (.int nx 0);setField (.ref I) 1 (.int (i+1) 0);ret v) Q1 (fun e s'=>wpAny (model prog w) A (do let b <-isInstance e (.type "StopIteration");if b=true then pure none else throw e) Q E s') s:=by
  intro nx Q1 q;refine Zx (wpAny_setField hI rfl (by simp) ?_);have g1:=Qs (n:=es.size) 0 (.int nx 0) hI;refine Zx (wpAny_setField g1 rfl (by simp) ?_);refine Zf (q _ (fun b ob hb e=>Ju hb (Ju hb e)) ?_);have g2:=Qs (n:=es.size) 1 (.int ((i:Int)+1) 0) g1;exact g2
 cases F with
 | byText hb =>
  dsimp only;unfold setNext setsByText;refine Zx (Zx (wpAny_setState_of ho hd ti.fits ?_));dsimp only;refine Zx (Zx (wpAny_askSetting (Zf ?_)));dsimp only;rw[show (model prog w).w.params.followText "set-order" = true from hb];simp only[↓reduceIte,XG,bne_self_eq_false,we];unfold setWalk setsByText;refine Zx (Zx (wpAny_setState_of ho hd ti.fits ?_));dsimp only;refine Zx (Zx (wpAny_askSetting (Zf ?_)));dsimp only;rw[show (model prog w).w.params.followText "set-order" = true from hb];simp only[↓reduceIte];refine Zx (wpAny_askSetting (Zf ?_));dsimp only;rw[Cz,Array.getElem?_toList]at hv;have wy:(pickOrder ((model prog w).w.params.setOrder a ep) es)[i]?.map (·.2)=some v:=hv;cases hq:(pickOrder ((model prog w).w.params.setOrder a ep) es)[i]? with
  | none=>rw[hq]at wy;cases wy
  | some e =>
   rw[hq]at wy;cases wy;refine Zf ?_;dsimp only[Option.map_some];exact two _ fun h1 k1 g1=>⟨_,rfl,Zf (fin h1 _ k1 g1 (fun T z=>by cases z) (.byText hb))⟩
 | @drawn T c ps hp hT2 =>
  dsimp only;refine Zx (wpAny_seqItems hT2 rfl ?_);dsimp only;rw[Cz]at hv;cases hq:ps[i]? with
  | none=>rw[hq]at hv;cases hv
  | some p =>
   rw[hq]at hv;cases hv;have Rt:p<es.size:=List.mem_range.mp (hp.mem_iff.mp (M0g hq))
   have e1:(List.map (fun(p:Nat)=>rawInt p) ps).toArray[((i:Int)).toNat]?=some (.int (p:Int) 0):=by
    simp only[XG,List.getElem?_toArray,Cz,hq]
    rfl
   rw[e1];dsimp only;unfold setNextDrawn;refine Zx (Zx (wpAny_setState_of ho hd ti.fits ?_));dsimp only;simp only[XG,bne_self_eq_false,we, ↓reduceIte,Fb Rt];refine Zf ?_;refine Zx (wpAny_setField hI rfl (by simp) ?_);have g1:=Qs (n:=es.size) 1 (.int ((i:Int)+1) 0) hI;have e2:(es.getD p (0,Value.none)).2=es[p].2:=by simp[Rt]
   refine Zf ⟨_,rfl,Zf ?_⟩;have q:=fin _ _ (fun b ob hb e=>Ju hb e) g1 (fun T z=>z) (.drawn hp (Ju (hT T rfl) hT2));dsimp only at q;rw[e2]at q;exact q
 | plain hb Qp Hv =>
  dsimp only;unfold setNext setsByText;refine Zx (Zx (wpAny_setState_of ho hd ti.fits ?_));dsimp only;refine Zx (Zx (wpAny_askSetting (Zf ?_)));dsimp only;rw[show (model prog w).w.params.followText "set-order" = false from hb];simp only[↓reduceIte,XG,bne_self_eq_false,we];rw[if_neg (fun z=>by have z':(!t.plain && decide (es.size>1))=true:=z;rw[Qp]at z';cases z')]
  have led0:∀{Q1:ZA} {E1:ZW},Q1 () s->wpAny (model prog w) A.in1 (if (!t.led && !es.isEmpty)=true then unsupported "set:maker-not-led" else pure ()) Q1 E1 s:=fun q=>by
   rw[Hv,if_neg (by simp)];exact Zf q
  refine Zx (led0 ?_);rw[Cz,Array.getElem?_toList]at hv;cases hq:es[i]? with
  | none=>rw[hq]at hv;cases hv
  | some e =>
   rw[hq]at hv;cases hv;have Rt:i<es.size:=(Array.getElem?_eq_some_iff.mp hq).1;have hlp:i<t.place.size:=by rw[ti.size];exact Rt
   rw[below_at ti.ris (Nat.le_of_lt hlp),hq,Fb hlp];refine Zf ?_;dsimp only;refine two _ fun h1 k1 g1=>⟨_,rfl,Zf (fin h1 _ k1 g1 (fun T z=>by cases z) ?_)⟩;have q:=zr.plain (w:=w) (a:=a) (es:=es) (ep:=ep) (t:=t) (h:=h1) (i:=i+1) (tk:=0) hb Qp Hv;rw[if_neg (Nat.succ_ne_zero i),Nat.add_sub_cancel,getD_in hlp]at q;exact q
theorem next_end{Q:ZT->Shared->Prop}(hh:A.handled=none)(ho:s.heap.get? a=some o)(hex:o.ExactSet)(hd:o.data=.set es ep t)(ti:D0 t es.size)(hI:s.heap.get? I=some (Rb first i a es.size ep))(ph:a≠I)
  (F:zr w a es ep t s.heap i first vs) (hi:i=vs.length)
  (fin:∀h1,(∀b ob,b≠I->s.heap.get? b=some ob->h1.get? b=some ob)->Q none { s with heap:=h1 }) :
  wpAny (model prog w) A (pyNext (.ref I)) Q E s:=by
 have hTy:s.TypeIs (.ref I) "set_iterator" := ⟨_,hI,rfl⟩;have hlen:i=es.size:=by rw[hi,F.perm.length_eq,Z4,W8]
 unfold pyNext;refine Zx (wpAny_attempt (wpAny_callSpecial?_slot (name:=Str.ofString "__next__") hTy Jn (wpAny_call_entry Jn hTy Om ?_ (Iv _))));unfold Builtin.«set_iterator.__next__» slotArgs;simp only[List.isEmpty_nil,Bool.not_true,we, ↓reduceIte,bind_assoc,List.length_nil,bne_self_eq_false];refine Zx (Zf ?_);dsimp only;refine Zx (wpAny_fieldsOf hI rfl ?_);dsimp only[rawInt];refine Zx (wpAny_setEntries_of ho hd ti.fits ?_);rw[if_neg (by simp)]
 have stop:∀(h0:Heap) {Q1:Fin->Shared->Prop},(∀b ob,b≠I->s.heap.get? b=some ob->h0.get? b=some ob)->wpAny (model prog w) A.in1 (do let e <-newExc (.type "StopIteration") [];raiseNew e) Q1
   (fun e s'=>wpAny (model prog w) A (do let b <-isInstance e (.type "StopIteration");if b=true then pure none else throw e) Q E s') { s with heap:=h0 }:=by
  intro h0 Q1 k0;refine Zx ?_;simp only[newExc,newTuple];refine Zx (wpAny_newObj_type ?_ (by size_fits));refine Zx (m:=firstArgMember _ _) (wpAny_of_eq (a:=Value.none) (by first | rfl | (simp only[firstArgMember];rfl)) ?_);refine wpAny_newObj_type ?_ (by size_fits);simp only[raiseNew];refine Zx (wpAny_handled ?_);rw[show A.in1.handled=none from hh];refine Zx (Zf (wpAny_throw ?_));refine Zx (wpAny_isInstance (T:="StopIteration") (b:=true) ⟨_,U1 _ rfl,rfl⟩ isSubtype_stop ?_);exact Zf (fin _ fun b ob hb e=>Yr _ (Yr _ (k0 b ob hb e)))
 have one:∀{Q1:Fin->Shared->Prop},wpAny (model prog w) A.in1 (do setField (.ref I) 2 .none;let e <-newExc (.type "StopIteration") [];raiseNew e) Q1
   (fun e s'=>wpAny (model prog w) A (do let b <-isInstance e (.type "StopIteration");if b=true then pure none else throw e) Q E s') s:=by
  intro Q1;exact Zx (wpAny_setField hI rfl (by simp) (stop _ fun b ob hb e=>Ju hb e))
 cases F with
 | byText hb =>
  dsimp only;unfold setNext setsByText;refine Zx (Zx (wpAny_setState_of ho hd ti.fits ?_));dsimp only;refine Zx (Zx (wpAny_askSetting (Zf ?_)));dsimp only;rw[show (model prog w).w.params.followText "set-order" = true from hb];simp only[↓reduceIte,XG,bne_self_eq_false,we];unfold setWalk setsByText;refine Zx (Zx (wpAny_setState_of ho hd ti.fits ?_));dsimp only;refine Zx (Zx (wpAny_askSetting (Zf ?_)));dsimp only;rw[show (model prog w).w.params.followText "set-order" = true from hb];simp only[↓reduceIte];refine Zx (wpAny_askSetting (Zf ?_));dsimp only
  have no:(pickOrder ((model prog w).w.params.setOrder a ep) es)[i]?=none:=by
   rw[Array.getElem?_eq_none_iff];rw[hi,Z4,W8];exact Z5 _
  rw[no];refine Zf ?_;exact one
 | @drawn T c ps hp hT2 =>
  dsimp only;refine Zx (wpAny_seqItems hT2 rfl ?_);dsimp only
  have e1:(List.map (fun(p:Nat)=>rawInt p) ps).toArray[((i:Int)).toNat]?=none:=by
   rw[hi];simp
  rw[e1];dsimp only;refine Zx (wpAny_setField hI rfl (by simp) ?_);have g1:=Qs (n:=es.size) 0 (.int 0 0) hI;refine Zx (wpAny_setField g1 rfl (by simp) ?_);exact stop _ fun b ob hb e=>Ju hb (Ju hb e)
 | plain hb Qp Hv =>
  dsimp only;unfold setNext setsByText;refine Zx (Zx (wpAny_setState_of ho hd ti.fits ?_));dsimp only;refine Zx (Zx (wpAny_askSetting (Zf ?_)));dsimp only;rw[show (model prog w).w.params.followText "set-order" = false from hb];simp only[↓reduceIte,XG,bne_self_eq_false,we];rw[if_neg (fun z=>by have z':(!t.plain && decide (es.size>1))=true:=z;rw[Qp]at z';cases z')]
  have led0:∀{Q1:ZA} {E1:ZW},Q1 () s->wpAny (model prog w) A.in1 (if (!t.led && !es.isEmpty)=true then unsupported "set:maker-not-led" else pure ()) Q1 E1 s:=fun q=>by
   rw[Hv,if_neg (by simp)];exact Zf q
  refine Zx (led0 ?_);rw[below_at ti.ris (by rw[ti.size,hlen];exact Z5 _),Array.getElem?_eq_none (by rw[hlen];exact Z5 _)];refine Zf ?_;exact one
end
theorem Iw:Slot "set_iterator" "__iter__" "set_iterator.__iter__" :=
 Slot.of (owner:="set_iterator") (n:="__iter__") (by rw[typeLookup_type,builtinLookup_eq_fast];kernel_rfl) (by decide +kernel) (by decide +kernel) (by decide +kernel) (.inl (by decide +kernel)) (by rw[isSubtype_type];kernel_rfl)
theorem Wb:entryFor table "set_iterator.__iter__" = some Builtin.«dict_keyiterator.__iter__»:=entryFor_alias (id':="dict_keyiterator.__iter__") (by kernel_rfl) rfl (by decide +kernel) (by kernel_rfl)
theorem Qx(a:Value):argsOk "set_iterator.__iter__" ⟨[a],[]⟩:=by unfold argsOk;kernel_rfl
section
variable{prog:Program}{w:World}{A:Around}{E:ZW}{s:Shared}{a I:Addr}{o:Obj}{es:Array (Int×Value)}{ep:Nat}{t:SetTable}{vs:ZM}
def StI(w:World)(a I:Addr)(o:Obj)(es:Array (Int×Value))(ep:Nat)(t:SetTable)(Ts:ZU)(vs:ZM)(i:Nat)(h:Heap):Prop :=
 ∃first,h.get? I=some (Rb first i a es.size ep)/\h.get? a=some o/\(∀T,first=.ref T->T∈Ts)/\zr w a es ep t h i first vs
theorem zo(hh:A.handled=none)(hex:o.ExactSet)(hd:o.data=.set es ep t)(ti:D0 t es.size)(ph:a≠I)(Ts:ZU)(hTs:I ∉ Ts) :
  Walks prog w A I (I::a::Ts) [I] vs.length (fun i v=>vs[i]?=some v) (StI w a I o es ep t Ts vs) where
 sub:=fun b hb=>by rw[B8.mp hb];exact Vt
 frame:=fun i h h1 st k=>by
  obtain⟨first,g1,g2,g3,F⟩:=st;exact⟨first,k I Vt _ g1,k a (Vf _ Vt) _ g2,g3,F.heap fun T e ob q=>k T (Vf _ (Vf _ (g3 T e))) ob q⟩
 item:=fun i s Q E hi st fin=>by
  obtain⟨first,g1,g2,g3,F⟩:=st;refine next_item g2 hex hd ti g1 ph (fun T e z=>hTs (z ▸ g3 T e)) F (V0 hi) fun h1 first' k1 q1 q2 F1=>?_
  exact fin _ h1 s.toks (V0 hi) ⟨first',q1,k1 a o ph g2,fun T e=>g3 T (q2 T e),F1⟩ fun b ob hb e=>k1 b ob (fun z=>hb (by rw[z];exact List.mem_singleton_self _)) e
 done:=fun s Q E st fin=>by
  obtain⟨first,g1,g2,g3,F⟩:=st;exact next_end hh g2 hex hd ti g1 ph F rfl fun h1 k1=>fin h1 s.toks fun b ob hb e=>k1 b ob (fun z=>hb (by rw[z];exact List.mem_singleton_self _)) e
 self:=fun i s Q E st q=>by
  obtain⟨first,g1,g2,g3,F⟩:=st;have hTy:s.TypeIs (.ref I) "set_iterator" := ⟨_,g1,rfl⟩;refine wpAny_pyIter_slot hTy Iw (wpAny_call_entry Iw hTy Wb ?_ (Qx _));exact Zf ⟨_,rfl,"set_iterator",_,hTy,Jn.lookup,q⟩
theorem c7(hT:s.TypeIs (.ref a) "set"){Q:Bool->Shared->Prop}(h:Q false s):wpAny (model prog w) A (Builtin.List.listLengthHint (.ref a)) Q E s:=by
 unfold Builtin.List.listLengthHint;refine Zx (wpAny_specialOf hT PySem.F.slot_set_len.lookup ?_);generalize hid:("set.__len__" : String)=id0
 wp_delta
 rw[show splitId id0=some ("set","__len__") from by subst hid;decide +kernel];subst hid;refine Zx (wpAny_isInstance (b:=true) hT sub_set_self (wpAny_ite_split (fun z=>absurd z (by decide)) fun _=>wpAny_ite_split (fun _=>?_) fun z=>absurd (by decide +kernel) z));exact Zx (wpAny_typeOf hT (Zf h))
theorem Ej{Q:ZM->Shared->Prop}(hh:A.handled=none)(ho:s.heap.get? a=some o)(hex:o.ExactSet)(hd:o.data=.set es ep t)(ti:D0 t es.size)(hl:t.led=!(w.params.followText "set-order"))(hb:es.size<scanBound)
  (fin:∀(h1:Heap) (tk:Nat) (d:Drawn) (vs:ZM),(∀b ob,s.heap.get? b=some ob->h1.get? b=some ob)->s.heap.objs.size<h1.objs.size->vs.Perm (es.toList.map (·.2))->Q vs { s with heap:=h1,toks:=tk,drawn:=d }) :
  wpAny (model prog w) A (collect (.ref a)) Q E s:=by
 have alt:=Y7 ho;unfold collect;refine Zx (wpAny_runValue (codeAny_builtin entry_proto_collect' ?_));rw[Around.under_plainId PySem.F.plain_proto_collect];refine Zx (m:=newList []) (wpAny_newObj_type (Zf ⟨plainId_quiet PySem.F.plain_list_iadd _,codeAny_builtin entry_list_iadd' ?_⟩));rw[Around.under_plainId PySem.F.plain_list_iadd];generalize Xi:({ s with heap:=s.heap.push { cls:=.type "list",dict:=none,data:=.seq ([]:ZM).toArray } }:Shared)=s1
 change wpAny (model prog w) A.in1 (Builtin.List.listExtendWith (.ref s.heap.objs.size) (.ref a) (.ref s.heap.objs.size)) _ _ _
 have G9:s1.heap.get? s.heap.objs.size=some { cls:=.type "list",dict:=none,data:=.seq #[] 0,slots:=#[] }:=by rw[<-Xi];exact U1 _ rfl
 have k1:∀b ob,s.heap.get? b=some ob->s1.heap.get? b=some ob:=fun b ob e=>by rw[<-Xi];exact Yr _ e
 have ho1:=k1 a o ho;have hT1:s1.TypeIs (.ref a) "set" := ⟨o,ho1,hex.1⟩;unfold Builtin.List.listExtendWith;refine Zx (wpAny_typeOf hT1 ?_)
 have n1:Builtin.List.listSameRef (.ref s.heap.objs.size) (.ref a)=false:=by
  simp only[Builtin.List.listSameRef,B0n];exact Nat.ne_of_gt alt
 have n2:(Value.type "set" == Value.type "list")=false:=by decide
 have n3:(Value.type "set" == Value.type "tuple")=false:=by decide
 simp only[n1,n2,n3,Bool.or_false,we,if_false];refine Zx (cz ho1 hex hd ti hl hb fun I first h2 d vs k2 hI at2 hf F=>?_);generalize hS:s.heap.objs.size=S at *;have S1:S<s1.heap.objs.size:=Y7 G9
 obtain⟨Ts,tin,tout,tall⟩:∃Ts:ZU,(∀T,first=.ref T->T∈Ts)/\I ∉ Ts/\∀T∈Ts,s1.heap.objs.size<=T:=by
  cases first with
  | ref T=>exact⟨[T],(fun T' e=>by cases e;exact List.mem_singleton_self _),fun z=>(hf T rfl).1 (B8.mp z).symm,fun T' z=>by rw[B8.mp z];exact(hf T rfl).2⟩
  | _=>exact⟨[],(fun T e=>nomatch e),V4,fun T z=>absurd z V4⟩
 have aI:a≠I:=Gk (W6 (Nat.lt_trans alt S1) hI);have SI:S≠I:=Gk (W6 S1 hI)
 have Sfp:S ∉ I::a::Ts:=fun z=>by
  rcases Y3.mp z with z | z
  .exact SI z
  .rcases Y3.mp z with z | z
   .exact Nat.ne_of_gt alt z
   .exact absurd (W6 S1 (tall S z)) (Nat.lt_irrefl _)
 have hn:vs.length<=sizeLine:=by
  rw[F.perm.length_eq,Z4,W8];exact fits_of_scanBound hb
 have W:=zo (prog:=prog) (w:=w) (A:=A.in1) (vs:=vs) hh hex hd ti aI Ts tout;have yu:StI w a I o es ep t Ts vs 0 h2:=⟨first,at2,k2 a o ho1,tin,F⟩
 have key:∀(h3:Heap) (c:Nat),StI w a I o es ep t Ts vs 0 h3->h3.get? S=some { cls:=.type "list",dict:=none,data:=.seq #[] c,slots:=#[] }->(∀b ob,s.heap.get? b=some ob->h3.get? b=some ob) ->
   codeAny (model prog w) A (.builtin "list.extend.loop" ⟨[.ref S,.ref I,.ref S],[]⟩) (fun r s'=>match r with
    | .ok (.ret v)=>wpAny (model prog w) A (match v with
      | .ref a=>do
       let x <-load a
       match x.data with
        | .seq xs _=>pure xs.toList
        | _=>unsupported "internal:collect"
      | _=>unsupported "internal:collect") Q E s'
    | .ok _=>False
    | .error e=>E e s') { heap:=h3,gens:=s1.gens,drawn:=d,toks:=s1.toks,os:=s1.os }:=by
  intro h3 c st3 g3 k3;refine codeAny_extend_loopS W.toS hn S Sfp (.ref S) vs.length 0 _ #[] c rfl (Ma _) st3 g3 (ItemsOf.nil _) fun s4 acc c4 mv g4 items=>?_;dsimp only;refine Zx (wpAny_load g4 ?_);dsimp only;obtain⟨h4,gg,d4,tk4,o4⟩:=s4;have x1:gg=s1.gens:=mv.gens;have x2:d4=d:=mv.drawn;have x3:o4=s1.os:=mv.os;subst x1 x2 x3
  have ev:acc.toList=vs:=by
   apply List.ext_getElem?
   intro i;rw[Array.getElem?_toList];by_cases hi:i<vs.length
   .have p8:i<acc.size:=by rw[items.1];exact hi
    rw[Fb p8];exact(items.2 i _ (Fb p8)).symm
   .rw[Array.getElem?_eq_none (by rw[items.1];omega),List.getElem?_eq_none (by omega)]
  rw[ev];have q:=fin h4 tk4 d4 vs (fun b ob e=>mv.heap b ob (fun z=>?_) (k3 b ob e)) (Y7 g4) F.perm
  .rw[<-Xi];exact Zf q
  .have lb:=Y7 e;rcases Y3.mp z with z | z
   .rw[hS,z]at lb;exact Nat.lt_irrefl _ lb
   .rw[B8.mp z,hS]at lb;exact Nat.lt_irrefl _ (W6 (Nat.lt_trans lb S1) hI)
 have kall:∀b ob,s.heap.get? b=some ob->h2.get? b=some ob:=fun b ob e=>k2 b ob (k1 b ob e);have nbS:∀{b:Addr} {ob:Obj},s.heap.get? b=some ob->b≠S:=fun e=>Gk (hS ▸ Y7 e);refine Zx (wpAny_holding (c7 ⟨o,k2 a o ho1,hex.1⟩ ?_));refine wpAny_ite_split (fun _=>?_) (fun _=>Zf ⟨plainId_quiet PySem.F.plain_extend_loop _,key h2 0 yu (k2 S _ G9) kall⟩);refine Zx (wpAny_rule (Zx (m:=Builtin.List.listTouch (.ref S)) ?_))
 change wpAny (model prog w) _ (updateSeq S (·.push .none) >>= fun _=>updateSeq S (·.pop)) _ _ _
 refine Zx (wpAny_updateSeq (k2 S _ G9) rfl ?_);have u1:=Heap.get?_update_self (Obj.mapSeq (·.push Value.none)) (k2 S _ G9) rfl;refine wpAny_updateSeq (hz:=by seq_fits) u1 rfl ?_;have u2:=Heap.get?_update_self (Obj.mapSeq (·.pop)) u1 rfl;have other:∀b ob,b≠S->h2.get? b=some ob->((h2.update S (Obj.mapSeq (·.push Value.none))).update S (Obj.mapSeq (·.pop))).get? b=some ob:=fun b ob z e=>(Heap.get?_update_other _ _ (Ne.symm z)).trans ((Heap.get?_update_other _ _ (Ne.symm z)).trans e);refine Zf ⟨plainId_quiet PySem.F.plain_extend_loop _,key _ _ (W.frame 0 _ _ yu fun b z ob e=>other b ob (fun y=>Sfp (y ▸ z)) e) u2 fun b ob e=>other b ob (nbS e) (kall b ob e)⟩
end
section
variable{prog:Program}{w:World}{K:Type}[DecidableEq K]{knd:PySem.KeyKind prog w K}{A:Around}{E:ZW}{s:Shared}{a:Addr}
theorem Yk{h:Heap}{l b:Addr}{vs:ZM}{out:ZN}{ob:Obj}(hb:b≠l)(e:h.get? b=some ob):(sortedHeap h l vs out).get? b=some ob:=by
 rw[sortedHeap_old hb (Y7 e)];exact e
theorem Rz{Z U γ:Type}{G:Z->γ->Prop}{g:U->γ}:∀{l:List Z} {r:List U},Paired (fun x y=>G x (g y)) l r->Paired G l (r.map g)
 | _,_,.nil=>.nil
 | _,_,.cons q t=>.cons q (Rz t)
theorem D7{ks:List K}{Q:ZW}(hh:A.handled=none)(hS:Jf knd s.heap a ks)
  (fin:∀(h1:Heap) (tk:Nat) (d:Drawn) (vs:ZM) (ks1:List K),(∀b ob,s.heap.get? b=some ob->h1.get? b=some ob)->s.heap.objs.size<h1.objs.size->Paired (fun k v=>knd.is k v=true) ks1 vs->ks1.Perm ks ->
   wpAny (model prog w) A.in1.in1 (Builtin.«list.sort» ⟨[.ref h1.objs.size],[]⟩) (fun r s2=>r=.done (.ret .none)/\Q (.ref h1.objs.size) s2) E { s with heap:=h1.push (seqObj "list" vs.toArray 0),toks:=tk,drawn:=d }) :
  wpAny (model prog w) A (call (.builtin "sorted") [.ref a]) Q E s:=by
 obtain⟨o,ho,S⟩:=hS;obtain⟨es,ep,t,hd,wk,pr,hb,ti,hl⟩:=S.dat;refine Calls.call_function_entry kind_sorted plain_sorted entry_sorted (args_sorted1 _) ?_;unfold Builtin.«sorted»;refine Zx (m:=checkCount "sorted" 1 1 _) (Zf ?_);refine Zx (Ej hh ho S.ex hd ti hl hb fun h1 tk d vs k1 sz hp=>?_)
 have hn:vs.length<=sizeLine:=by
  rw[hp.length_eq,Z4,W8];exact fits_of_scanBound hb
 have pr2:Paired (fun k v=>knd.is k v=true) ks (es.toList.map (·.2)):=Rz pr;obtain⟨ks1,pr3,pk⟩:=Ga hp pr2;refine Zx (wpAny_newList ?_ hn);refine Zx (wpAny_holding ?_);have G9:(h1.push (seqObj "list" vs.toArray 0)).get? h1.objs.size=some (seqObj "list" vs.toArray 0):=U1 _ rfl;refine wpAny_call_entry slot_list_sort ⟨_,G9,rfl⟩ entry_list_sort ?_ (args_list_sort _);refine wpAny_mono (fin h1 tk d vs ks1 k1 sz pr3 pk) (fun r s2 q=>?_) fun _ _ z=>z;obtain⟨rfl,q⟩:=q;exact⟨_,rfl,Zf ⟨_,rfl,q⟩⟩
theorem Xh{f:K->Int}:∀{ks:List K} {vs:ZM},(∀k v,k∈ks->knd.is k v=true->∃t,v=.int (f k) t)->Paired (fun k v=>knd.is k v=true) ks vs->IntsAre vs (ks.map f)
 | _,_,_,.nil=>.nil
 | k::ks,v::vs,hf,.cons r t=>by
  obtain⟨tk,rfl⟩:=hf k v Vt r;exact .cons _ _ (Xh (fun k v hk=>hf k v (Vf _ hk)) t)
theorem A5{f:K->Str}:∀{ks:List K} {vs:ZM},(∀k v,k∈ks->knd.is k v=true->∃t,v=.str (f k) t)->Paired (fun k v=>knd.is k v=true) ks vs->StrsAre vs (ks.map f)
 | _,_,_,.nil=>.nil
 | k::ks,v::vs,hf,.cons r t=>by
  obtain⟨tk,rfl⟩:=hf k v Vt r;exact .cons _ _ (A5 (fun k v hk=>hf k v (Vf _ hk)) t)
theorem T2{ks:List K}{f:K->Int}{Q:ZW}(hh:A.handled=none)(hS:Jf knd s.heap a ks)(hf:∀k v,k∈ks->knd.is k v=true->∃t,v=.int (f k) t)(h64:ks.length<64)
  (fin:∀(h1:Heap) (tk:Nat) (d:Drawn) (l:Addr) (out:ZN) (n:Nat) (ns:ZL),(∀b ob,s.heap.get? b=some ob->h1.get? b=some ob)->s.heap.objs.size<=l->h1.get? l=some (seqObj "list" out n)->IntsAre out.toList ns->ns.Perm (ks.map f)->ns.Pairwise (·<=·)->Q (.ref l) { s with heap:=h1,toks:=tk,drawn:=d }) :
  wpAny (model prog w) A (call (.builtin "sorted") [.ref a]) Q E s:=by
 refine D7 hh hS fun h1 tk d vs ks1 k1 sz pr pk=>?_;have hI:=Xh (fun k v hk=>hf k v (pk.mem_iff.mp hk)) pr;have hlen:vs.length=ks.length:=by rw[<-pr.length,pk.length_eq]
 refine list_sort_tree (s:={ s with heap:=h1.push (seqObj "list" vs.toArray 0),toks:=tk,drawn:=d }) (U1 _ rfl) hI (by omega) fun out ns q1 q2 q3=>⟨rfl, ?_⟩;obtain⟨n,e⟩:=sortedHeap_at (h:=h1.push (seqObj "list" vs.toArray 0)) (a:=h1.objs.size) (vs:=vs) (n:=0) (out:=out) (U1 _ rfl);exact fin _ tk d h1.objs.size out n ns (fun b ob e0=>Yk (Gk (Y7 (k1 b ob e0))) (Yr _ (k1 b ob e0))) (Nat.le_of_lt sz) e q1 (q2.trans (pk.map f)) q3
theorem T1{ks:List K}{f:K->Str}{Q:ZW}(hh:A.handled=none)(hS:Jf knd s.heap a ks)(hf:∀k v,k∈ks->knd.is k v=true->∃t,v=.str (f k) t)(h64:ks.length<64)
  (fin:∀(h1:Heap) (tk:Nat) (d:Drawn) (l:Addr) (out:ZN) (n:Nat) (ns:ZD),(∀b ob,s.heap.get? b=some ob->h1.get? b=some ob)->s.heap.objs.size<=l->h1.get? l=some (seqObj "list" out n)->StrsAre out.toList ns->ns.Perm (ks.map f)->sortedS ns=true->Q (.ref l) { s with heap:=h1,toks:=tk,drawn:=d }) :
  wpAny (model prog w) A (call (.builtin "sorted") [.ref a]) Q E s:=by
 refine D7 hh hS fun h1 tk d vs ks1 k1 sz pr pk=>?_;have hI:=A5 (fun k v hk=>hf k v (pk.mem_iff.mp hk)) pr;have hlen:vs.length=ks.length:=by rw[<-pr.length,pk.length_eq]
 refine list_sort_treeK strKind_oneLt (s:={ s with heap:=h1.push (seqObj "list" vs.toArray 0),toks:=tk,drawn:=d }) (U1 _ rfl) hI.keysOf (fun v1 v2 rest e=>keyKind_strs (by rw[<-e];exact hI)) (by omega) fun st hp hs=>⟨rfl, ?_⟩;obtain⟨ns,q1,q2,q3⟩:=sorted_out_str hI hp hs;obtain⟨n,e⟩:=sortedHeap_at (h:=h1.push (seqObj "list" vs.toArray 0)) (a:=h1.objs.size) (vs:=vs) (n:=0) (out:=(arrOf st).map (·.2)) (U1 _ rfl);exact fin _ tk d h1.objs.size _ n ns (fun b ob e0=>Yk (Gk (Y7 (k1 b ob e0))) (Yr _ (k1 b ob e0))) (Nat.le_of_lt sz) e q1 (q2.trans (pk.map f)) q3
end
end SetM
namespace L2
open PySem PySem.Spec PyProof.Rows
noncomputable def Wq(P:Program)(w:World)(a:Addr)(us:List Key):HO:=.ext fun h=>SetM.Jf (Zg P w) h a us
theorem Im{P:Program}{w:World}(k:Key){v:Value}(r:RelV (kV k) v):(Zg P w).is k v=true/\v.scannable=true:=by
 cases k with
 | inl i=>obtain⟨t,rfl⟩:=(show ∃t,v=Value.int i t from r);exact⟨Li i t,rfl⟩
 | inr x=>obtain⟨t,rfl⟩:=(show ∃t,v=Value.str x t from r);exact⟨Lo x t,rfl⟩
theorem Inv.put{X:Cx}{XF:ZY}{Z:St}{H:Hp}{s:Shared}{h':Heap}{a:Addr}{o:HO}{t':Nat}{d':Drawn}(I:Inv X XF Z H s)(k:∀b u,s.heap.get? b=some u->h'.get? b=some u)(hp:s.heap.objs.size<=a)(new:Zp X.prog X.w (upd H a o) h' a o) :
  Inv X XF Z (upd H a o) { s with heap:=h',toks:=t',drawn:=d' } :=
 I.call (g':=s.gens) (t':=t') (d':=d') (ch:=[]) (Un.laid k hp (I.hok.fresh hp)) (I.hok.laid k hp new) I.bare fun b z=>absurd z V4
section
variable{X:Cx}
theorem Bw:∀{vs:ZM} {ss:ZD},StrsAre vs ss->Zv (ss.map V.str) vs
 | _,_,.nil=>.nil
 | _,_,.cons y t r=>.cons ⟨t,rfl⟩ (Bw r)
theorem Pz(hc:X.calm=true):Ye X (.builtin "sorted") (fun xs H Q=>∃(a:Addr) (zs:ZL),xs=[.ref a]/\H a=some (Wq X.prog X.w a (zs.map Sum.inl))/\zs.length<64 /\
  ∀(l:Addr) (ns:ZL),H l=none->ns.Perm zs->ns.Pairwise (·<=·)->Q (.ref l) (upd H l (.lst (ns.map V.int)))):=by
 intro XF s Z H xs us Q I r h;obtain⟨a,zs,rfl,hq,hz,q⟩:=h;obtain⟨u,rfl,rx⟩:=vals1 r;cases rx;obtain⟨S,_,_⟩:=(show SetM.Jf (Zg X.prog X.w) s.heap a (zs.map Sum.inl)/\_ from I.hok a _ hq);refine SetM.T2 (knd:=Zg X.prog X.w) (f:=fun k=>match k with | .inl i=>i | .inr _=>0) (I.ok.hd hc) S (fun k v hk hv=>?_) (by rw[Z4];exact hz) fun h1 tk d l out n ns k1 sz G9 hI pm pw=>?_
 .obtain⟨i,_,rfl⟩:=Gr.mp hk;rcases Zb (show G4 (Sum.inl i) v=true from hv) with ⟨j,t,e,rfl⟩ | ⟨x,t,e,rfl⟩
  .cases e;exact⟨t,rfl⟩
  .cases e
 .have pm':ns.Perm zs:=by
   have e:(zs.map (Sum.inl:Int->Key)).map (fun k=>match k with | .inl i=>i | .inr _=>0)=zs:=by rw[List.map_map];exact List.map_id' _
   rw[<-e];exact pm
  refine⟨.ref l,_,I.put (o:=.lst (ns.map V.int)) k1 sz ⟨?_,out.toList,n,Dv hI, ?_⟩,rfl,q l ns (I.hok.fresh sz) pm' pw⟩
  .rw[Z4,pm'.length_eq];exact Nat.le_of_lt (Ly (by omega))
  .simpa using G9
theorem Q8(hc:X.calm=true):Ye X (.builtin "sorted") (fun xs H Q=>∃(a:Addr) (zs:ZD),xs=[.ref a]/\H a=some (Wq X.prog X.w a (zs.map Sum.inr))/\zs.length<64 /\
  ∀(l:Addr) (ns:ZD),H l=none->ns.Perm zs->sortedS ns=true->Q (.ref l) (upd H l (.lst (ns.map V.str)))):=by
 intro XF s Z H xs us Q I r h;obtain⟨a,zs,rfl,hq,hz,q⟩:=h;obtain⟨u,rfl,rx⟩:=vals1 r;cases rx;obtain⟨S,_,_⟩:=(show SetM.Jf (Zg X.prog X.w) s.heap a (zs.map Sum.inr)/\_ from I.hok a _ hq);refine SetM.T1 (knd:=Zg X.prog X.w) (f:=fun k=>match k with | .inl _=>("" : Str) | .inr x=>x) (I.ok.hd hc) S (fun k v hk hv=>?_) (by rw[Z4];exact hz) fun h1 tk d l out n ns k1 sz G9 hI pm pw=>?_
 .obtain⟨x,_,rfl⟩:=Gr.mp hk;rcases Zb (show G4 (Sum.inr x) v=true from hv) with ⟨j,t,e,rfl⟩ | ⟨y,t,e,rfl⟩
  .cases e
  .cases e;exact⟨t,rfl⟩
 .have pm':ns.Perm zs:=by
   have e:(zs.map (Sum.inr:Str->Key)).map (fun k=>match k with | .inl _=>("" : Str) | .inr x=>x)=zs:=by rw[List.map_map];exact List.map_id' _
   rw[<-e];exact pm
  refine⟨.ref l,_,I.put (o:=.lst (ns.map V.str)) k1 sz ⟨?_,out.toList,n,Bw hI, ?_⟩,rfl,q l ns (I.hok.fresh sz) pm' pw⟩
  .rw[Z4,pm'.length_eq];exact Nat.le_of_lt (Ly (by omega))
  .simpa using G9
end
end L2
namespace ZipL
open PySem PySem.Calls PyProof.Rows PyProof.V PySem.Spec
section
variable{prog:Program}{w:World}{A:Around}{E:ZW}{s:Shared}{z TI TO T i1 i2 l1 l2:Addr}{f:Bool}{oT:Obj}{k1 k2:Nat}{xs ys:ZN}{x y:Value}
end
section
variable{prog:Program}{w:World}{A:Around}{R:Result->Shared->Prop}{E:ZW}{s:Shared}{z TI TO i1 i2 l1 l2 S:Addr}{xs ys:ZN}
end
end ZipL
namespace L2
open PySem PySem.Spec PyProof.Rows
section
variable{X:Cx}{XF:ZY}{Z:St}{H H':Hp}{s:Shared}{h':Heap}
end
section
variable{X:Cx}{x y:Str}{p p2 pos Jz:Pos}{a b:Expr}{t:TA}
end
def Fn(P:Program)(w:World)(K:W.Frag)(mg:ZV)(base:Heap)(k:Nat)(x:Str)(ps:ZD)(sp:Sp):Prop :=
 ∃f fd,Dj P w K mg base uy k f fd ps sp/\Binds K fd ps []/\W.keepIn K (.ref f)=true/\mg x=some (.ref f)
section
variable{X:Cx}{k:Nat}{x:Str}{ps:ZD}{sp:Sp}{p pos:Pos}{e:Expr}{es:ZC}{t:TA}
theorem mj(G:Fn X.prog X.w X.K X.mg X.base k x ps sp)(hr:U4 k X.A)(hg:Gl X x)(ha:PA X (e::es) t)(hdb:(x == ("__debug__" : Str))=false:=by decide)
  (he:starEach (e::es) X.env=(false,eval e X.env)::starEach es X.env:=by rfl) (Qp:(backTo pos (starEach es X.env)).any (·.1)=false:=by rfl) :
  PE X (.Call (.Name x p) (e::es) [] pos) (Zqe sp [] E0 t):=by
 obtain⟨f,fd,F,b,kp,m⟩:=G;exact Zzf F hr hg m kp b .nil Zjz ha hdb he Qp
theorem Dj.any{P:Program}{w:World}{K:W.Frag}{mg:ZV}{base:Heap}{CX:zh}{k:Nat}{f:Addr}{fd:FuncData}{ps:ZD}{ι:Type}{C:ι->Prop}{sp:ι->Sp}(h:∀i,C i->Dj P w K mg base CX k f fd ps (sp i)) :
  Dj P w K mg base CX k f fd ps (fun vs H Q E=>∃i,C i/\sp i vs H Q E) :=
 ⟨fun vs H Q E ⟨i,c,q⟩=>(h i c).len vs H Q E q,fun A outer s H args us vs Q E hr he hb hv ⟨i,c,q⟩=>(h i c).run A outer s H args us vs Q E hr he hb hv q⟩
end
def Up(K:W.Frag)(H H':Hp):Prop:=∀a xs,Yu K H a xs->Yu K H' a xs
theorem Up.refl{K:W.Frag}(H:Hp):Up K H H:=fun _ _ h=>h
theorem Up.trans{K:W.Frag}{H H1 H2:Hp}(a:Up K H H1)(b:Up K H1 H2):Up K H H2:=fun c xs h=>b c xs (a c xs h)
theorem Zd.up{K:W.Frag}{H H':Hp}(e:Zd H H'):Up K H H':=fun a xs h=>by
 rcases h with (h | ⟨o,h⟩) | h
 .exact .inl (.inl (e _ _ h))
 .exact .inl (.inr ⟨o,e _ _ h⟩)
 .exact .inr h
theorem Zd.put{H H1:Hp}{p:Addr}{o:HO}(e:Zd H H1)(h:H p=none):Zd H (upd H1 p o):=fun b u q=>by
 rw[Zz (Za q h)];exact e b u q
mutual
noncomputable def noL:D->Bool
 | .tup xs=>dn xs
 | .lst _=>false
 | _=>true
noncomputable def dn:List D->Bool
 | []=>true
 | d::ds=>noL d && dn ds
end
mutual
theorem Vc.up{K:W.Frag}{H H':Hp}(u:Up K H H'):∀(d:D) (v:V),noL d=true->Vc K H d v->Vc K H' d v
 | .non,v,_,h=>h
 | .bl b,v,_,h=>h
 | .int i,v,_,h=>h
 | .str x,v,_,h=>h
 | .tup ds,v,n,h=>by
  obtain⟨a,vs,e,q,r⟩:=h;exact⟨a,vs,e,u a vs q,Zo.up u ds vs (by simpa [noL] using n) r⟩
 | .lst ds,v,n,h=>by simp[noL]at n
theorem Zo.up{K:W.Frag}{H H':Hp}(u:Up K H H'):∀(ds:List D) (vs:ZQ),dn ds=true->Zo K H ds vs->Zo K H' ds vs
 | [],vs,_,h=>h
 | d::ds,vs,n,h=>by
  obtain⟨v,r,e,q,t⟩:=h;have n':noL d=true/\dn ds=true:=by simpa [dn] using n
  exact⟨v,r,e,Vc.up u d v n'.1 q,Zo.up u ds r n'.2 t⟩
end
theorem Zo.append{K:W.Frag}{H:Hp}:∀{ds es:List D} {vs ws:ZQ},Zo K H ds vs->Zo K H es ws->Zo K H (ds++es) (vs++ws)
 | [],es,vs,ws,h,h'=>by
  have e:vs=[]:=h;subst e;exact h'
 | d::ds,es,vs,ws,h,h'=>by
  obtain⟨v,r,e,q,t⟩:=h;subst e;exact⟨v,r++ws,rfl,q,Zo.append t h'⟩
theorem Zo.one{K:W.Frag}{H:Hp}{d:D}{v:V}(h:Vc K H d v):Zo K H [d] [v]:=⟨v,[],rfl,h,rfl⟩
theorem Zo.take{K:W.Frag}{H:Hp}:∀{ds:List D} {vs:ZQ} (n:Nat),Zo K H ds vs->Zo K H (ds.take n) (vs.take n)
 | ds,vs,0,_=>rfl
 | [],vs,n+1,h=>by
  have e:vs=[]:=h;subst e
  rfl
 | d::ds,vs,n+1,h=>by
  obtain⟨v,r,e,q,t⟩:=h;subst e;exact⟨v,r.take n,rfl,q,Zo.take n t⟩
theorem Kv{K:W.Frag}{H:Hp}{p:Addr}{o:HO}{ys:ZQ}(h:H p=some (.lst ys)):Up K H (upd H p o):=fun c xs q=>by
 have ne:∀u,H c=some u->(∀ys,u≠.lst ys)->c≠p:=fun u e n z=>by
  rw[z,h]at e;cases e;exact n _ rfl
 rcases q with (q | ⟨u,q⟩) | q
 .exact .inl (.inl (by rw[Zz (ne _ q fun _ z=>nomatch z)];exact q))
 .exact .inl (.inr ⟨u,by rw[Zz (ne _ q fun _ z=>nomatch z)];exact q⟩)
 .exact .inr q
section
variable{X:Cx}
theorem mw{T:String}{x:Str}{pos:Pos}(hg:Gl X x)(hm:X.mg x=none)(hv:bootBuiltins x=some (.type T))(hn:x ≠ "__name__" := by decide)(hd:(x == ("__debug__" : Str))=false:=by decide) :
  PE X (.Name x pos) (tC (.ty T)):=Zzb hg hm hv rfl hn hd
end
end L2
namespace DctE
open PySem PySem.SeqAt PySem.MeetsSeq
open PySem.AutoSeq1 (wpAny_loadPart')
end DctE
namespace L2
open PySem PySem.Spec PyProof.Rows
section
variable{X:Cx}{XF:ZY}{Z:St}{H H':Hp}{s:Shared}{h':Heap}
theorem Inv.turnLay{t':Nat}{fp:ZU}{a:Addr}{o:HO}(I:Inv X XF Z H s)(k:∀b u,b ∉ fp->s.heap.get? b=some u->h'.get? b=some u)(hf:∀b∈fp,Bx X XF H b)(hp:s.heap.objs.size<=a)(new:Zp X.prog X.w (upd H a o) h' a o) :
  Inv X XF Z (upd H a o) { s with heap:=h',toks:=t' }:=by
 have hn:=I.hok.fresh hp
 have nf:∀b u,H b=some u->b ∉ fp:=fun b u e m=>by
  have z:=(hf b m).1;rw[e]at z;cases z
 have na:∀b u,s.heap.get? b=some u->b≠a:=fun b u e=>Gk (W6 (Y7 e) hp)
 refine I.call (g':=s.gens) (d':=s.drawn) (ch:=fp) ⟨fun b u e _ _ hx=>k b u hx e,fun b u e _ _ hx=>⟨u.slots,k b u hx e⟩,fun b u e n _=>by rw[Zz (na b u e)];exact n,fun b u e hx=>⟨u,k b u hx e⟩,
  fun b xs e=>by rw[Zz (Za e hn)];exact e,fun b ob u e=>by rw[Zz (Za e hn)];exact e,fun b ps e=>⟨#[],by rw[Zz (Za e hn)];simp[e]⟩⟩ (fun b u e=>?_) I.bare
  fun b hb=>⟨(hf b hb).2.2.2.1,(hf b hb).2.1,(hf b hb).2.2.2.2.1,(hf b hb).2.2.2.2.2⟩
 by_cases hb:b=a
 .subst hb;rw[Zw]at e;cases e;exact new
 .rw[Zz hb]at e;refine(I.hok b u e).stay (fun c v hc q=>k c v ?_ q) (fun c q=>by rw[Zz (Za q hn)];exact q) fun c xs q=>by rw[Zz (Za q hn)];exact q
  rcases hc with z | z
  .rw[z];exact nf b u e
  .exact nf c _ z
theorem Inv.turnL{t':Nat}{fp:ZU}(I:Inv X XF Z H s)(k:∀b u,b ∉ fp->s.heap.get? b=some u->h'.get? b=some u)(hf:∀b∈fp,Bx X XF H b) :
  Inv X XF Z H { s with heap:=h',toks:=t' }:=by
 have nf:∀b u,H b=some u->b ∉ fp:=fun b u e m=>by
  have z:=(hf b m).1;rw[e]at z;cases z
 refine I.call (g':=s.gens) (d':=s.drawn) (ch:=fp) ⟨fun b u e _ _ hx=>k b u hx e,fun b u e _ _ hx=>⟨u.slots,k b u hx e⟩,fun b u e n _=>n,fun b u e hx=>⟨u,k b u hx e⟩,
  fun b xs e=>e,fun b ob u e=>e,fun b ps e=>⟨#[],by simp[e]⟩⟩ (fun b u e=>?_) I.bare
  fun b hb=>⟨(hf b hb).2.2.2.1,(hf b hb).2.1,(hf b hb).2.2.2.2.1,(hf b hb).2.2.2.2.2⟩
 refine(I.hok b u e).stay (fun c v hc q=>k c v ?_ q) (fun c q=>q) fun c xs q=>q;rcases hc with z | z
 .rw[z];exact nf b u e
 .exact nf c _ z
end
section
variable{X:Cx}{pos:Pos}
theorem all_range(bs:List Bool):((List.range bs.length).all fun i=>(bs[i]?).getD true)=bs.all id:=by
 rw[Bool.eq_iff_iff,Pt,Pt];constructor
 .intro h b hb;obtain⟨i,hi⟩:=List.mem_iff_getElem?.mp hb;have:=h i (List.mem_range.mpr (Bz.mp hi).1);rw[hi]at this;simpa using this
 .intro h i hi;have p8:=List.mem_range.mp hi;rw[V0 p8];simpa using h _ (wu p8)
inductive Tu(K:W.Frag)(xs:ZQ)(H:Hp)(Q:VK):Prop
 | mk(p:Addr)(bs:List Bool)(Y1:xs=[.ref p])(Y0:Vi K H p (bs.map V.bl))(V7:Q (.bl (bs.all id)) H):Tu K xs H Q
theorem ja(hc:X.calm=true):Ye X (.builtin "all") (fun xs H Q=>Tu X.K xs H Q):=by
 intro XF s Z H xs us Q I r h;obtain⟨p,bs,rfl,hq,q⟩:=h;obtain⟨u,rfl,rx⟩:=vals1 r;cases rx;obtain⟨XM,rv,pl,hz⟩:=I.list hq;have hl:=pl.isList;have Rt:p<s.heap.objs.size:=by obtain⟨_,e,_⟩:=hl;exact Y7 e
 have hlen:XM.toArray.size=bs.length:=by rw[Vy, <-rv.length,Z4]
 refine call_all_walk (wpAny_pyIter_list hl ?_)
 refine⟨s.heap.objs.size,[s.heap.objs.size,p],[s.heap.objs.size],XM.toArray.size,_,_,fun i=>(bs[i]?).getD true,rfl,Walks.list (A:=X.A.in1) (I.ok.hd hc) _ p (Gk Rt) XM.toArray,
  ⟨⟨_,U1 _ rfl,rfl,rfl⟩,hl.push _⟩,fun i v s' Q' E' hP hQ=>?_,fun h' tk hk=>?_⟩
 .have e0:XM[i]?=some v:=by simpa using hP
  have hi:i<bs.length:=by
   have:=(Bz.mp e0).1;rw[Vy]at hlen;omega
  obtain⟨v',e1,e2⟩:=rv.get (i:=i) (x:=V.bl bs[i]) (by rw[Cz,V0 hi];rfl);rw[e0]at e1;cases e1;cases e2;dsimp only at hQ;rw[V0 hi]at hQ;exact wpAny_truthy_bool hQ
 .rw[hlen,all_range];refine⟨.bl _,H,I.kept fun b x e=>hk b x (fun hm=>?_) (Yr _ e),rfl,q⟩;rw[B8.mp hm]at e;exact Nat.lt_irrefl _ (Y7 e)
inductive Oi(x:V)(y:V)(H:Hp)(Q:VK):Prop
 | mk(a b)(Y1:x=.bl a)(Y0:y=.bl b)(V7:Q (.bl (a == b)) H):Oi x y H Q
theorem op_isB:Jb X (compareOp .Is) (fun x y H Q=>Oi x y H Q):=by
 intro XF s Z H x y v u Q I rx ry h;obtain⟨a,b,rfl,rfl,q⟩:=h;cases rx;cases ry;exact is_bool (Je I q rfl)
inductive Tj(x:V)(y:V)(H:Hp)(Q:VK):Prop
 | mk(a b)(Y1:x=.bl a)(Y0:y=.bl b)(V7:Q (.bl (a != b)) H):Tj x y H Q
theorem qc:Jb X (compareOp .IsNot) (fun x y H Q=>Tj x y H Q):=by
 intro XF s Z H x y v u Q I rx ry h;obtain⟨a,b,rfl,rfl,q⟩:=h;cases rx;cases ry;exact isnot_bool (Je I q rfl)
inductive Tq(x:V)(y:V)(H:Hp)(Q:VK):Prop
 | mk(i j)(Y1:x=.str i)(Y0:y=.str j)(V7:Q (.bl (!decide (j.cps.toList<i.cps.toList))) H):Tq x y H Q
theorem qt:Jb X (compareOp .LtE) (fun x y H Q=>Tq x y H Q):=by
 intro XF s Z H x y v u Q I rx ry h;obtain⟨i,j,rfl,rfl,q⟩:=h;obtain⟨t,rfl⟩:=rx;obtain⟨t',rfl⟩:=ry;exact PySem.P.le_str (Je I q rfl)
inductive Tg(x:V)(y:V)(H:Hp)(Q:VK):Prop
 | mk(i j)(Y1:x=.str i)(Y0:y=.str j)(V7:Q (.bl (decide (j.cps.toList<i.cps.toList))) H):Tg x y H Q
theorem qh:Jb X (compareOp .Gt) (fun x y H Q=>Tg x y H Q):=by
 intro XF s Z H x y v u Q I rx ry h;obtain⟨i,j,rfl,rfl,q⟩:=h;obtain⟨t,rfl⟩:=rx;obtain⟨t',rfl⟩:=ry;exact PySem.P.gt_str (Je I q rfl)
noncomputable def repS(i:Str)(n:Nat):Str:=⟨(List.replicate n i.cps).foldl (·++·) #[]⟩
theorem gf(a:ZS):∀(n:Nat) (acc:ZS),((List.replicate n a).foldl (·++·) acc).toList=acc.toList++(List.replicate n a.toList).flatten
 | 0,acc=>by simp
 | n+1,acc=>by
  rw[List.replicate_succ,List.foldl_cons,gf a n (acc++a),List.replicate_succ,List.flatten_cons,Array.toList_append,XX]
theorem C5(i:Str)(n:Nat):(repS i n).cps.toList=(List.replicate n i.cps.toList).flatten:=by
 show ((List.replicate n i.cps).foldl (·++·) #[]).toList=_;rw[gf]
 rfl
theorem gn(i:Str)(n:Nat):(repS i n).length=n * i.length:=by
 show (repS i n).cps.size=n * i.cps.size;rw[<-W8,C5,len_rep,W8]
inductive Lr(x:V)(y:V)(H:Hp)(Q:VK):Prop
 | mk(i:Str)(n:Int)(Y1:x=.str i)(Y0:y=.int n)(V7:2<=n)(Wr:n<=1000)(wm:i.length≠0)(h5_:i.length<=1000)(h6_:Q (.str (repS i n.toNat)) H):Lr x y H Q
theorem Zzs:Jb X (binaryOp .Mult) (fun x y H Q=>Lr x y H Q):=by
 intro XF s Z H x y v u Q I rx ry h;obtain⟨i,n,rfl,rfl,n2,n1,i0,i1,q⟩:=h;obtain⟨t,rfl⟩:=rx;obtain⟨t',rfl⟩:=ry;have c1:¬ n<1:=by omega
 have c2:(n == 1 || i.length == 0)=false:=by
  rw[Bool.or_eq_false_iff];exact⟨B0n.mpr (by omega),B0n.mpr i0⟩
 have hm:i.length * n.toNat<=1000000:=U0 (Nat.mul_le_mul i1 (show n.toNat<=1000 by omega)) (by decide);refine PySem.P.mul_str ?_ (fun _ _=>?_) (fun _ _=>?_) ?_
 .rw[Bool.or_eq_false_iff];exact⟨Mp (by omega),Mp (by omega)⟩
 .intro z;have hn0:(0:Int)<n:=by omega
  have h1:(1000:Int) * n<=2 ^ 63 - 1:=by omega
  have h2:=(Int.le_ediv_iff_mul_le hn0).mpr h1;omega
 .show decide (i.length * n.toNat>sizeLine)=false;exact Mp (Nat.not_lt_of_le (U0 hm (by decide)))
 .rw[if_neg c1,if_neg (by rw[c2];decide)];have hl:(repS i n.toNat).length<=sizeLine:=by rw[gn,Nat.mul_comm];exact U0 hm (by decide)
  exact⟨hl,⟨.str _,H,I.tok _,⟨_,rfl⟩,q⟩⟩
end
def Its(x:Str):It:=⟨fun i _=>i<x.cps.size,fun i H v H'=>H'=H/\∃c,x.cps[i]?=some c/\v=.str ⟨#[c]⟩,fun i _=>x.cps.size<=i⟩
theorem P4{P:Program}{w:World}{K:PySem.W.Frag}{tg:Expr}(x:Str)(it:Addr)(T:String)(t:Tok)(hT:["enumerate","zip","dict_itemiterator","dict_reverseitemiterator","odict_iterator","itertools.zip_longest","itertools.pairwise"].contains T=false)
  (W:∀A:Around,A.handled=none->Walks P w A it [it] [it] x.cps.size (SignAt x) (fun i h=>h.IsStrIter it T x t i)) (hs:∀(A:Around) (i:Nat) (s:Shared) (Q:ZW) (E:ZW),s.heap.IsStrIter it T x t i->Q (.ref it) s->wpAny (model P w) A (pyIter (.ref it)) Q E s)
  (hd:∀(A:Around) (i:Nat) (s:Shared) (Q:ZT->Shared->Prop) (E:ZW),A.handled=none->x.cps.size<=i->s.heap.IsStrIter it T x t i->(∀h' tk,(∀b o,b≠it->s.heap.get? b=some o->h'.get? b=some o)->Q none { s with heap:=h',toks:=tk })->wpAny (model P w) A (pyNext (.ref it)) Q E s) :
  Turn P w K tg (Its x) [it] it (fun i h=>h.IsStrIter it T x t i) where
 mem:=by simp
 obj:=fun i h st b hb=>by
  have e:b=it:=by simpa using hb
  subst e;obtain⟨o,e,c,d⟩:=st;exact⟨o,e,fun v z=>by rw[d]at z;cases z⟩
 keep:=fun i h h' st k=>let ⟨o,ho,r⟩:=st;⟨o,k it (by simp) o ho,r⟩
 item:=by
  intro X hP hw hK hc i XF s Z H E I hf st hg;subst hP hw hK;obtain⟨f0,f1,f2,f3,f4,f5⟩:=hf it (by simp);refine(W X.A (I.ok.hd hc)).item i s _ _ hg st fun v h' tk hv E2 kk=>?_;obtain⟨c,u,uz,rfl⟩:=hv;have I1:Inv X XF Z H { s with heap:=h',toks:=tk }:=I.turned (fun b o hb e=>kk b o (by simpa using hb) e) f0 f1 f3 f4 f5;obtain⟨o,e,c1,d⟩:=id E2;exact⟨_,rfl,Sm (s:={ s with heap:=h',toks:=tk }) e c1 d hT ⟨.str ⟨#[c]⟩,H,I1,⟨u,rfl⟩,⟨rfl,c,uz,rfl⟩,E2,fun b hb=>(hf b hb).1⟩⟩
 done:=by
  intro X hP hw hK hc i XF s Z H E I hf st hg;subst hP hw hK;obtain⟨f0,f1,f2,f3,f4,f5⟩:=hf it (by simp);exact hd X.A i s _ _ (I.ok.hd hc) hg st fun h' tk eb=>⟨rfl,I.turned (fun b o hb e=>eb b o hb e) f0 f1 f3 f4 f5⟩
 self:=fun A i s Q E st h=>hs A i s Q E st h
inductive cn(R:(It->Hp->Prop))(v:V)(H1:Hp):Prop
 | mk(x)(Y1:v=.str x)(Y0:R (Its x) H1):cn R v H1
def iStr(te:TE):TI:=fun Z H R=>te Z H fun v H1=>cn R v H1
section
variable{X:Cx}{tg l:Expr}{tl:TE}
theorem pi_str(hl:PE X l tl):PI X tg l (iStr tl):=by
 intro XF s Z H R I h;refine Z9 (hl XF s Z H _ I h) fun v s1 ⟨v',H1,I1,r1,q1⟩=>?_;obtain⟨x,rfl,q⟩:=q1;obtain⟨t,rfl⟩:=r1
 have fin:∀b∈[s1.heap.objs.size],Bx X XF H1 b:=fun b hb=>by
  have e:b=s1.heap.objs.size:=by simpa using hb
  subst e;exact I1.fpOk (Z5 _) (I1.hok.fresh (Z5 _))
 cases ha:x.cps.all (·<128)
 .refine wpAny_pyIter_wide ha ?_
  exact⟨s1.heap.objs.size,[s1.heap.objs.size],_,_,H1,rfl,I1.kept (t':=s1.toks) fun b o e=>Yr _ e,P4 x _ "str_iterator" t (by decide) (fun A hA=>Walks.strWide hA _ x t) (fun A i s Q E st h=>wpAny_pyIter_striter_wide st h)
   (fun A i s Q E hA hi st h=>wpAny_pyNext_wide_end hA st (by simp[hi]) fun h' he=>h h' s.toks fun b o hb e=>he b o hb e),⟨_,U1 _ rfl,rfl,rfl⟩,fin,q⟩
 .refine wpAny_pyIter_ascii ha ?_
  exact⟨s1.heap.objs.size,[s1.heap.objs.size],_,_,H1,rfl,I1.kept (t':=s1.toks) fun b o e=>Yr _ e,P4 x _ "str_ascii_iterator" t (by decide) (fun A hA=>Walks.strAscii hA _ x t) (fun A i s Q E st h=>wpAny_pyIter_striter_ascii st h)
   (fun A i s Q E hA hi st h=>wpAny_pyNext_ascii_end hA st (by simp[hi]) fun h' he=>h h' s.toks fun b o hb e=>he b o hb e),⟨_,U1 _ rfl,rfl,rfl⟩,fin,q⟩
end
def Itz(K:W.Frag)(l1 l2:Addr):It :=
  ⟨fun i H=>∃xs ys x y,Vi K H l1 xs/\Vi K H l2 ys/\xs[i]?=some x/\ys[i]?=some y,
   fun i H v H'=>∃p x y,v=.ref p/\H p=none/\H'=upd H p (.tup [x,y])/\(∀xs,Vi K H l1 xs->xs[i]?=some x)/\∀ys,Vi K H l2 ys->ys[i]?=some y,
   fun i H=>∃xs ys,Vi K H l1 xs/\Vi K H l2 ys/\(xs.length<=i\/ys.length<=i)⟩
theorem yk{P:Program}{w:World}{K:W.Frag}{es:ZC}{k:Nat}{pos:Pos}(z TI TO i1 i2 l1 l2:Addr)(D:ZipApart z TI TO i1 i2 l1 l2) :
  Turn P w K (.Tuple es k pos) (Itz K l1 l2) [z,TI,TO,i1,i2] z (fun i h=>IsZip h z TI TO .none/\IsPair h TI (.ref i1) (.ref i2)/\(∃a b,IsPair h TO a b)/\h.IsListIter i1 l1 i/\h.IsListIter i2 l2 i) where
 mem:=by simp
 obj:=fun i h st b hb=>by
  obtain⟨hz,Qa,⟨a,c,Sb⟩,⟨o1,e1,_,d1⟩,⟨o2,e2,_,d2⟩⟩:=st;simp only[Y3,V4,or_false]at hb;rcases hb with rfl | rfl | rfl | rfl | rfl
  .exact⟨_,hz,fun v q=>nomatch q⟩
  .exact⟨_,Qa,fun v q=>nomatch q⟩
  .exact⟨_,Sb,fun v q=>nomatch q⟩
  .exact⟨_,e1,fun v q=>by rw[d1]at q;cases q⟩
  .exact⟨_,e2,fun v q=>by rw[d2]at q;cases q⟩
 keep:=fun i h h' st hk=>by
  obtain⟨hz,Qa,⟨a,b,Sb⟩,h1,h2⟩:=st;exact⟨hk z (by simp) _ hz,hk TI (by simp) _ Qa,⟨a,b,hk TO (by simp) _ Sb⟩,h1.at fun o e=>hk i1 (by simp) o e,h2.at fun o e=>hk i2 (by simp) o e⟩
 item:=by
  intro X hP hw hK hc i XF s Z H E I hf st hg;subst hP hw hK;obtain⟨xs,ys,x,y,q1,q2,g1,g2⟩:=hg;obtain⟨hz,Qa,⟨a,b,Sb⟩,h1,h2⟩:=st;obtain⟨wq,v1,qv,z1⟩:=I.list q1;obtain⟨is2,v2,qw,z2⟩:=I.list q2;obtain⟨u1,e1,r1⟩:=v1.get g1;obtain⟨u2,e2,r2⟩:=v2.get g2;refine wpAny_pyNext_zip_item D hz Qa Sb h1 h2 qv.isList qw.isList (x:=u1) (y:=u2) (by simpa using e1) (by simpa using e2) fun h' a1 a2 a3 a4 a5 a6 hk=>?_;refine⟨_,rfl,wpAny_letOwnedTupleGo_zip (s:={ s with heap:=h' }) a1 fun h'' L6 Sw=>?_⟩;have lt:∀{c o},s.heap.get? c=some o->s.heap.objs.size≠c:=fun e=>Nat.ne_of_gt (Y7 e);have nz:s.heap.objs.size≠z:=lt hz
  have kk:∀c u,c ∉ [z,TI,TO,i1,i2]->s.heap.get? c=some u->h''.get? c=some u:=fun c u m e=>by
   simp only[Y3,V4,or_false,not_or]at m;exact Sw.extBut _ _ m.1 (hk c u m.1 m.2.2.1 m.2.2.2.1 m.2.2.2.2 e)
  have fresh:=I.hok.fresh (Z5 s.heap.objs.size);have J:Inv X XF Z (upd H s.heap.objs.size (.tup [x,y])) { s with heap:=h'',toks:=s.toks }:=I.turnLay kk hf (Z5 _) ⟨by show 2<=sizeLine;decide,[u1,u2],.cons r1 (.cons r2 .nil),⟨_,Sw.extBut _ _ nz a5,rfl,⟨_,rfl⟩,rfl⟩⟩;refine⟨.ref s.heap.objs.size,_,J,rfl,⟨_,x,y,rfl,fresh,rfl,fun ws hw=>by rw[I.list_inj hw q1];exact g1,fun ws hw=>by rw[I.list_inj hw q2];exact g2⟩,⟨L6,Sw.extBut _ _ D.TIz (hk _ _ D.TIz D.TITO D.TIi1 D.TIi2 Qa),⟨_,_,Sw.extBut _ _ D.TOz a2⟩,a3.extBut Sw.extBut D.i1z,a4.extBut Sw.extBut D.i2z⟩,fun c hc=>?_⟩
  have nc:c≠s.heap.objs.size:=fun q=>by
   subst q;simp only[Y3,V4,or_false]at hc;rcases hc with q | q | q | q | q
   .exact lt hz q
   .exact lt Qa q
   .exact lt Sb q
   .obtain⟨_,e,_⟩:=h1;exact lt e q
   .obtain⟨_,e,_⟩:=h2;exact lt e q
  rw[Zz nc];exact(hf c hc).1
 done:=by
  intro X hP hw hK hc i XF s Z H E I hf st hg;subst hP hw hK;obtain⟨xs,ys,q1,q2,g⟩:=hg;obtain⟨hz,Qa,⟨a,b,Sb⟩,h1,h2⟩:=st;obtain⟨wq,v1,qv,z1⟩:=I.list q1;obtain⟨is2,v2,qw,z2⟩:=I.list q2;have hl1:=v1.length;have pe:=v2.length;refine wpAny_pyNext_zip_end (I.ok.hd hc) D hz Qa Sb h1 h2 qv.isList qw.isList (by rcases g with g | g;exact .inl (by simp;omega);exact .inr (by simp;omega)) fun h' hk=>⟨rfl,I.turnL (t':=s.toks) (fp:=[z,TI,TO,i1,i2]) (fun c u m e=>?_) hf⟩;simp only[Y3,V4,or_false,not_or]at m;exact hk c u m.1 m.2.2.1 m.2.2.2.1 m.2.2.2.2 e
 self:=fun A i s Q E st h=>wpAny_pyIter_zip st.1 h
inductive cf(K:W.Frag)(R:(It->Hp->Prop))(vs:ZQ)(H1:Hp):Prop
 | mk(p q)(Y1:vs=[.ref p,.ref q])(Y0:(∃xs,Vi K H1 p xs))(V7:(∃ys,Vi K H1 q ys))(Wr:R (Itz K p q) H1):cf K R vs H1
def iZip(K:W.Frag)(t:TA):TI:=fun Z H R=>t Z H fun vs H1=>cf K R vs H1
section
variable{X:Cx}{es:ZC}{k:Nat}{p2 pos Jz:Pos}{a b:Expr}{t:TA}
theorem pi_zip(hgz:Gl X "zip")(hmz:X.mg "zip" = none)(ha:PA X [a,b] t)
  (he2:starEach [a,b] X.env=(false,eval a X.env)::starEach [b] X.env:=by rfl) (Qp:(backTo Jz (starEach [b] X.env)).any (·.1)=false:=by rfl) :
  PI X (.Tuple es k pos) (.Call (.Name "zip" p2) [a,b] [] Jz) (iZip X.K t):=by
 intro XF s Z H R I h;refine wpAny_Call_Name_kw (Bp I hgz hmz (by decide +kernel:bootBuiltins "zip" = some (.type "zip")) ?_ (by decide) (by decide));refine callWith_type1 (Z9 (ha Jz XF s Z H _ I h) fun us s1 ⟨vs,H1,I1,r1,q1⟩=>?_) he2 Qp;obtain⟨l1,l2,rfl,⟨xs,hx⟩,⟨ys,hy⟩,q⟩:=q1;obtain⟨u1,u2,rfl,e1,e2⟩:=vals2 r1;cases e1;cases e2;obtain⟨wq,v1,qv,z1⟩:=I1.list hx;obtain⟨is2,v2,qw,z2⟩:=I1.list hy;have n1:l1<s1.heap.objs.size:=by obtain⟨_,e,_⟩:=qv.isList;exact Y7 e
 have n2:l2<s1.heap.objs.size:=by obtain⟨_,e,_⟩:=qw.isList;exact Y7 e
 refine call_zip_2 qv.isList qw.isList fun h2 b1 b2 b3 b4 b5 b6 k2=>?_;refine wpAny_pyIter_zip (s:={ s1 with heap:=h2 }) b1 ?_;have J:Inv X XF Z H1 { s1 with heap:=h2,toks:=s1.toks }:=I1.kept k2;refine⟨_,[s1.heap.objs.size+4,s1.heap.objs.size+2,s1.heap.objs.size+3,s1.heap.objs.size,s1.heap.objs.size+1],_,_,H1,rfl,J,yk _ _ _ _ _ l1 l2 (zipApart_new n1 n2),⟨b1,b2,⟨_,_,b3⟩,b4,b5⟩,fun c hc=>?_,q⟩
 have ge:s1.heap.objs.size<=c:=by
  simp only[Y3,V4,or_false]at hc;rcases hc with q | q | q | q | q<;>rw[q]<;>first | exact Z5 _ | exact Nat.le_add_right _ _
 exact I1.fpOk ge (I1.hok.fresh ge)
end
section
variable{X:Cx}
inductive Rq(K:W.Frag)(x:V)(y:V)(H:Hp)(Q:VK):Prop
 | mk(l b zs)(Y1:x=.ref l)(Y0:y=.ref b)(V7:Yu K H l [])(Wr:Yu K H b zs)(wm:Q (.ref b) H):Rq K x y H Q
theorem dw:Jb X (binaryOp .Add) (fun x y H Q=>Rq X.K x y H Q):=by
 intro XF s Z H x y v u Q I rx ry h;obtain⟨l,b,zs,rfl,rfl,hl,hb,q⟩:=h;cases rx;cases ry;obtain⟨i1,r1,p1,z1⟩:=I.tuple hl;obtain⟨i2,r2,p2,z2⟩:=I.tuple hb;have e1:i1=[]:=by cases r1;rfl
 subst e1;obtain⟨⟨c1,d1,t1,s1⟩,o1,k1,n1,m1⟩:=id p1;obtain⟨⟨c2,d2,t2,s2⟩,o2,k2,n2,m2⟩:=id p2;simp only at k1 m1 k2 m2;subst k1 m1 k2 m2;exact concat_meets ⟨_,o1,rfl⟩ ⟨_,o2,rfl⟩ noFill_tuple_add seq_tuple_add PySem.F.slot_tuple_add PySem.F.entry_tuple_add (PySem.F.args_tuple_add_2 _ _) (tuple_addW0 l b _ _ n1 n2 d1 d2 s1 s2 rfl) ⟨o1,o2,⟨.ref b,H,I,rfl,q⟩⟩
end
end L2
namespace HT
open PySem PySem.Spec PyProof.Rows
section
variable{prog:Program}{w:World}{A:Around}{E:ZW}{s:Shared}
theorem Di{t sl:Addr}{items:ZN}{vl vu:Value}{lo hi:ZR}{Q:ZW}(ht:IsTup s.heap t items)(hs:s.heap.IsSliceOf sl vl vu .none)(pl:IsPart vl lo)(pu:IsPart vu hi)
  (hw:Yl items.size 0 lo=0/\Yl items.size items.size hi=items.size) (h:Q (.ref t) s):wpAny (model prog w) A (getItem (.ref t) (.ref sl)) Q E s:=by
 obtain⟨os,jy,hcs,wg⟩:=id hs;have hTs:s.TypeIs (.ref sl) "slice" := ⟨os,jy,hcs⟩;unfold getItem
 try with_reducible refine wpAny_holding ?_
 first | refine Zx (Zf ?_) | skip
 refine Zx (wpAny_sequenceKey ht.typeIs (by decide) ?_)
 refine Zx (wpAny_callSpecial?_slot (name:=Str.ofString "__getitem__") ht.typeIs slot_tuple_getitem
  (wpAny_call_entry slot_tuple_getitem ht.typeIs entry_tuple_getitem ?_ (args_tuple_getitem _ _)))
 show wpAny _ _ (Builtin.Tuple.tupleItemsOf (.ref t) >>= _) _ _ s;refine Zx (tupleItemsOf_ ht ?_);refine Zx (wpAny_typeOf hTs ?_);rw[if_pos (by decide)];refine Zx (U7 hs pl pu ?_)
 have hyes:(((Yl items.size 0 lo:Nat):Int) == 0 && (1:Int) == 1 && (Yl items.size items.size hi - Yl items.size 0 lo) == items.size)=true:=by
  rw[hw.1,hw.2];simp
 show wpAny _ _ (if (((Yl items.size 0 lo:Nat):Int) == 0 && (1:Int) == 1 && (Yl items.size items.size hi - Yl items.size 0 lo) == items.size)=true then _ else _) _ _ s;rw[if_pos hyes];refine Zx (m:=Builtin.Tuple.tupleIsExact (.ref t)) (Zx (wpAny_typeOf ht.typeIs (Zf ?_)));rw[if_pos (by decide)];exact Zx (wpAny_rule (Zf ⟨_,rfl,Zf h⟩))
theorem Bm{sl:Addr}{n:Nat}{u:Tok}{Q:Int×Int×Nat->Shared->Prop}(hs:s.heap.IsSliceOf sl .none .none (.int (-1) u))
  (h:Q ((n:Int) - 1, -1,n) s):wpAny (model prog w) A (Builtin.Slice.sliceApplied (.ref sl) (pure (n:Int))) Q E s:=by
 obtain⟨os,jy,hcs,wg⟩:=id hs;unfold Builtin.Slice.sliceApplied Builtin.Slice.sliceFields;refine Zx (Zx (wpAny_field jy wg (x:=.none) rfl (Zx (wpAny_field jy wg (x:=.none) rfl (Zx (wpAny_field jy wg (x:=.int (-1) u) rfl (Zf ?_)))))));refine Zx (slicePart_int ?_);show wpAny _ _ (if ((-1:Int) == 0)=true then _ else _) _ _ s;rw[if_neg (by decide)];refine Zx (slicePart_none (Zx (slicePart_none (Zx (Zf ?_)))))
 have e:Builtin.Slice.slicePlaces ((n:Int) - 1) (-1) (-1)=n:=by
  unfold Builtin.Slice.slicePlaces;rw[if_neg (by decide)];by_cases hn:n=0
  .subst hn;decide
  .rw[if_pos (by omega)];have q:((n:Int) - 1 - -1 - 1) / - -1=(n:Int) - 1:=by rw[show (- -1:Int)=1 from rfl,Int.ediv_one];omega
   rw[q];omega
 show wpAny _ _ (pure ((n:Int) - 1,(-1:Int),Builtin.Slice.slicePlaces ((n:Int) - 1) (-1) (-1))) _ _ s;rw[e];exact Zf h
theorem bb(xs:ZN):((List.range xs.size).filterMap fun(m:Nat)=>xs[(((xs.size:Int) - 1)+(m:Int) * (-1)).toNat]?)=xs.toList.reverse:=by
 apply List.ext_getElem?
 intro i
 have e:(List.range xs.size).filterMap (fun(m:Nat)=>xs[(((xs.size:Int) - 1)+(m:Int) * (-1)).toNat]?)=(List.range xs.size).map (fun m=>xs.toList.getD (xs.size - 1 - m) .none):=by
  have go:∀l:List Nat,(∀m∈l,m<xs.size)->l.filterMap (fun(m:Nat)=>xs[(((xs.size:Int) - 1)+(m:Int) * (-1)).toNat]?)=l.map (fun m=>xs.toList.getD (xs.size - 1 - m) .none):=by
   intro l
   induction l with
   | nil=>intro _;rfl
   | cons m l ih =>
    intro h;have hm':=h m Vt;have q:(((xs.size:Int) - 1)+(m:Int) * (-1)).toNat=xs.size - 1 - m:=by omega
    have hl:xs.size - 1 - m<xs.size:=by omega
    have q2:xs[(((xs.size:Int) - 1)+(m:Int) * (-1)).toNat]?=some (xs.toList.getD (xs.size - 1 - m) .none):=by rw[q];simp[hl]
    rw[List.filterMap_cons,q2,Gh,ih fun k hk=>h k (Vf _ hk)]
  exact go _ fun m hm=>List.mem_range.mp hm
 rw[e];by_cases hi:i<xs.size
 .rw[Cz,List.getElem?_range hi,List.getElem?_reverse (by simpa using hi)];have hl:xs.size - 1 - i<xs.size:=by omega
  simp[hl]
 .rw[List.getElem?_eq_none (by simp;omega),List.getElem?_eq_none (by simp;omega)]
theorem Nn{t sl:Addr}{items:ZN}{u:Tok}{Q:ZW}(ht:IsTup s.heap t items)(hs:s.heap.IsSliceOf sl .none .none (.int (-1) u))(hsz:items.size<=sizeLine)
  (h:Q (.ref s.heap.objs.size) { s with heap:=s.heap.push { cls:=.type "tuple",data:=.seq items.toList.reverse.toArray } }):wpAny (model prog w) A (getItem (.ref t) (.ref sl)) Q E s:=by
 obtain⟨os,jy,hcs,wg⟩:=id hs;have hTs:s.TypeIs (.ref sl) "slice" := ⟨os,jy,hcs⟩
 have Nd:sizeOk (.seq items.toList.reverse.toArray):=by
  show items.toList.reverse.toArray.size<=sizeLine;rw[Vy,List.length_reverse,W8];exact hsz
 unfold getItem
 try with_reducible refine wpAny_holding ?_
 first | refine Zx (Zf ?_) | skip
 refine Zx (wpAny_sequenceKey ht.typeIs (by decide) ?_)
 refine Zx (wpAny_callSpecial?_slot (name:=Str.ofString "__getitem__") ht.typeIs slot_tuple_getitem
  (wpAny_call_entry slot_tuple_getitem ht.typeIs entry_tuple_getitem ?_ (args_tuple_getitem _ _)))
 show wpAny _ _ (Builtin.Tuple.tupleItemsOf (.ref t) >>= _) _ _ s;refine Zx (tupleItemsOf_ ht ?_);refine Zx (wpAny_typeOf hTs ?_);rw[if_pos (by decide)];refine Zx (Bm hs ?_);have hno:¬ ((((items.size:Int) - 1) == 0 && (-1:Int) == 1 && items.size == items.size)=true):=by simp
 show wpAny _ _ (if (((items.size:Int) - 1) == 0 && (-1:Int) == 1 && items.size == items.size)=true then _ else _) _ _ s;rw[if_neg hno,bb]
 first
  | exact Zx (m:=Builtin.Tuple.tupleExact _) (wpAny_newObj_type (Zf ⟨_,rfl,Zf h⟩) Nd)
  | exact Zx (m:=Builtin.Tuple.tupleExact _) (wpAny_newObj_type (Zx (Zf (Zf ⟨_,rfl,Zf h⟩))) Nd)
  | exact Zx (Zx (m:=Builtin.Tuple.tupleExact _) (wpAny_newObj_type (Zf (Zf ⟨_,rfl,Zf h⟩)) Nd))
  | exact Zx (Zx (m:=Builtin.Tuple.tupleExact _) (wpAny_newObj_type (Zf ⟨_,rfl,Zf h⟩) Nd))
end
end HT
namespace L2
open PySem PySem.Spec PyProof.Rows
section
variable{X:Cx}{e:Expr}{te:TE}{lo hi:Option Expr}{tl th:TO}{pos p2 p3 p4:Pos}{j1:Nat}
theorem Zd.lay{H:Hp}{p:Addr}{o:HO}(h:H p=none):Zd H (upd H p o):=fun b u q=>by rw[Zz (Za q h)];exact q
inductive g9(K:W.Frag)(x:V)(lo:ZR)(hi:ZR)(H:Hp)(Q:VK):Prop
 | mk(a xs)(Y1:x=.ref a)(Y0:Yu K H a xs)(V7:∀p H',Zd H H'->Yu K H' p (Rp xs lo hi)->Q (.ref p) H'):g9 K x lo hi H Q
def rSlG(K:W.Frag):V->ZR->ZR->Hp->VK->Prop:=fun x lo hi H Q=>g9 K x lo hi H Q
theorem o5:SlR X (rSlG X.K):=by
 intro XF s Z H x v vl vu lo hi sl Q I rx hs pl pu h;obtain⟨a,xs,rfl,hx,q⟩:=h;by_cases hw:HT.Yl xs.length 0 lo=0/\HT.Yl xs.length xs.length hi=xs.length
 .cases rx;obtain⟨XM,r,ht,hz⟩:=I.tuple hx;have hlen:XM.toArray.size=xs.length:=by rw[Vy];exact r.length.symm
  refine⟨"tuple",_,slot_tuple_getitem.lookup,ht.typeIs, ?_⟩;refine HT.Di ht hs pl pu (by rw[hlen];exact hw) ⟨.ref a,H,I,rfl,q a H (Zd.refl H) ?_⟩
  have e:Rp xs lo hi=xs:=by
   unfold Rp;rw[hw.1,hw.2,List.drop_zero,Nat.sub_zero,List.take_length]
  rw[e];exact hx
 .exact sl_tup XF s Z H _ v vl vu lo hi sl Q I rx hs pl pu ⟨a,xs,rfl,hx,hw,fun p hp=>q p _ (Zd.lay hp) (Yu.of Zw)⟩
inductive yc(K:W.Frag)(Q:VK)(x:V)(H1:Hp):Prop
 | mk(a xs)(Y1:x=.ref a)(Y0:Yu K H1 a xs)(V7:∀p,H1 p=none->Q (.ref p) (upd H1 p (.tup xs.reverse))):yc K Q x H1
def tRev(K:W.Frag)(te:TE):TE:=fun Z H Q=>te Z H fun x H1=>yc K Q x H1
theorem Zv.rev{xs:ZQ}{us:ZM}(r:Zv xs us):Zv xs.reverse us.reverse:=by
 induction r with
 | nil=>exact .nil
 | cons h t ih =>
  rw[List.reverse_cons,List.reverse_cons];exact Zv.append ih (.cons h .nil)
theorem Zzv(he:PE X e te)(Bo:PE X (.UnaryOp .USub (.Constant (.int 1) j1 p3) p4) (tUn (rU fun i=>.int (-i)) (tC (.int 1)))):PE X (.Subscript e (.Slice none none (some (.UnaryOp .USub (.Constant (.int 1) j1 p3) p4)) p2) pos) (tRev X.K te):=by
 intro XF s Z H Q I h;refine Subscript_ (Z9 (he XF s Z H _ I h) fun v s1 ⟨x,H1,I1,r1,q1⟩=>?_);rw[show (Expr.Slice none none (some (.UnaryOp .USub (.Constant (.int 1) j1 p3) p4)) p2)=(Expr.Slice none none (some (.UnaryOp .USub (.Constant (.int 1) j1 p3) p4)) p2) from rfl];refine wpAny_Slice ?_;rw[evalPart_none];refine Zf (Zf ?_);rw[evalPart_some];refine Z9 (Bo XF s1 Z H1 (fun v H2=>v=.int (-1)/\H2=H1) I1 ⟨1,rfl,rfl,rfl⟩) fun u s3 ⟨y,H3,I3,r3,e3,e4⟩=>?_;subst e3 e4;obtain⟨t,rfl⟩:=r3;obtain⟨a,xs,rfl,hx,q⟩:=q1;cases r1;have I4:Inv X XF Z H3 { s3 with heap:=s3.heap.push { cls:=.type "slice",data:=.fields #[.none,.none,.int (-1) t] } }:=I3.kept (t':=s3.toks) fun b ob q=>Yr _ q;obtain⟨XM,r,ht,hz⟩:=I4.tuple hx;have hlen:XM.toArray.size=xs.length:=by rw[Vy];exact r.length.symm
 show wpAny (model X.prog X.w) X.A (subscriptTail e (.Slice none none (some (.UnaryOp .USub (.Constant (.int 1) j1 p3) p4)) p2) (.ref a) (.ref s3.heap.objs.size)) (EP X XF Z Q) X.xe { s3 with heap:=s3.heap.push { cls:=.type "slice",data:=.fields #[.none,.none,.int (-1) t] } };refine tail_any (ops:=[.ref a,.ref s3.heap.objs.size]) ht.typeIs slot_tuple_getitem.lookup (HT.Nn ht (Heap.IsSliceOf.new ..) (by rw[hlen];exact hz) ?_) (by with_unfolding_all rfl);refine⟨.ref _,_,I4.laid (t':=s3.toks) (o:=.tup xs.reverse) (fun b ob q=>Yr _ q) (Z5 _) ?_,rfl,q _ (I4.hok.fresh (Z5 _))⟩;exact⟨by rw[List.length_reverse];exact hz,_,r.rev,Wx.new _ _⟩
inductive I0(K:W.Frag)(x:V)(y:V)(H:Hp)(Q:VK):Prop
 | mk(a b xs ys)(Y1:x=.ref a)(Y0:y=.ref b)(V7:Yu K H a xs)(Wr:Yu K H b ys)(wm:xs.length+ys.length<=sizeLine)(h5_:∀p H',Zd H H'->Yu K H' p (xs++ys)->Q (.ref p) H'):I0 K x y H Q
def rCatG(K:W.Frag):R2:=fun x y H Q=>I0 K x y H Q
theorem Zzo:Jb X (binaryOp .Add) (rCatG X.K):=by
 intro XF s Z H x y v u Q I rx ry h;obtain⟨a,b,xs,ys,rfl,rfl,ha,hb,hz,q⟩:=h;cases xs with
 | nil=>exact dw XF s Z H _ _ v u Q I rx ry ⟨a,b,ys,rfl,rfl,ha,hb,q b H (Zd.refl H) hb⟩
 | cons x xs =>
  refine Zzu XF s Z H _ _ v u Q I rx ry ⟨a,b,x::xs,ys,rfl,rfl,ha,hb,(fun z=>nomatch z),hz,fun e=>?_,fun _ p hp=>q p _ (Zd.lay hp) (Yu.of Zw)⟩;subst e;exact q a H (Zd.refl H) (by rw[XQ];exact ha)
end
structure FnV(X:Cx)(f:Addr)(ps:ZD)(sp:Sp):Prop where
 ok:∃k fd,Dj X.prog X.w X.K X.mg X.base uy k f fd ps sp/\Binds X.K fd ps []/\U4 k X.A
 kp:W.keepIn X.K (.ref f)=true
section
variable{X:Cx}{x:Str}{p pos:Pos}{e:Expr}{es:ZC}{tn:TE}{t:TA}{Y:Cx->Addr->ZD->Sp->Prop}
inductive P8(X:Cx)(t:TA)(Z:St)(Q:VK)(v:V)(H1:Hp):Prop
 | mk(f ps sp)(Y1:v=.ref f)(Y0:FnV X f ps sp)(V7:t Z H1 fun vs H2=>sp vs H2 Q E0):P8 X t Z Q v H1
def tCallV(X:Cx)(tn:TE)(t:TA):TE:=fun Z H Q=>tn Z H fun v H1=>P8 X t Z Q v H1
theorem b8(hn:PE X (.Name x p) tn)(ha:PA X (e::es) t)
  (he:starEach (e::es) X.env=(false,eval e X.env)::starEach es X.env:=by rfl) (Qp:(backTo pos (starEach es X.env)).any (·.1)=false:=by rfl) :
  PE X (.Call (.Name x p) (e::es) [] pos) (tCallV X tn t):=by
 intro XF s Z H Q I h;refine wpAny_Call_Name_kw (Z9 (hn XF s Z H _ I h) fun v s1 ⟨v',H1,I1,r1,f,ps,sp,e1,⟨⟨k,fd,F,b,hr⟩,kp⟩,q1⟩=>?_);subst e1;cases r1;refine W.callWith_K (h₀:=X.base) I1.ok.mod.kin kp (Z9 (ha pos XF s1 Z H1 _ I1 q1) fun us s2 ⟨vs,H2,I2,r2,q2⟩=>⟨I2.kIn, ?_⟩) he Qp;exact k9 (sp:=sp) (E:=E0) F hr b .nil Zjz I2 r2 (by rw[XQ];exact q2)
end
section
variable{K:W.Frag}{H H1 H':Hp}
end
section
variable{X:Cx}
theorem Zxy{XF:ZY}{Z:St}{H:Hp}{s:Shared}{a:Addr}{xs:ZQ}{c:Value}{b:Bool}{Q:ZW}{E:ZW}(I:Inv X XF Z H s)(q:Yu X.K H a xs)(e:W.kitOne X.K (.type "tuple") c=some b)(h:∀tk,Q (.bool b) { s with toks:=tk }) :
  wpAny (model X.prog X.w) X.A (call (.builtin "isinstance") [.ref a,c]) Q E s:=by
 obtain⟨XM,_,⟨o,h1,h2,_⟩,_⟩:=I.tuple q;exact W.kia_one W.kitx_tuple I.kIn ⟨o,h1,h2⟩ e (fun z=>nomatch z) h
end
section
variable{K:W.Frag}{H:Hp}{a D:Addr}{xs:ZQ}{ts:List Th}{te:TE}{tt:TT}{fin:Hp->Prop}{τ:St}{o:Option V}
end
end L2
namespace K01
open PySem PySem.Spec PyProof.Rows L2
end K01
namespace L2
open PySem PySem.Spec PyProof.Rows
section
variable{X:Cx}
end
end L2
namespace RevA
open PySem
section
variable{prog:Program}{w:World}{A:Around}{E:ZW}{s:Shared}{r t:Addr}{XM:ZN}{i:Int}
end
end RevA
namespace RevA
open PySem PyProof.Rows
section
variable{prog:Program}{w:World}{A:Around}{E:ZW}{s:Shared}{r t:Addr}{XM:ZN}
end
section
variable{prog:Program}{w:World}{A:Around}{E:ZW}{s:Shared}{r t:Addr}{XM:ZN}
end
section
variable{prog:Program}{w:World}{A:Around}{E:ZW}{s:Shared}{R:Result->Shared->Prop}{I S:Addr}{fp wr:ZU}{n:Nat}{P:Nat->Value->Prop}{St:Nat->Heap->Prop}{T:String}
end
section
variable{prog:Program}{w:World}{A:Around}{E:ZW}{s:Shared}{I:Addr}{fp wr:ZU}{n:Nat}{P:Nat->Value->Prop}{St:Nat->Heap->Prop}{T:String}
end
section
variable{prog:Program}{w:World}{A:Around}{E:ZW}{s:Shared}{r t:Addr}{XM:ZN}
end
section
variable{prog:Program}{w:World}{A:Around}{E:ZW}{s:Shared}{I:Addr}{fp wr:ZU}{n:Nat}{P:Nat->Value->Prop}{St:Nat->Heap->Prop}{T:String}
end
section
variable{prog:Program}{w:World}{A:Around}{E:ZW}{s:Shared}
end
end RevA
namespace IdxT
open PySem PySem.SeqAt PySem.MeetsSeq
open PySem.AutoSeq1 (wpAny_loadPart')
end IdxT
namespace L2
open PySem PySem.Spec PyProof.Rows
section
variable{X:Cx}{p p2 pos Jz:Pos}{a:Expr}{t:TA}
end
section
variable{X:Cx}{e:Expr}{t1 t2:TE}
end
section
variable{X:Cx}{p p2 pos Jz:Pos}{a:Expr}{t:TA}
end
section
variable{X:Cx}
end
section
variable{X:Cx}{k:Nat}{C:Addr}{m x:Str}{ps:ZD}{sp:Sp}{o e:Expr}{es:ZC}{ta:TE}{t:TA}{p pos apos:Pos}
end
end L2
namespace EnuT
open PySem
section
variable{prog:Program}{w:World}{A:Around}{E:ZW}{s:Shared}
theorem nextT{it t:Addr}{i:Nat}{XM:ZN}{x:Value}{Q:ZW}(hi:s.heap.IsTupleIter it t i)(ht:s.heap.IsTuple t XM)(hx:XM[i]?=some x)
  (q:∀h',h'.IsTupleIter it t (i+1)->Heap.SameBut it s.heap h'->Q x { s with heap:=h' }):wpAny (model prog w) A (Builtin.SmallTypes.nextOf (.ref it)) Q E s:=by
 obtain⟨u,hu,hc,hd⟩:=id hi;obtain⟨p,hp,_,n,dp⟩:=ht;unfold Builtin.SmallTypes.nextOf;refine Zx (wpAny_callSpecial?_slot (name:=Str.ofString "__next__") hi.typeIs F.slot_tuple_iterator_next (wpAny_call_entry F.slot_tuple_iterator_next hi.typeIs F.entry_tuple_iterator_next ?_ (F.args_tuple_iterator_next_1 _)));show wpAny _ _ (field (.ref it) 0 >>= _) _ _ s;refine Zx (wpAny_field hu hd (x:=.ref t) rfl ?_);show wpAny _ _ (if (Value.ref t == Value.none)=true then _ else _) _ _ s;rw[if_neg (show ¬ ((Value.ref t == Value.none)=true) from Ti)];show wpAny _ _ (field (.ref it) 1 >>= _) _ _ s;refine Zx (wpAny_field hu hd (x:=.int i 0) rfl ?_);show wpAny _ _ (seqItems? (.ref t) >>= _) _ _ s;refine Zx (wpAny_seqItems hp dp ?_);simp only[XG,hx];refine Zx (wpAny_setField hu hd (by simp) (Zf ⟨x,rfl,Zf (q _ ?_ (Heap.SameBut.update ..))⟩));exact⟨_,Heap.get?_update_self _ hu (Obj.isFreed_of_fields (Obj.data_mapFields hd _)),(Obj.cls_mapFields ..).trans hc,by rw[Obj.data_mapFields hd];simp[rawInt]⟩
theorem endT{it t:Addr}{i:Nat}{XM:ZN}{Q:ZW}(hh:A.handled=none)(hi:s.heap.IsTupleIter it t i)(ht:s.heap.IsTuple t XM)(hx:XM[i]?=none)
  (q:∀h' e,Heap.ExtBut it s.heap h'->(∃o,h'.get? e=some o/\o.cls=.type "StopIteration")->E (.ref e) { s with heap:=h' }):wpAny (model prog w) A (Builtin.SmallTypes.nextOf (.ref it)) Q E s:=by
 obtain⟨u,hu,hc,hd⟩:=id hi;obtain⟨p,hp,_,n,dp⟩:=ht;unfold Builtin.SmallTypes.nextOf;refine Zx (wpAny_callSpecial?_slot (name:=Str.ofString "__next__") hi.typeIs F.slot_tuple_iterator_next (wpAny_call_entry F.slot_tuple_iterator_next hi.typeIs F.entry_tuple_iterator_next ?_ (F.args_tuple_iterator_next_1 _)));show wpAny _ _ (field (.ref it) 0 >>= _) _ _ s;refine Zx (wpAny_field hu hd (x:=.ref t) rfl ?_);show wpAny _ _ (if (Value.ref t == Value.none)=true then _ else _) _ _ s;rw[if_neg (show ¬ ((Value.ref t == Value.none)=true) from Ti)];show wpAny _ _ (field (.ref it) 1 >>= _) _ _ s;refine Zx (wpAny_field hu hd (x:=.int i 0) rfl ?_);show wpAny _ _ (seqItems? (.ref t) >>= _) _ _ s;refine Zx (wpAny_seqItems hp dp ?_);simp only[XG,hx];refine Zx (wpAny_rule (Zx (wpAny_setField hu hd (by simp) ?_)));show wpAny _ _ (newExc (.type "StopIteration") [] >>= _) _ _ _;refine Zx ?_;simp only[newExc,newTuple];refine Zx (wpAny_newObj_type ?_ (by size_fits));refine Zx (m:=firstArgMember _ _) (wpAny_of_eq (a:=Value.none) (by first | rfl | (simp only[firstArgMember];rfl)) ?_);refine wpAny_newObj_type ?_ (by size_fits);simp only[raiseNew];refine Zx (wpAny_handled ?_)
 first | rw[show A.in1.handled=none from hh] | rw[hh]
 refine Zx (Zf (wpAny_throw ?_));exact q _ _ (((Heap.SameBut.update ..).extBut.push _).push _) ⟨_,U1 _ rfl,rfl⟩
end
section
variable{prog:Program}{w:World}{A:Around}{E:ZW}{s:Shared}
end
end EnuT
namespace L2
open PySem PySem.Spec PyProof.Rows
section
variable{X:Cx}{es:ZC}{k:Nat}{p2 pos Jz:Pos}{a:Expr}{t:TA}
end
section
variable{X:Cx}
end
section
variable{X:Cx}{p p2 pos Jz:Pos}{a b:Expr}{t:TA}
end
end L2
namespace EX
open PySem
section
variable{M:Model}{A:Around}{E:ZW}{s:Shared}{env:Env}{outer:List Env}{base:Heap}{L e T:Addr}{oe:Obj}{vs:ZN}{Q:ZA}
end
section
variable{M:Model}{A:Around}{E:ZW}{s:Shared}{env:Env}
end
section
variable{M:Model}{A:Around}{E:ZW}{s:Shared}{env:Env}
end
section
variable{prog:Program}{w:World}{A:Around}{E:ZW}{s:Shared}{env:Env}
end
section
variable{prog:Program}{w:World}{A:Around}{E:ZW}{h:Heap}{g:Array GenState}{d:Drawn}{t:Nat}{os:OsState}
variable{nm q:Str}{C N:Addr}{bs bm bmB:ZM}{hdct:Bool}{sn:ZD}{sub:ZM}{ab:Bool}{col:Option Bool}{dd:ZP}{k0 k1 k2 k3 k5:ZT}{B newId initId:String}
end
section
variable{prog:Program}{w:World}{A:Around}{E:ZW}{h:Heap}{g:Array GenState}{d:Drawn}{t:Nat}{os:OsState}
variable{nm q:Str}{C N:Addr}{bs bm bmB:ZM}{hdct:Bool}{sn:ZD}{sub:ZM}{ab:Bool}{col:Option Bool}{dd:ZP}{k0 k1 k2 k3 k5:ZT}{B newId initId:String}
end
end EX
namespace EX
open PySem Builtin Builtin.ObjectAttr
section
variable{prog:Program}{w:World}{A:Around}{E:ZW}{s:Shared}{x C:Addr}{o:Obj}{name:Str}{v:Value}
end
section
variable{prog:Program}{w:World}{A:Around}{E:ZW}{s:Shared}{x C dx:Addr}{o:Obj}{name:Str}{v:Value}{mA:ZV}{vs:ZN}
end
end EX
namespace EX
open PySem
section
variable{prog:Program}{w:World}{A:Around}{E:ZW}{h:Heap}{g:Array GenState}{d:Drawn}{t:Nat}{os:OsState}
variable{nm q:Str}{C N:Addr}{bs bm bmB:ZM}{hdct:Bool}{sn:ZD}{sub:ZM}{ab:Bool}{col:Option Bool}{dd:ZP}{k0 k1 k2 k3 k5:ZT}{B newId initId:String}
end
end EX
namespace EX
open PySem PySem.W Builtin Builtin.ObjectAttr
section
variable{prog:Program}{w:World}{A:Around}{E:ZW}{s:Shared}{x C:Addr}{o:Obj}{od:Option Obj}{K:Frag}
end
end EX
namespace L2
open PySem PySem.Spec PyProof.Rows
section
variable{P:Program}{w:World}{H:Hp}{h:Heap}{a C:Addr}{od:ZP}{new:Bool}{fs:List (Str×V)}
end
section
variable{K:W.Frag}{C x:Addr}{M:Model}{h:Heap}{f:Str}{o:Obj}
end
section
variable{X:Cx}{XF:ZY}{Z:St}{H:Hp}{s:Shared}{h':Heap}{t':Nat}
end
section
variable{X:Cx}{o e value:Expr}{f:Str}{pos pos':Pos}{ta tv:TE}
end
section
variable{X:Cx}{CX:zh}{k:Nat}{f C:Addr}{fd:FuncData}{ps:ZD}{sp:Sp}{E:XK}{x m:Str}{p pos:Pos}{e:Expr}{es:ZC}{t:TA}
end
section
variable{X:Cx}{XF pn:ZY}{Z:St}{H:Hp}{s:Shared}{e:Addr}{W:St->Hp->Addr->Addr->ZP->Prop}
end
section
variable{X:Cx}{XF:ZY}{Z:St}{H:Hp}{s:Shared}
end
section
variable{X:Cx}{W:St->Hp->Addr->Addr->ZP->Prop}
end
section
variable{X:Cx}
end
section
variable{X:Cx}
end
end L2
namespace EX
open PySem
section
variable{M:Model}{A:Around}{E:ZW}{s:Shared}{env:Env}{outer:List Env}{base:Heap}{L e T:Addr}{oe:Obj}{vs:ZN}{Q:ZA}
end
end EX
namespace L2
open PySem PySem.Spec PyProof.Rows
section
variable{X:Cx}{XF:ZY}{Z:St}{H:Hp}{s s':Shared}
end
section
variable{P:Program}{w:World}{K:W.Frag}{mg:ZV}{base:Heap}
end
section
variable{X:Cx}{W:XWT}{k:Nat}{x:Str}{ps:ZD}{sp:Sp}{p pos:Pos}{e:Expr}{es:ZC}{t:TA}{te:TE}
end
section
variable{X:Cx}{XF pn:ZY}{Z:St}{H:Hp}{s:Shared}{e:Addr}{W:XWT}
end
section
variable{X:Cx}
end
section
variable{X:Cx}
end
section
variable{X:Cx}{XF:ZY}{Z:St}{H:Hp}{s:Shared}
inductive Lc(K:W.Frag)(A:Around)(x:V)(y:V)(H:Hp)(Q:VK):Prop
 | mk(p xs d ds)(Y1:y=.ref p)(Y0:Vi K H p xs)(V7:Vc K H d x)(Wr:Zo K H ds xs)(wm:(∀e∈ds,A.units+Jw e+10<cLine))(h5_:Q (.bl (!(ds.any fun e=>Yp e d))) H):Lc K A x y H Q
def i5(K:W.Frag)(A:Around):R2:=fun x y H Q=>Lc K A x y H Q
theorem qm:Jb X (compareOp .NotIn) (i5 X.K X.A):=by
 intro XF s Z H x y v u Q I rx ry h;obtain⟨p,xs,d,ds,rfl,hq,hd,ar,hu,q⟩:=h;cases ry;obtain⟨XM,r,pl,hz⟩:=I.list hq;have l1:=ar.length;have l2:=r.length
 classical
 have at_:∀{i:Nat} {w:Value},XM[i]?=some w->∃dy xi,ds[i]?=some dy/\xs[i]?=some xi/\Vc X.K H dy xi/\RelV xi w:=fun {i w} hw=>by
  have hi:=(Bz.mp hw).1;obtain⟨dy,nq⟩:∃dy,ds[i]?=some dy:=⟨_,V0 (by omega)⟩;obtain⟨xi,hxi,dd⟩:=ar.get nq;obtain⟨w',hw',rr⟩:=r.get hxi;rw[hw]at hw';cases hw';exact⟨dy,xi,nq,hxi,dd,rr⟩
 have key:∀{i:Nat} {w:Value} {dy:D},XM[i]?=some w->ds[i]?=some dy->decide (∃(j:Nat) (dj:D),XM[j]?=some w/\ds[j]?=some dj/\Yp dj d=true)=Yp dy d:=fun {i w dy} hw nq=>by
  cases e:Yp dy d with
  | true=>exact Mi ⟨i,dy,hw,nq,e⟩
  | false =>
   refine Mp fun⟨j,dj,h1,h2,h3⟩=>?_;obtain⟨da,xa,a1,a2,a3,a4⟩:=at_ hw;obtain⟨db,xb,b1,b2,b3,b4⟩:=at_ h1;rw[nq]at a1;rw[h2]at b1;cases a1;cases b1;have:=a4.inj b4;subst this;rw[Vc.inj I _ _ _ a3 b3,h3]at e;cases e
 refine SeqAt.notIn_listAt (fun w=>decide (∃(j:Nat) (dj:D),XM[j]?=some w/\ds[j]?=some dj/\Yp dj d=true)) pl.isList (fun w hw=>?_) ⟨.bl _,H,I,rfl, ?_⟩
 .obtain⟨i,hi⟩:=List.getElem?_of_mem (show w∈XM by simpa using hw);obtain⟨dy,xi,a1,a2,a3,a4⟩:=at_ hi;have:=hu dy (M0g a1);show SeqAt.EqAt X.A.in1 s w v (decide _);rw[key hi a1];exact B3 I dy d xi x w v X.A.in1 a3 hd a4 rx (by show X.A.units+1+Jw dy<cLine;omega) (by show X.A.units+1<cLine;omega)
 .have e:(XM.toArray.any fun w=>decide (∃(j:Nat) (dj:D),XM[j]?=some w/\ds[j]?=some dj/\Yp dj d=true))=ds.any fun e=>Yp e d:=by
   rw[Bool.eq_iff_iff];simp only[List.any_toArray,XZ,decide_eq_true_eq];constructor
   .rintro⟨w,hw,j,dj,h1,h2,h3⟩;exact⟨dj,M0g h2,h3⟩
   .rintro⟨dj,hm,h3⟩;obtain⟨j,hj⟩:=List.getElem?_of_mem hm;have hl:=(Bz.mp hj).1;obtain⟨w,hw⟩:∃w,XM[j]?=some w:=⟨_,V0 (by omega)⟩;exact⟨w,M0g hw,j,dj,hw,hj,h3⟩
  rw[e];exact q
end
section
variable{X:Cx}{W:XWT}{k:Nat}{f C:Addr}{fd:FuncData}{m:Str}{ps:ZD}{sp:Sp}{o e:Expr}{es:ZC}{ta:TE}{t:TA}{p pos apos:Pos}
end
section
variable{X:Cx}
inductive Jv(K:W.Frag)(xs:ZQ)(H:Hp)(Q:VK):Prop
 | mk(p ys)(Y1:xs=[.ref p])(Y0:(Vi K H p ys\/Yu K H p ys))(V7:∀t H',Zd H H'->Yu K H' t ys->Q (.ref t) H'):Jv K xs H Q
theorem G6:Ye X (.type "tuple") (fun xs H Q=>Jv X.K xs H Q):=by
 intro XF s Z H xs us Q I rs h;obtain⟨p,ys,e,h,q⟩:=h;refine Wi XF s Z H xs us Q I rs ⟨p,ys,e, ?_⟩;rcases h with h | h
 .exact .inl ⟨h,fun l hl=>q l _ (Zd.lay hl) (Yu.of Zw)⟩
 .exact .inr ⟨h,q p H (Zd.refl H) h⟩
end
section
variable{X:Cx}{e:Expr}{te t1 t2:TE}{p2 p3 p4 pos:Pos}{j1:Nat}
end
section
variable{Z:Type}[DecidableEq Z]
noncomputable def Dh(XB:List (Z×V))(k:Z):Option V:=(XB.find? fun kv=>decide (kv.1=k)).map (·.2)
noncomputable def putK(XB:List (Z×V))(k:Z)(v:V):List (Z×V) :=
 if (XB.any fun kv=>decide (kv.1=k))=true then XB.map (fun kv=>if kv.1=k then (kv.1,v) else kv) else XB++[(k,v)]
noncomputable def Zjb(XB:List (Z×V))(k:Z):List (Z×V):=XB.filter fun kv=>decide (kv.1≠k)
theorem M4{p:Z×V}{r:List (Z×V)}{k:Z}(e:p.1=k):Dh (p::r) k=some p.2:=by simp[Dh,List.find?_cons,e]
theorem M5{p:Z×V}{r:List (Z×V)}{k:Z}(e:¬ p.1=k):Dh (p::r) k=Dh r k:=by simp[Dh,List.find?_cons,e]
theorem P2(k:Z):∀XB:List (Z×V),(XB.any fun kv=>decide (kv.1=k))=(Dh XB k).isSome
 | []=>rfl
 | p::r=>by
  rw[List.any_cons];by_cases e:p.1=k
  .simp only[M4 e,Mi e,Bool.true_or,Option.isSome_some]
  .rw[M5 e,Mp e,Bool.false_or];exact P2 k r
theorem Ul(XB:List (Z×V))(k:Z)(v:V):(putK XB k v).length<=XB.length+1:=by
 unfold putK
 split
 .rw[Z4];omega
 .rw[Gg,Gs,List.length_nil];omega
theorem B7.isSome_eq{o:Option V}{u:ZT}(r:B7 o u):o.isSome=u.isSome:=by
 cases o with
 | none=>cases u with
  | none=>rfl
  | some _=>exact(show False from r).elim
 | some _=>cases u with
  | none=>exact(show False from r).elim
  | some _=>rfl
theorem B7.getD{o:Option V}{u:ZT}{d:V}{d':Value}(r:B7 o u)(rd:RelV d d'):RelV (o.getD d) (u.getD d'):=by
 cases o with
 | none=>cases u with
  | none=>exact rd
  | some _=>exact(show False from r).elim
 | some _=>cases u with
  | none=>exact(show False from r).elim
  | some _=>exact r
theorem KV.val{XB:List (Z×V)}{vs:List (Z×Value)}(r:KV XB vs)(k:Z):B7 (Dh XB k) (valueAt vs k):=by
 unfold KV at r
 induction r with
 | nil=>exact True.intro
 | @cons p q ps qs h t ih =>
  obtain⟨h1,h2⟩:=h;by_cases e:p.1=k
  .have e':q.1=k:=h1.symm.trans e;have b:valueAt (q::qs) k=some q.2:=by simp[valueAt,List.find?_cons,e']
   rw[M4 e,b];exact h2
  .have e':¬ q.1=k:=fun z=>e (h1.trans z);have b:valueAt (q::qs) k=valueAt qs k:=by simp[valueAt,List.find?_cons,e']
   rw[M5 e,b];exact ih
theorem KV.any{XB:List (Z×V)}{vs:List (Z×Value)}(r:KV XB vs)(k:Z):(XB.any fun kv=>decide (kv.1=k))=vs.any fun kv=>decide (kv.1=k):=by
 unfold KV at r
 induction r with
 | nil=>rfl
 | cons h t ih=>rw[List.any_cons,List.any_cons,ih,h.1]
theorem KV.repl{XB:List (Z×V)}{vs:List (Z×Value)}(r:KV XB vs)(k:Z){y:V}{u:Value}(ry:RelV y u) :
  KV (XB.map fun kv=>if kv.1=k then (kv.1,y) else kv) (vs.map fun kv=>if kv.1=k then (kv.1,u) else kv):=by
 unfold KV at r ⊢
 induction r with
 | nil=>exact .nil
 | @cons p q ps qs h t ih =>
  rw[Gh,Gh];refine .cons ?_ ih;obtain⟨h1,h2⟩:=h;by_cases e:p.1=k
  .rw[if_pos e,if_pos (h1.symm.trans e)];exact⟨h1,ry⟩
  .rw[if_neg e,if_neg (fun z=>e (h1.trans z))];exact⟨h1,h2⟩
theorem KV.put{XB:List (Z×V)}{vs:List (Z×Value)}(r:KV XB vs)(k:Z){y:V}{u:Value}(ry:RelV y u):KV (putK XB k y) (stored vs k u):=by
 unfold putK stored;rw[r.any k];by_cases e:(vs.any fun kv=>decide (kv.1=k))=true
 .rw[if_pos e,if_pos e];exact r.repl k ry
 .rw[if_neg e,if_neg e];exact Paired.snoc r ⟨rfl,ry⟩
theorem KV.drop{XB:List (Z×V)}{vs:List (Z×Value)}(r:KV XB vs)(k:Z):KV (Zjb XB k) (without vs k):=by
 unfold KV at r ⊢;unfold Zjb without
 induction r with
 | nil=>exact .nil
 | @cons p q ps qs h t ih =>
  obtain⟨h1,h2⟩:=h;rw[List.filter_cons,List.filter_cons];by_cases e:p.1=k
  .have a:¬ decide (p.1≠k)=true:=by simp[e]
   have b:¬ decide (q.1≠k)=true:=by simp[h1.symm.trans e]
   rw[if_neg a,if_neg b];exact ih
  .have e':¬ q.1=k:=fun z=>e (h1.trans z);have a:decide (p.1≠k)=true:=by simp[e]
   have b:decide (q.1≠k)=true:=by simp[e']
   rw[if_pos a,if_pos b];exact .cons ⟨h1,h2⟩ ih
theorem KV.keys{XB:List (Z×V)}{vs:List (Z×Value)}(r:KV XB vs):XB.map (·.1)=vs.map (·.1):=by
 unfold KV at r
 induction r with
 | nil=>rfl
 | cons h t ih=>rw[Gh,Gh,ih,h.1]
theorem KV.length{XB:List (Z×V)}{vs:List (Z×Value)}(r:KV XB vs):XB.length=vs.length:=Paired.length r
end
theorem L0{P:Program}{w:World}{k:Key}{u:Value}(r:RelV (kV k) u):(Zg P w).is k u=true:=by
 cases k with
 | inl i=>obtain⟨t,e⟩:=(show ∃t,u=Value.int i t from r);subst e;exact O4 P w i t
 | inr x=>obtain⟨t,e⟩:=(show ∃t,u=Value.str x t from r);subst e;exact O3 P w x t
theorem L1{P:Program}{w:World}:∀{ks:List Key} {us:ZM},Zv (ks.map kV) us->ItemsAre (Zg P w) ks us
 | [],_,r=>by rw[List.map_nil]at r;cases r;exact .nil
 | k::ks,_,r=>by
  rw[Gh]at r;cases r with
  | cons h t=>exact .cons (L0 h) (L1 t)
abbrev KT(H:Hp):List (List Key×V)->List (List Key×Addr×Value)->Prop:=Paired fun p q=>p.1=q.1/\H q.2.1=some (.tup (p.1.map kV))/\RelV p.2 q.2.2
theorem KT.val{H:Hp}{XB:List (List Key×V)}{xs:List (List Key×Addr×Value)}(r:KT H XB xs)(k:List Key):B7 (Dh XB k) ((atKey xs k).map (·.2)):=by
 induction r with
 | nil=>exact True.intro
 | @cons p q ps qs h t ih =>
  obtain⟨h1,_,h2⟩:=h;by_cases e:p.1=k
  .have e':q.1=k:=h1.symm.trans e;have b:atKey (q::qs) k=some q.2:=by simp[atKey,List.find?_cons,e']
   rw[M4 e,b];exact h2
  .have e':¬ q.1=k:=fun z=>e (h1.trans z);have b:atKey (q::qs) k=atKey qs k:=by simp[atKey,List.find?_cons,e']
   rw[M5 e,b];exact ih
theorem KT.repl{H:Hp}{XB:List (List Key×V)}{xs:List (List Key×Addr×Value)}(r:KT H XB xs)(k:List Key){y:V}{u:Value}(ry:RelV y u) :
  KT H (XB.map fun kv=>if kv.1=k then (kv.1,y) else kv) (xs.map (putAt k u)):=by
 induction r with
 | nil=>exact .nil
 | @cons p q ps qs h t ih =>
  rw[Gh,Gh];refine .cons ?_ ih;obtain⟨h1,h2,h3⟩:=h;unfold putAt;by_cases e:p.1=k
  .rw[if_pos e,if_pos (h1.symm.trans e)];exact⟨h1,h2,ry⟩
  .rw[if_neg e,if_neg (fun z=>e (h1.trans z))];exact⟨h1,h2,h3⟩
theorem KT.put{H:Hp}{XB:List (List Key×V)}{xs:List (List Key×Addr×Value)}(r:KT H XB xs)(k:List Key){b:Addr}{y:V}{u:Value}(hb:H b=some (.tup (k.map kV)))(ry:RelV y u) :
  KT H (putK XB k y) (storedH xs k b u):=by
 have e:(XB.any fun kv=>decide (kv.1=k))=(atKey xs k).isSome:=by
  rw[P2,(r.val k).isSome_eq,Option.isSome_map]
 unfold putK storedH;rw[e];by_cases q:(atKey xs k).isSome=true
 .rw[if_pos q,if_pos q];exact r.repl k ry
 .rw[if_neg q,if_neg q];exact Paired.snoc r ⟨rfl,hb,ry⟩
theorem KT.keeps{H H':Hp}{XB:List (List Key×V)}{xs:List (List Key×Addr×Value)}(r:KT H XB xs)(ht:∀b ys,H b=some (.tup ys)->H' b=some (.tup ys)):KT H' XB xs :=
 Paired.mapP r fun _ _ z=>⟨z.1,ht _ _ z.2.1,z.2.2⟩
section
variable{P:Program}{w:World}{H:Hp}{h:Heap}{a:Addr}
theorem rd_of{u:HO}(ok:Mo P w H h)(e:Rd H a u):Zp P w H h a u:=e.ok ok
theorem Ni{XB:List (Key×V)}(ok:Mo P w H h)(e:Rd H a (.dK XB)):XB.length<=sizeLine/\(a == sysModules)=false/\∃vs,KV XB vs/\h.DictOf (Zg P w) a vs :=
 show Zp P w H h a (.dK XB) from rd_of ok e
theorem dk_of{XB:List (Key×V)}(ok:Mo P w H h)(e:H a=some (.dK XB)):XB.length<=sizeLine/\(a == sysModules)=false/\∃vs,KV XB vs/\h.DictOf (Zg P w) a vs:=Ni ok (.inl e)
theorem Rf{ks:List Key}(ok:Mo P w H h)(e:H a=some (.tup (ks.map kV))):(tupleKind (Zg P w)).is h ks a:=by
 obtain⟨_,XM,r,o,h1,h2,⟨n,h3⟩,_⟩:=(show Zp P w H h a (.tup (ks.map kV)) from ok a _ e);exact⟨o,XM.toArray,n,h1,h2,h3,by simpa using L1 r⟩
theorem S7{XB:List (List Key×V)}(ok:Mo P w H h)(e:Rd H a (.dT XB)):XB.length<=sizeLine/\(a == sysModules)=false /\
  ∃xs,KT H XB xs/\h.DictOfH (tupleKind (Zg P w)) a xs:=by
 obtain⟨z,y,xs,r,o,es,ep,h1,h2,h3,h4,h5⟩:=(show Zp P w H h a (.dT XB) from rd_of ok e);refine⟨z,y,xs,r,o,es,ep,h1,h2,h3,h4,fun x hx=>?_,h5⟩
 have all:∀{l:List (List Key×V)} {m:List (List Key×Addr×Value)},KT H l m->∀x∈m,(tupleKind (Zg P w)).is h x.1 x.2.1:=by
  intro l m q
  induction q with
  | nil=>intro x hx;exact nomatch hx
  | @cons p q ps qs hq t ih =>
   intro x hx;rcases Y3.mp hx with e | hx
   .subst e;exact Rf ok (by rw[<-hq.1];exact hq.2.1)
   .exact ih x hx
 exact all r x hx
theorem dt_of{XB:List (List Key×V)}(ok:Mo P w H h)(e:H a=some (.dT XB)):XB.length<=sizeLine/\(a == sysModules)=false /\
  ∃xs,KT H XB xs/\h.DictOfH (tupleKind (Zg P w)) a xs:=S7 ok (.inl e)
end
def W7(H:Hp)(a:Addr)(y:V)(r:Option V):Prop :=
 (∃XB k,Rd H a (.dK XB)/\y=kV k/\r=Dh XB k)\/∃XB k b,Rd H a (.dT XB)/\y=.ref b/\H b=some (.tup (k.map kV))/\r=Dh XB k
def Al(H:Hp)(a:Addr)(y v:V)(H':Hp):Prop :=
 (∃XB k,H a=some (.dK XB)/\y=kV k/\XB.length<sizeLine/\H'=upd H a (.dK (putK XB k v))) \/
 ∃XB k b,H a=some (.dT XB)/\y=.ref b/\H b=some (.tup (k.map kV))/\XB.length<sizeLine/\H'=upd H a (.dT (putK XB k v))
theorem W7.k{H:Hp}{a:Addr}{XB:List (Key×V)}{k:Key}(e:H a=some (.dK XB)):W7 H a (kV k) (Dh XB k):=.inl ⟨XB,k,.inl e,rfl,rfl⟩
theorem W7.t{H:Hp}{a b:Addr}{XB:List (List Key×V)}{k:List Key}(e:H a=some (.dT XB))(eb:H b=some (.tup (k.map kV))):W7 H a (.ref b) (Dh XB k):=.inr ⟨XB,k,b,.inl e,rfl,eb,rfl⟩
theorem Al.k{H:Hp}{a:Addr}{XB:List (Key×V)}{k:Key}{v:V}(e:H a=some (.dK XB))(hl:XB.length<sizeLine):Al H a (kV k) v (upd H a (.dK (putK XB k v))):=.inl ⟨XB,k,e,rfl,hl,rfl⟩
theorem Al.t{H:Hp}{a b:Addr}{XB:List (List Key×V)}{k:List Key}{v:V}(e:H a=some (.dT XB))(eb:H b=some (.tup (k.map kV)))(hl:XB.length<sizeLine) :
  Al H a (.ref b) v (upd H a (.dT (putK XB k v))):=.inr ⟨XB,k,b,e,rfl,eb,hl,rfl⟩
section
variable{X:Cx}{XF:ZY}{Z:St}{H:Hp}{s:Shared}{a:Addr}{y v:V}{u r:Value}{o:Option V}{A:Around}{E:ZW}
theorem Inv.big(I:Inv X XF Z H s):sysModules<s.heap.objs.size:=by
 have h:mainGlobals<s.heap.objs.size:=(I.mod.glob.keeps I.bk).lt;exact Nat.lt_trans (by decide) h
theorem jn{Q:ZW}(hu:A.units+1<cLine)(I:Inv X XF Z H s)(g:W7 H a y (some v))(ry:RelV y u)(h:∀w' s',Inv X XF Z H s'->RelV v w'->Q w' s') :
  wpAny (model X.prog X.w) A (getItem (.ref a) u) Q E s:=by
 rcases g with ⟨XB,k,e,ey,l⟩ | ⟨XB,k,b,e,ey,eb,l⟩
 .subst ey;obtain⟨z,hd,vs,rel,dd⟩:=Ni I.hok e;obtain⟨w',hw,Kh⟩:=B7.some_of (v:=v) (o:=valueAt vs k) (by rw[l];exact rel.val k);exact wpAny_getItem_of (L0 ry) dd.mapOf hw (h w' _ (I.tok _) Kh)
 .subst ey;cases(show u=Value.ref b from ry);obtain⟨z,hd,xs,rel,dd⟩:=S7 I.hok e;obtain⟨w',hw,Kh⟩:=B7.some_of (v:=v) (o:=(atKey xs k).map (·.2)) (by rw[l];exact rel.val k);obtain⟨p,hp,hp2⟩:=Yj.mp hw;refine wpAny_getItem_heap (tupleKind_room_in1 hu) (Rf I.hok eb) dd hp ?_;rw[hp2];exact h w' _ (I.tok _) Kh
theorem d_in{Q:ZW}(hu:A.units+1<cLine)(I:Inv X XF Z H s)(g:W7 H a y o)(ry:RelV y u)(h:∀s',Inv X XF Z H s'->Q (.bool o.isSome) s') :
  wpAny (model X.prog X.w) A (compareOp .In u (.ref a)) Q E s:=by
 rcases g with ⟨XB,k,e,ey,l⟩ | ⟨XB,k,b,e,ey,eb,l⟩
 .subst ey;obtain⟨z,hd,vs,rel,dd⟩:=Ni I.hok e;refine wpAny_in_of (L0 ry) hd dd.mapOf ?_;rw[<-(rel.val k).isSome_eq, <-l];exact h _ (I.tok _)
 .subst ey;cases(show u=Value.ref b from ry);obtain⟨z,hd,xs,rel,dd⟩:=S7 I.hok e;refine wpAny_in_heap (tupleKind_room_in1 hu) (Rf I.hok eb) hd dd ?_;have q:=(rel.val k).isSome_eq;rw[Option.isSome_map]at q;rw[<-q, <-l];exact h _ (I.tok _)
theorem Zqv{Q:ZW}(hu:A.units+1<cLine)(I:Inv X XF Z H s)(g:W7 H a y o)(ry:RelV y u)(h:∀s',Inv X XF Z H s'->Q (.bool (!o.isSome)) s') :
  wpAny (model X.prog X.w) A (compareOp .NotIn u (.ref a)) Q E s:=by
 rcases g with ⟨XB,k,e,ey,l⟩ | ⟨XB,k,b,e,ey,eb,l⟩
 .subst ey;obtain⟨z,hd,vs,rel,dd⟩:=Ni I.hok e;refine wpAny_notIn_of (L0 ry) hd dd.mapOf ?_;rw[<-(rel.val k).isSome_eq, <-l];exact h _ (I.tok _)
 .subst ey;cases(show u=Value.ref b from ry);obtain⟨z,hd,xs,rel,dd⟩:=S7 I.hok e;refine wpAny_notIn_heap (tupleKind_room_in1 hu) (Rf I.hok eb) hd dd ?_;have q:=(rel.val k).isSome_eq;rw[Option.isSome_map]at q;rw[<-q, <-l];exact h _ (I.tok _)
theorem zj{h':Heap}{t':Nat}{ob:HO}(I:Inv X XF Z H s)(mu:Mut (H a))(hs:Heap.SameBut a s.heap h')(he:∃q,h'.get? a=some q)(new:Zp X.prog X.w (upd H a ob) h' a ob) :
  Inv X XF Z (upd H a ob) { s with heap:=h',toks:=t' } :=
 I.write (x:=a) (e:=a) mu (.inl rfl) (fun b q hb z=>(hs.2 b hb).trans z) he new
theorem Hc{P:Program}{w:World}{H':Hp}{h':Heap}{XB:List (Key×V)}{vs:List (Key×Value)}(z:XB.length<=sizeLine)(hd:(a == sysModules)=false)(rel:KV XB vs)(dd:h'.DictOf (Zg P w) a vs) :
  Zp P w H' h' a (.dK XB):=⟨z,hd,vs,rel,dd⟩
theorem jc{H':Hp}{Q:ZA}(hu:A.units+1<cLine)(I:Inv X XF Z H s)(g:Al H a y v H')(ry:RelV y u)(rv:RelV v r)(h:∀s',Inv X XF Z H' s'->Q () s') :
  wpAny (model X.prog X.w) A (setItem (.ref a) u r) Q E s:=by
 rcases g with ⟨XB,k,e,ey,l,eH⟩ | ⟨XB,k,b,e,ey,eb,l,eH⟩
 .subst ey eH;obtain⟨z,hd,vs,rel,dd⟩:=dk_of I.hok e;have hz:vs.length<=sizeLine:=by rw[<-rel.length];exact z
  have hl:(putK XB k v).length<=sizeLine:=by have:=Ul XB k v;omega
  refine wpAny_setItem_pairs (hsz:=hz) (L0 ry) dd fun h' dd' hs=>h _ ?_;have he:∃q,h'.get? a=some q:=let ⟨q,_,_,hq,_⟩:=dd';⟨q,hq⟩;exact zj I (by rw[e];exact True.intro) hs he (Hc hl hd (rel.put k rv) dd')
 .subst ey eH;cases(show u=Value.ref b from ry);obtain⟨z,hd,xs,rel,dd⟩:=dt_of I.hok e;have hz:xs.length<=sizeLine:=by rw[<-Paired.length rel];exact z
  have hl:(putK XB k v).length<=sizeLine:=by have:=Ul XB k v;omega
  refine wpAny_setItem_heap (hsz:=hz) (tupleKind_room_in1 hu) (Rf I.hok eb) dd fun h' dd' hs=>h _ ?_;obtain⟨q,es,ep,hq,h2,h3,h4,_,h5⟩:=dd';refine zj I (by rw[e];exact True.intro) hs ⟨q,hq⟩ ⟨hl,hd,_,(rel.put k eb rv).keeps fun c ys ec=>?_,q,es,ep,hq,h2,h3,h4,h5⟩;rw[Zz (ne_of ec e (fun z=>nomatch z))];exact ec
end
section
variable{X:Cx}{XF:ZY}{Z:St}{H:Hp}{s:Shared}{a:Addr}{XB:List (Key×V)}{k:Key}{u:Value}{A:Around}{E:ZW}
theorem d_len{Q:ZW}(I:Inv X XF Z H s)(e:Rd H a (.dK XB))(h:∀t s',Inv X XF Z H s'->Q (.int XB.length t) s'):wpAny (model X.prog X.w) A (call (.builtin "len") [.ref a]) Q E s:=by
 obtain⟨z,hd,vs,rel,dd⟩:=Ni I.hok e;refine call_len_dict hd dd (by rw[<-rel.length];rw[sizeLine_eq]at z;omega) ?_;rw[<-rel.length];exact h _ _ (I.tok _)
end
theorem S8{X:Cx}{XF:ZY}{Z:St}{H:Hp}{s:Shared}{a:Addr}{y:V}{o:Option V}(I:Inv X XF Z H s)(g:W7 H a y o):s.TypeIs (.ref a) "dict" := by
 rcases g with ⟨XB,k,e,_,_⟩ | ⟨XB,k,b,e,_,_,_⟩
 .obtain⟨_,_,vs,_,dd⟩:=Ni I.hok e;exact dd.typeIs
 .obtain⟨_,_,xs,_,dd⟩:=S7 I.hok e;exact dd.typeIs
inductive Il(D:Ends)(Z:St)(v:V)(x:V)(y:V)(H3:Hp):Prop
 | mk(a H4)(Y1:x=.ref a)(Y0:Al H3 a y v H4)(V7:D.nx Z H4):Il D Z v x y H3
def sDPut(td ty tv:TE):TS:=fun D Z H=>tv Z H fun v H1=>td Z H1 fun x H2=>ty Z H2 fun y H3=>Il D Z v x y H3
section
variable{X:Cx}{o i e value:Expr}{pos pos' tpos:Pos}{td ty tv:TE}
theorem Zzz(hu:X.A.units+1<cLine)(ho:PE X o td)(hi:PE X i ty)(hv:PE X value tv)(hs:swapsWith value (some (.Subscript o i pos')) pos.line X.env=pure false) :
  PS X (.Assign [.Subscript o i pos'] value pos) (sDPut td ty tv):=by
 intro XF s Z H D I h;refine wpAny_Assign_Subscript (Z9 (hv XF s Z H _ I h) fun r s1 ⟨v,H1,I1,rv,q1⟩=>Z9 (ho XF s1 Z H1 _ I1 q1) fun u s2 ⟨x,H2,I2,rx,q2⟩=>Z9 (hi XF s2 Z H2 _ I2 q2) fun iv s3 ⟨y,H3,I3,ry,a,H4,ex,g,q3⟩=>?_) hs;subst ex;obtain rfl:u=Value.ref a:=rx;exact jc hu I3 g ry rv fun s4 I4=>⟨Z,H4,I4,q3⟩
end
theorem la{P:Program}{w:World}{H:Hp}(h:Heap)(hb:sysModules<h.objs.size):Zp P w H (h.push { cls:=.type "dict",data:=.dict #[] }) h.objs.size (.dK []) :=
 ⟨Ma _,B0n.mpr (Ne.symm (Gk hb)),[],.nil,Heap.DictOf.new h⟩
def tDNewK:TE:=fun _ H Q=>∀p,H p=none->Q (.ref p) (upd H p (.dK []))
section
variable{X:Cx}{pos:Pos}
theorem bo:PE X (.Dict [] [] pos) tDNewK:=fun XF s Z H Q I h =>
 wpAny_Dict_empty ⟨.ref s.heap.objs.size,_,I.laid (a:=s.heap.objs.size) (o:=.dK []) (t':=s.toks) (fun _ _ q=>Yr _ q) (Z5 _) (la s.heap I.big),rfl,h _ (I.hok.fresh (Z5 _))⟩
end
section
variable{X:Cx}{XF:ZY}{Z:St}{H:Hp}{s:Shared}{a:Addr}{y d:V}{u r:Value}{o:Option V}{A:Around}{E:ZW}
end
section
variable{X:Cx}{o e f:Expr}{apos cpos:Pos}{td ty tx:TE}
end
section
variable{X:Cx}{XF:ZY}{Z:St}{H:Hp}{s:Shared}{a:Addr}{XB:List (Key×V)}{A:Around}{E:ZW}
theorem rz{Q:ZW}(I:Inv X XF Z H s)(e:Rd H a (.dK XB))(h:∀p s',H p=none->Inv X XF Z (upd H p (.dK XB)) s'->Q (.ref p) s'):wpAny (model X.prog X.w) A (call (.type "dict") [.ref a]) Q E s:=by
 obtain⟨z,hd,vs,rel,dd⟩:=Ni I.hok e;refine kt_call_dict hd dd (by rw[<-rel.length];exact z) fun h' dd' hs=>?_;refine h _ _ (I.hok.fresh (Z5 _)) (I.laid (a:=s.heap.objs.size) (o:=.dK XB) (t':=s.toks) (fun b q hq=>?_) (Z5 _) (Hc z (B0n.mpr (Ne.symm (Gk I.big))) rel dd'));exact(hs.2 b (Gk (Y7 hq))).trans (Yr _ hq)
end
section
variable{X:Cx}{XF:ZY}{Z:St}{H:Hp}{s:Shared}{a:Addr}{y:V}{u:Value}{A:Around}{E:ZW}
end
section
variable{X:Cx}
end
section
variable{Z:Type}[DecidableEq Z]
end
section
variable{X:Cx}{XF:ZY}{Z:St}{H:Hp}{s:Shared}
theorem Inv.freeze{d:Addr}{XB:List (Key×V)}(I:Inv X XF Z H s)(e:H d=some (.dK XB)):∃o,s.heap.get? d=some o/\Inv X XF Z (upd H d (.frz o (.dK XB))) s:=by
 obtain⟨z,y,vs,r,o,es,ep,ho,c⟩:=(show Zp X.prog X.w H s.heap d (.dK XB) from I.hok d _ e)
 have ne:∀{b:Addr} {u:HO},H b=some u->(∀k,u≠.dK k)->b≠d:=fun h n z=>by
  rw[z,e]at h;cases h;exact n _ rfl
 refine⟨o,ho, ?_⟩;refine I.step (g':=s.gens) (d':=s.drawn) (t':=s.toks) (h':=s.heap) (ch:=[]) (fun _ z=>nomatch z) (fun _ _ _ _ _ h _=>h) (fun _ o _ _ _ h _=>⟨o.slots,h⟩) (fun b _ _ _ n=>?_) (fun _ o _ h=>⟨o,h⟩) (fun b xs h=>?_) (fun b o u h=>?_) (fun b ps h=>⟨#[], ?_⟩) (fun _ h=>h) (fun b u h=>?_) I.bare
 .rw[Zz (fun z=>by rw[z,e]at n;cases n)];exact n
 .rw[Zz (ne h fun _ z=>nomatch z)];exact h
 .rw[Zz (ne h fun _ z=>nomatch z)];exact h
 .rw[Zz (ne h fun _ z=>nomatch z),h];simp
 .by_cases q:b=d
  .subst q;rw[Zw]at h;cases h;exact⟨ho,z,y,vs,r,o,es,ep,ho,c⟩
  .rw[Zz q]at h;refine(I.hok b u h).stay (fun c v hc q=>q) (fun c q=>?_) fun c xs q=>?_
   .rw[Zz (ne q fun _ z=>nomatch z)];exact q
   .rw[Zz (ne q fun _ z=>nomatch z)];exact q
noncomputable def Itd(d:Addr)(o:Obj)(XB:List (Key×V)):It :=
 ⟨fun i H=>i<XB.length/\H d=some (.frz o (.dK XB)),fun i H v H'=>H'=H/\∃k x,XB[i]?=some (k,x)/\v=kV k,fun i H=>XB.length<=i/\H d=some (.frz o (.dK XB))⟩
theorem at_of{d:Addr}{o:Obj}{XB:List (Key×V)}(I:Inv X XF Z H s)(e:H d=some (.frz o (.dK XB))):∃vs es ep,(d == sysModules)=false/\KV XB vs/\o.data=.dict es ep/\s.heap.DictAt (Zg X.prog X.w) d vs ep:=by
 obtain⟨ho,z,y,vs,r,o',es,ep,Wn,c⟩:=(show Zp X.prog X.w H s.heap d (.frz o (.dK XB)) from I.hok d _ e);rw[ho]at Wn;cases Wn;exact⟨vs,es,ep,y,r,c.2.1,o,es,ho,c⟩
theorem KV.at{Z:Type}:∀{XB:List (Z×V)} {vs:List (Z×Value)} {i:Nat} {k:Z} {x:V},KV XB vs->XB[i]?=some (k,x)->∃v,vs[i]?=some (k,v)
 | [],_,i,k,x,_,e=>by simp at e
 | a::XB,_,0,k,x,.cons h t,e=>by
  rename_i b bs
  simp at e;subst e;exact⟨b.2,by rw[show k=b.1 from h.1];rfl⟩
 | a::XB,_,i+1,k,x,.cons h t,e=>by
  obtain⟨v,e'⟩:=KV.at (i:=i) t (by simpa using e);exact⟨v,by simpa using e'⟩
theorem kV_rel{P:Program}{w:World}{k:Key}{u:Value}(h:(Zg P w).is k u=true):RelV (kV k) u:=by
 rcases Zb (show G4 k u=true from h) with ⟨j,t,rfl,rfl⟩ | ⟨x,t,rfl,rfl⟩
 .exact⟨t,rfl⟩
 .exact⟨t,rfl⟩
theorem z9{P:Program}{w:World}{K:W.Frag}{tg:Expr}(d it:Addr)(o:Obj)(XB:List (Key×V))(es:Array DictEntry)(ep:Nat)(ho:o.data=.dict es ep) :
  Turn P w K tg (Itd d o XB) [it] it (fun i h=>h.IsKeyIter it d i XB.length ep) where
 mem:=by simp
 obj:=fun i h st b hb=>by
  have e:b=it:=by simpa using hb
  subst e;obtain⟨o,e,c,d⟩:=st;exact⟨o,e,fun v z=>by rw[d]at z;cases z⟩
 keep:=fun i h h' st k=>by
  obtain⟨o,e,c,d⟩:=st;exact⟨o,k it (by simp) o e,c,d⟩
 item:=by
  intro X hP hw hK hc i XF s Z H E I hf st hg;subst hP hw hK;obtain⟨hi,hd⟩:=hg;obtain⟨vs,Hm,ep',y,r,e',m⟩:=at_of I hd;rw[ho]at e';cases e';obtain⟨f0,f1,f2,f3,f4,f5⟩:=hf it (by simp);obtain⟨v,hv⟩:=KV.at (i:=i) (k:=XB[i].1) (x:=XB[i].2) r (V0 hi);have ln:=r.length;refine wpAny_pyNext_dict_item (by rw[<-ln];exact st) m hv fun key h' hk E2 sb=>?_;have I1:Inv X XF Z H { s with heap:=h' }:=I.turned (t':=s.toks) (fun b o hb e=>(sb.2 b hb).trans e) f0 f1 f3 f4 f5;obtain⟨oo,e,c,dd⟩:=id E2;exact⟨key,rfl,Sm (s:={ s with heap:=h' }) e c dd (by decide) ⟨kV XB[i].1,H,I1,kV_rel hk,⟨rfl,_,_,V0 hi,rfl⟩,by rw[ln];exact E2,fun b hb=>(hf b hb).1⟩⟩
 done:=by
  intro X hP hw hK hc i XF s Z H E I hf st hg;subst hP hw hK;obtain⟨hi,hd⟩:=hg;obtain⟨vs,Hm,ep',y,r,e',m⟩:=at_of I hd;rw[ho]at e';cases e';obtain⟨f0,f1,f2,f3,f4,f5⟩:=hf it (by simp);have ln:=r.length;exact wpAny_pyNext_dict_end (I.ok.hd hc) (by rw[<-ln];exact st) m (List.getElem?_eq_none (by omega)) fun h' eb=>⟨rfl,I.turned (t':=s.toks) (fun b o hb e=>eb b o hb e) f0 f1 f3 f4 f5⟩
 self:=fun _ _ _ _ _ st h=>wpAny_pyIter_keyiter st h
inductive Mw(xs:ZQ)(H:Hp)(Q:VK):Prop
 | mk(a:Addr)(XB:List (Key×V))(Y1:xs=[.ref a])(Y0:Rd H a (.dK XB))(V7:∀p,H p=none->Q (.ref p) (upd H p (.dK XB))):Mw xs H Q
theorem Eg:Ye X (.type "dict") (fun xs H Q=>Mw xs H Q):=by
 intro XF s Z H xs us Q I r h;obtain⟨a,XB,rfl,e,q⟩:=h;obtain⟨u,rfl,rx⟩:=vals1 r;cases rx;exact rz I e fun p s' hp I'=>⟨.ref p,_,I',rfl,q p hp⟩
end
noncomputable def cellOf(H:Hp)(l:Addr):Option V:=match H l with
 | some (.lst (x::_))=>some x
 | _=>none
end L2
namespace ZipT
open PySem
theorem Uy{h h':Heap}{b i t:Addr}{k:Nat}(st:h.IsTupleIter i t k)(e:Heap.ExtBut b h h')(n:i≠b):h'.IsTupleIter i t k:=let ⟨o,ho,r⟩:=st;⟨o,e _ _ n ho,r⟩
theorem tupK{h h':Heap}{b t:Addr}{xs:ZN}(st:h.IsTuple t xs)(e:Heap.ExtBut b h h')(n:t≠b):h'.IsTuple t xs:=let ⟨o,ho,r⟩:=st;⟨o,e _ _ n ho,r⟩
section
variable{prog:Program}{w:World}{A:Around}{E:ZW}{s:Shared}{z TI TO i1 i2 t1 t2:Addr}{k:Nat}{xs ys:ZN}{x y a b:Value}
theorem itemT{Q:ZW}(D:ZipApart z TI TO i1 i2 t1 t2)(hz:IsZip s.heap z TI TO .none)(hI:IsPair s.heap TI (.ref i1) (.ref i2))(hO:IsPair s.heap TO a b)(j1:s.heap.IsTupleIter i1 t1 k)(j2:s.heap.IsTupleIter i2 t2 k)(p1:s.heap.IsTuple t1 xs)(p2:s.heap.IsTuple t2 ys)(hx:xs[k]?=some x)(hy:ys[k]?=some y)
  (q:∀h',IsZip h' z TI TO (rawInt s.heap.objs.size)->IsPair h' TO x y->h'.IsTupleIter i1 t1 (k+1)->h'.IsTupleIter i2 t2 (k+1)->IsPair h' s.heap.objs.size x y->h'.objs.size=s.heap.objs.size+1->(∀c o,c≠z->c≠TO->c≠i1->c≠i2->s.heap.get? c=some o->h'.get? c=some o)->Q (.ref s.heap.objs.size) { s with heap:=h' }) :
  wpAny (model prog w) A (Builtin.«zip.__next__» ⟨[.ref z],[]⟩) (fun fin s'=>∃v,fin=.done (.ret v)/\Q v s') E s:=by
 show wpAny _ _ (field (.ref z) 2 >>= _) _ _ _;refine Zx (wpAny_field hz rfl (x:=.bool false) rfl ?_);show wpAny _ _ (field (.ref z) 3 >>= _) _ _ _;refine Zx (wpAny_field hz rfl (x:=.ref TI) rfl (Zx (wpAny_seqItems hI rfl ?_)));show wpAny _ _ (Builtin.SmallTypes.ownedTupleIsFree (.ref z) >>= _) _ _ _;refine Zx ?_;unfold Builtin.SmallTypes.ownedTupleIsFree;refine Zx (wpAny_field hz rfl (x:=.none) rfl (Zf ?_));simp only[if_true];refine Zx (wpAny_rule (Zx (wpAny_field hz rfl (x:=.ref TO) rfl ?_)));refine Zx (wpAny_setField_rec hz (by simp) fun g1 wj e1=>?_);replace wj:IsZip g1 z TI TO .ellipsis:=wj;refine Zx ?_;simp only[List.zipIdx_cons,List.zipIdx_nil,List.forIn_cons,List.forIn_nil];refine Zx (Zx (wpAny_onRaise ?_));show wpAny _ _ (Builtin.SmallTypes.nextOf (.ref i1) >>= _) _ _ _;refine Zx (EnuT.nextT (Uy j1 e1.extBut D.i1z) (tupK p1 e1.extBut D.l1z) hx fun g2 j12 e2=>Zf ?_);have hO2:IsPair g2 TO a b:=e2.extBut _ _ D.TOi1 (e1.extBut _ _ D.TOz hO);refine Zx (wpAny_seqItems hO2 rfl (Zx (wpAny_updateSeq_pair hO2 fun g3 hO3 e3=>?_)));replace hO3:IsPair g3 TO x b:=hO3;refine Zx (wpAny_letGo (Zf (Zx (Zx (wpAny_onRaise ?_)))));show wpAny _ _ (Builtin.SmallTypes.nextOf (.ref i2) >>= _) _ _ _;refine Zx (EnuT.nextT (Uy (Uy (Uy j2 e1.extBut D.i2z) e2.extBut D.i12.symm) e3.extBut D.TOi2.symm) (tupK (tupK (tupK p2 e1.extBut D.l2z) e2.extBut D.l2i1) e3.extBut D.l2TO) hy fun g4 j24 e4=>Zf ?_);have hO4:IsPair g4 TO x b:=e4.extBut _ _ D.TOi2 hO3;refine Zx (wpAny_seqItems hO4 rfl (Zx (wpAny_updateSeq_pair hO4 fun g5 hO5 e5=>?_)));replace hO5:IsPair g5 TO x y:=hO5;refine Zx (wpAny_letGo (Zf (Zf (Zx (wpAny_seqItems hO5 rfl (Zx (wpAny_newTuple ?_)))))));have sz:g5.objs.size=s.heap.objs.size:=by rw[e5.1,e4.1,e3.1,e2.1,e1.1]
 have hz5:IsZip g5 z TI TO .ellipsis:=e5.extBut _ _ D.TOz.symm (e4.extBut _ _ D.i2z.symm (e3.extBut _ _ D.TOz.symm (e2.extBut _ _ D.i1z.symm wj)));have kp:∀c o,c≠z->c≠TO->c≠i1->c≠i2->s.heap.get? c=some o->g5.get? c=some o:=fun c o c1 c2 c3 c4 e=>e5.extBut _ _ c2 (e4.extBut _ _ c4 (e3.extBut _ _ c2 (e2.extBut _ _ c3 (e1.extBut _ _ c1 e))));have j15:g5.IsTupleIter i1 t1 (k+1):=Uy (Uy (Uy j12 e3.extBut D.TOi1.symm) e4.extBut D.i12) e5.extBut D.TOi1.symm;have j25:g5.IsTupleIter i2 t2 (k+1):=Uy j24 e5.extBut D.TOi2.symm;have zl:z<g5.objs.size:=Y7 hz5;show wpAny _ _ (Builtin.SmallTypes.ownedTupleHandOut (.ref z) (.ref g5.objs.size) >>= _) _ _ _;refine Zx ?_;unfold Builtin.SmallTypes.ownedTupleHandOut;have hz6:IsZip (g5.push { cls:=.type "tuple",data:=.seq #[x,y] }) z TI TO .ellipsis:=Yr _ hz5;refine Zx (wpAny_setField_rec hz6 (by simp) fun g7 hz7 e7=>?_);replace hz7:IsZip g7 z TI TO (rawInt g5.objs.size):=hz7;refine wpAny_setField_rec hz7 (by simp) fun g8 hz8 e8=>?_;replace hz8:IsZip g8 z TI TO (rawInt g5.objs.size):=hz8;have up:∀c o,c≠z->g5.get? c=some o->g8.get? c=some o:=fun c o c1 e=>e8.extBut _ _ c1 (e7.extBut _ _ c1 (Yr _ e));have hT8:IsPair g8 g5.objs.size x y:=e8.extBut _ _ (Nat.ne_of_gt zl) (e7.extBut _ _ (Nat.ne_of_gt zl) (U1 _ rfl));have sz8:g8.objs.size=g5.objs.size+1:=by rw[e8.1,e7.1,Heap.size_push]
 rw[sz]at hz8 hT8 sz8;refine Zf ⟨_,rfl, ?_⟩;show Q (.ref g5.objs.size) _;rw[sz];exact q g8 hz8 (up _ _ D.TOz hO5) (let ⟨o,ho,r⟩:=j15;⟨o,up _ _ D.i1z ho,r⟩) (let ⟨o,ho,r⟩:=j25;⟨o,up _ _ D.i2z ho,r⟩) hT8 sz8 fun c o c1 c2 c3 c4 e=>up c o c1 (kp c o c1 c2 c3 c4 e)
theorem endT{Q:Fin->Shared->Prop}(hh:A.handled=none)(D:ZipApart z TI TO i1 i2 t1 t2)(hz:IsZip s.heap z TI TO .none)(hI:IsPair s.heap TI (.ref i1) (.ref i2))(hO:IsPair s.heap TO a b)(j1:s.heap.IsTupleIter i1 t1 k)(j2:s.heap.IsTupleIter i2 t2 k)(p1:s.heap.IsTuple t1 xs)(p2:s.heap.IsTuple t2 ys)(c9:xs[k]?=none\/ys[k]?=none)
  (q:∀h' e,(∀c o,c≠z->c≠TO->c≠i1->c≠i2->s.heap.get? c=some o->h'.get? c=some o)->(∃o,h'.get? e=some o/\o.cls=.type "StopIteration")->E (.ref e) { s with heap:=h' }) :
  wpAny (model prog w) A (Builtin.«zip.__next__» ⟨[.ref z],[]⟩) Q E s:=by
 show wpAny _ _ (field (.ref z) 2 >>= _) _ _ _;refine Zx (wpAny_field hz rfl (x:=.bool false) rfl ?_);show wpAny _ _ (field (.ref z) 3 >>= _) _ _ _;refine Zx (wpAny_field hz rfl (x:=.ref TI) rfl (Zx (wpAny_seqItems hI rfl ?_)));show wpAny _ _ (Builtin.SmallTypes.ownedTupleIsFree (.ref z) >>= _) _ _ _;refine Zx ?_;unfold Builtin.SmallTypes.ownedTupleIsFree;refine Zx (wpAny_field hz rfl (x:=.none) rfl (Zf ?_));simp only[if_true];refine Zx (wpAny_rule (Zx (wpAny_field hz rfl (x:=.ref TO) rfl ?_)));refine Zx (wpAny_setField_rec hz (by simp) fun g1 wj e1=>?_);replace wj:IsZip g1 z TI TO .ellipsis:=wj;refine Zx ?_;simp only[List.zipIdx_cons,List.zipIdx_nil,List.forIn_cons,List.forIn_nil];refine Zx (Zx (wpAny_onRaise ?_));show wpAny _ _ (Builtin.SmallTypes.nextOf (.ref i1) >>= _) _ _ _;cases hx:xs[k]? with
 | none =>
  refine Zx (EnuT.endT hh (Uy j1 e1.extBut D.i1z) (tupK p1 e1.extBut D.l1z) hx fun g2 e e2 he=>?_);obtain⟨oe,hoe,hce⟩:=he;have hz2:IsZip g2 z TI TO .ellipsis:=e2 _ _ D.i1z.symm wj;have ez:e≠z:=fun v=>by subst v;rw[hz2]at hoe;cases hoe;simp at hce
  exact wpAny_setField_rec hz2 (by simp) fun g3 _ e3=>q g3 e (fun c o c1 _ c3 _ v=>e3.extBut _ _ c1 (e2 _ _ c3 (e1.extBut _ _ c1 v))) ⟨oe,e3.extBut _ _ ez hoe,hce⟩
 | some x =>
  have hy:ys[k]?=none:=by rcases c9 with h | h;rw[hx]at h;cases h;exact h
  refine Zx (EnuT.nextT (Uy j1 e1.extBut D.i1z) (tupK p1 e1.extBut D.l1z) hx fun g2 j12 e2=>Zf ?_);have hO2:IsPair g2 TO a b:=e2.extBut _ _ D.TOi1 (e1.extBut _ _ D.TOz hO);refine Zx (wpAny_seqItems hO2 rfl (Zx (wpAny_updateSeq_pair hO2 fun g3 hO3 e3=>?_)));refine Zx (wpAny_letGo (Zf (Zx (Zx (wpAny_onRaise ?_)))));show wpAny _ _ (Builtin.SmallTypes.nextOf (.ref i2) >>= _) _ _ _;refine Zx (EnuT.endT hh (Uy (Uy (Uy j2 e1.extBut D.i2z) e2.extBut D.i12.symm) e3.extBut D.TOi2.symm) (tupK (tupK (tupK p2 e1.extBut D.l2z) e2.extBut D.l2i1) e3.extBut D.l2TO) hy fun g4 e e4 he=>?_);obtain⟨oe,hoe,hce⟩:=he;have hz4:IsZip g4 z TI TO .ellipsis:=e4 _ _ D.i2z.symm (e3.extBut _ _ D.TOz.symm (e2.extBut _ _ D.i1z.symm wj));have ez:e≠z:=fun v=>by subst v;rw[hz4]at hoe;cases hoe;simp at hce
  exact wpAny_setField_rec hz4 (by simp) fun g5 _ e5=>q g5 e (fun c o c1 c2 c3 c4 v=>e5.extBut _ _ c1 (e4 _ _ c4 (e3.extBut _ _ c2 (e2.extBut _ _ c3 (e1.extBut _ _ c1 v))))) ⟨oe,e5.extBut _ _ ez hoe,hce⟩
theorem du{Q:ZT->Shared->Prop}(D:ZipApart z TI TO i1 i2 t1 t2)(hz:IsZip s.heap z TI TO .none)(hI:IsPair s.heap TI (.ref i1) (.ref i2))(hO:IsPair s.heap TO a b)(j1:s.heap.IsTupleIter i1 t1 k)(j2:s.heap.IsTupleIter i2 t2 k)(p1:s.heap.IsTuple t1 xs)(p2:s.heap.IsTuple t2 ys)(hx:xs[k]?=some x)(hy:ys[k]?=some y)
  (q:∀h',IsZip h' z TI TO (rawInt s.heap.objs.size)->IsPair h' TO x y->h'.IsTupleIter i1 t1 (k+1)->h'.IsTupleIter i2 t2 (k+1)->IsPair h' s.heap.objs.size x y->h'.objs.size=s.heap.objs.size+1->(∀c o,c≠z->c≠TO->c≠i1->c≠i2->s.heap.get? c=some o->h'.get? c=some o)->Q (some (.ref s.heap.objs.size)) { s with heap:=h' }) :
  wpAny (model prog w) A (pyNext (.ref z)) Q E s:=by
 have T:s.TypeIs (.ref z) "zip" := ⟨_,hz,rfl⟩;unfold pyNext;exact Zx (wpAny_attempt (wpAny_callSpecial?_slot (name:=Str.ofString "__next__") T F.slot_zip_next (wpAny_call_entry F.slot_zip_next T F.entry_zip_next (itemT D hz hI hO j1 j2 p1 p2 hx hy fun h' a1 a2 a3 a4 a5 a6 a7=>Zf (q h' a1 a2 a3 a4 a5 a6 a7)) (F.args_zip_next_1 _))))
theorem Zz3{Q:ZT->Shared->Prop}(hh:A.handled=none)(D:ZipApart z TI TO i1 i2 t1 t2)(hz:IsZip s.heap z TI TO .none)(hI:IsPair s.heap TI (.ref i1) (.ref i2))(hO:IsPair s.heap TO a b)(j1:s.heap.IsTupleIter i1 t1 k)(j2:s.heap.IsTupleIter i2 t2 k)(p1:s.heap.IsTuple t1 xs)(p2:s.heap.IsTuple t2 ys)(c9:xs[k]?=none\/ys[k]?=none)
  (q:∀h',(∀c o,c≠z->c≠TO->c≠i1->c≠i2->s.heap.get? c=some o->h'.get? c=some o)->Q none { s with heap:=h' }):wpAny (model prog w) A (pyNext (.ref z)) Q E s:=by
 have T:s.TypeIs (.ref z) "zip" := ⟨_,hz,rfl⟩;unfold pyNext;refine Zx (wpAny_attempt (wpAny_callSpecial?_slot (name:=Str.ofString "__next__") T F.slot_zip_next (wpAny_call_entry F.slot_zip_next T F.entry_zip_next (endT hh D hz hI hO j1 j2 p1 p2 c9 fun h' e hk he=>?_) (F.args_zip_next_1 _))));obtain⟨o,ho,hc⟩:=he;exact Zx (wpAny_isInstance (T:="StopIteration") (b:=true) ⟨o,ho,hc⟩ isSubtype_stop (Zf (q _ hk)))
end
noncomputable abbrev H1(h:Heap)(l1:Addr):Heap:=h.push { cls:=.type "tuple_iterator",data:=.fields #[.ref l1,.int 0 0] }
noncomputable abbrev H2(h:Heap)(l1 l2:Addr):Heap:=(H1 h l1).push { cls:=.type "tuple_iterator",data:=.fields #[.ref l2,.int 0 0] }
noncomputable abbrev H3(h:Heap)(l1 l2:Addr):Heap:=(H2 h l1 l2).push { cls:=.type "tuple",data:=.seq #[.ref h.objs.size,.ref (H1 h l1).objs.size] }
noncomputable abbrev H4(h:Heap)(l1 l2:Addr):Heap:=(H3 h l1 l2).push { cls:=.type "tuple",data:=.seq #[.none,.none] }
noncomputable abbrev H5(h:Heap)(l1 l2:Addr):Heap:=(H4 h l1 l2).push { cls:=.type "zip",data:=.fields #[.none,.bool false,.bool false,.ref (H2 h l1 l2).objs.size,.ref (H3 h l1 l2).objs.size] }
theorem meets(l1 l2:Addr)(xs ys:ZN) :
  Meets (Builtin.«zip.__new__» ⟨[.type "zip",.ref l1,.ref l2],[]⟩) (fun _ R s=>s.heap.IsTuple l1 xs/\s.heap.IsTuple l2 ys /\
   R (.ok (.ret (.ref (H4 s.heap l1 l2).objs.size))) { s with heap:=H5 s.heap l1 l2 }) :=
 .of_wp fun prog w A R s h=>by
  obtain⟨hp,g,d,tk,os⟩:=s;obtain⟨hl1,pe,h⟩:=h;have hsub:=sub_zip;have hL1:Heap.IsTuple (Shared.heap ⟨hp,g,d,tk,os⟩) l1 xs:=hl1;have hL2:Heap.IsTuple (Shared.heap ⟨hp.push { cls:=.type "tuple_iterator",data:=.fields #[.ref l1,.int 0 0] },g,d,tk,os⟩) l2 ys:=let ⟨o,ho,r⟩:=pe;⟨o,Yr _ ho,r⟩
  wp_walk using wpAny_pyIter_tuple hL1,wpAny_pyIter_tuple hL2
  exact⟨_,rfl,h⟩
theorem call2{prog:Program}{w:World}{A:Around}{E:ZW}{s:Shared}{l1 l2:Addr}{xs ys:ZN}{Q:ZW}(hl1:s.heap.IsTuple l1 xs)(pe:s.heap.IsTuple l2 ys)
  (h:∀h',IsZip h' (s.heap.objs.size+4) (s.heap.objs.size+2) (s.heap.objs.size+3) .none->IsPair h' (s.heap.objs.size+2) (.ref s.heap.objs.size) (.ref (s.heap.objs.size+1)) ->
   IsPair h' (s.heap.objs.size+3) .none .none->h'.IsTupleIter s.heap.objs.size l1 0->h'.IsTupleIter (s.heap.objs.size+1) l2 0->h'.objs.size=s.heap.objs.size+5 ->
   (∀c o,s.heap.get? c=some o->h'.get? c=some o)->Q (.ref (s.heap.objs.size+4)) { s with heap:=h' }) :
  wpAny (model prog w) A (call (.type "zip") [.ref l1,.ref l2]) Q E s:=by
 refine callType_new F.called_zip (by decide) (F.typeCall_zip_2 _ _) (F.newCall_zip_2 _ _) (fun obj=>F.args_object_init_3 obj _ _) F.entry_zip_new (meets l1 l2 xs ys) ⟨hl1,pe, ?_⟩;have z1:(H1 s.heap l1).objs.size=s.heap.objs.size+1:=Heap.size_push ..;have z2:(H2 s.heap l1 l2).objs.size=s.heap.objs.size+2:=by rw[Heap.size_push,z1]
 have z3:(H3 s.heap l1 l2).objs.size=s.heap.objs.size+3:=by rw[Heap.size_push,z2]
 have z4:(H4 s.heap l1 l2).objs.size=s.heap.objs.size+4:=by rw[Heap.size_push,z3]
 have z5:(H5 s.heap l1 l2).objs.size=s.heap.objs.size+5:=by rw[Heap.size_push,z4]
 have g5:(H5 s.heap l1 l2).get? (H4 s.heap l1 l2).objs.size=some _:=U1 _ rfl;have g4:(H5 s.heap l1 l2).get? (H3 s.heap l1 l2).objs.size=some _:=Yr _ (U1 _ rfl);have g3:(H5 s.heap l1 l2).get? (H2 s.heap l1 l2).objs.size=some _:=Yr _ (Yr _ (U1 _ rfl));have g2:(H5 s.heap l1 l2).get? (H1 s.heap l1).objs.size=some _:=Yr _ (Yr _ (Yr _ (U1 _ rfl)));have g1:(H5 s.heap l1 l2).get? s.heap.objs.size=some _:=Yr _ (Yr _ (Yr _ (Yr _ (U1 _ rfl))));show _/\_;rw[z2,z3,z4]at g5;rw[z1,z2]at g3;rw[z3]at g4;rw[z1]at g2;rw[z4]
 exact⟨⟨_,g5,rfl⟩,h _ g5 g3 g4 ⟨_,g1,rfl,rfl⟩ ⟨_,g2,rfl,rfl⟩ z5 fun c o x =>
  Yr _ (Yr _ (Yr _ (Yr _ (Yr _ x))))⟩
end ZipT
namespace L2
open PySem PySem.Spec PyProof.Rows
def Itzt(K:W.Frag)(l1 l2:Addr):It :=
  ⟨fun i H=>∃xs ys x y,Yu K H l1 xs/\Yu K H l2 ys/\xs[i]?=some x/\ys[i]?=some y,
   fun i H v H'=>∃p x y,v=.ref p/\H p=none/\H'=upd H p (.tup [x,y])/\(∀xs,Yu K H l1 xs->xs[i]?=some x)/\∀ys,Yu K H l2 ys->ys[i]?=some y,
   fun i H=>∃xs ys,Yu K H l1 xs/\Yu K H l2 ys/\(xs.length<=i\/ys.length<=i)⟩
theorem z7{P:Program}{w:World}{K:W.Frag}{es:ZC}{k:Nat}{pos:Pos}(z TI TO i1 i2 l1 l2:Addr)(D:ZipApart z TI TO i1 i2 l1 l2) :
  Turn P w K (.Tuple es k pos) (Itzt K l1 l2) [z,TI,TO,i1,i2] z (fun i h=>IsZip h z TI TO .none/\IsPair h TI (.ref i1) (.ref i2)/\(∃a b,IsPair h TO a b)/\h.IsTupleIter i1 l1 i/\h.IsTupleIter i2 l2 i) where
 mem:=by simp
 obj:=fun i h st b hb=>by
  obtain⟨hz,Qa,⟨a,c,Sb⟩,⟨o1,e1,_,d1⟩,⟨o2,e2,_,d2⟩⟩:=st;simp only[Y3,V4,or_false]at hb;rcases hb with rfl | rfl | rfl | rfl | rfl
  .exact⟨_,hz,fun v q=>nomatch q⟩
  .exact⟨_,Qa,fun v q=>nomatch q⟩
  .exact⟨_,Sb,fun v q=>nomatch q⟩
  .exact⟨_,e1,fun v q=>by rw[d1]at q;cases q⟩
  .exact⟨_,e2,fun v q=>by rw[d2]at q;cases q⟩
 keep:=fun i h h' st hk=>by
  obtain⟨hz,Qa,⟨a,b,Sb⟩,h1,h2⟩:=st;exact⟨hk z (by simp) _ hz,hk TI (by simp) _ Qa,⟨a,b,hk TO (by simp) _ Sb⟩,(let ⟨o,ho,r⟩:=h1;⟨o,hk i1 (by simp) o ho,r⟩),(let ⟨o,ho,r⟩:=h2;⟨o,hk i2 (by simp) o ho,r⟩)⟩
 item:=by
  intro X hP hw hK hc i XF s Z H E I hf st hg;subst hP hw hK;obtain⟨xs,ys,x,y,q1,q2,g1,g2⟩:=hg;obtain⟨hz,Qa,⟨a,b,Sb⟩,h1,h2⟩:=st;obtain⟨wq,v1,qv,z1⟩:=I.tuple q1;obtain⟨is2,v2,qw,z2⟩:=I.tuple q2;obtain⟨u1,e1,r1⟩:=v1.get g1;obtain⟨u2,e2,r2⟩:=v2.get g2;refine ZipT.du D hz Qa Sb h1 h2 (show s.heap.IsTuple l1 wq.toArray from qv) (show s.heap.IsTuple l2 is2.toArray from qw) (x:=u1) (y:=u2) (by simpa using e1) (by simpa using e2) fun h' a1 a2 a3 a4 a5 a6 hk=>?_;refine⟨_,rfl,wpAny_letOwnedTupleGo_zip (s:={ s with heap:=h' }) a1 fun h'' L6 Sw=>?_⟩;have lt:∀{c o},s.heap.get? c=some o->s.heap.objs.size≠c:=fun e=>Nat.ne_of_gt (Y7 e);have nz:s.heap.objs.size≠z:=lt hz
  have kk:∀c u,c ∉ [z,TI,TO,i1,i2]->s.heap.get? c=some u->h''.get? c=some u:=fun c u m e=>by
   simp only[Y3,V4,or_false,not_or]at m;exact Sw.extBut _ _ m.1 (hk c u m.1 m.2.2.1 m.2.2.2.1 m.2.2.2.2 e)
  have fresh:=I.hok.fresh (Z5 s.heap.objs.size);have J:Inv X XF Z (upd H s.heap.objs.size (.tup [x,y])) { s with heap:=h'',toks:=s.toks }:=I.turnLay kk hf (Z5 _) ⟨by show 2<=sizeLine;decide,[u1,u2],.cons r1 (.cons r2 .nil),⟨_,Sw.extBut _ _ nz a5,rfl,⟨_,rfl⟩,rfl⟩⟩;refine⟨.ref s.heap.objs.size,_,J,rfl,⟨_,x,y,rfl,fresh,rfl,fun ws hw=>by rw[I.tuple_inj hw q1];exact g1,fun ws hw=>by rw[I.tuple_inj hw q2];exact g2⟩,⟨L6,Sw.extBut _ _ D.TIz (hk _ _ D.TIz D.TITO D.TIi1 D.TIi2 Qa),⟨_,_,Sw.extBut _ _ D.TOz a2⟩,ZipT.Uy a3 Sw.extBut D.i1z,ZipT.Uy a4 Sw.extBut D.i2z⟩,fun c hc=>?_⟩
  have nc:c≠s.heap.objs.size:=fun q=>by
   subst q;simp only[Y3,V4,or_false]at hc;rcases hc with q | q | q | q | q
   .exact lt hz q
   .exact lt Qa q
   .exact lt Sb q
   .obtain⟨_,e,_⟩:=h1;exact lt e q
   .obtain⟨_,e,_⟩:=h2;exact lt e q
  rw[Zz nc];exact(hf c hc).1
 done:=by
  intro X hP hw hK hc i XF s Z H E I hf st hg;subst hP hw hK;obtain⟨xs,ys,q1,q2,g⟩:=hg;obtain⟨hz,Qa,⟨a,b,Sb⟩,h1,h2⟩:=st;obtain⟨wq,v1,qv,z1⟩:=I.tuple q1;obtain⟨is2,v2,qw,z2⟩:=I.tuple q2;have hl1:=v1.length;have pe:=v2.length;refine ZipT.Zz3 (I.ok.hd hc) D hz Qa Sb h1 h2 (show s.heap.IsTuple l1 wq.toArray from qv) (show s.heap.IsTuple l2 is2.toArray from qw) (by rcases g with g | g;exact .inl (by simp;omega);exact .inr (by simp;omega)) fun h' hk=>⟨rfl,I.turnL (t':=s.toks) (fp:=[z,TI,TO,i1,i2]) (fun c u m e=>?_) hf⟩;simp only[Y3,V4,or_false,not_or]at m;exact hk c u m.1 m.2.2.1 m.2.2.2.1 m.2.2.2.2 e
 self:=fun A i s Q E st h=>wpAny_pyIter_zip st.1 h
inductive Xu(K:W.Frag)(R:(It->Hp->Prop))(vs:ZQ)(H1:Hp):Prop
 | mk(p q)(Y1:vs=[.ref p,.ref q])(Y0:(∃xs,Yu K H1 p xs))(V7:(∃ys,Yu K H1 q ys))(Wr:R (Itzt K p q) H1):Xu K R vs H1
def iZipT(K:W.Frag)(t:TA):TI:=fun Z H R=>t Z H fun vs H1=>Xu K R vs H1
section
variable{X:Cx}{es:ZC}{k:Nat}{p2 pos Jz:Pos}{a b:Expr}{t:TA}
theorem Zzx(hgz:Gl X "zip")(hmz:X.mg "zip" = none)(ha:PA X [a,b] t)
  (he2:starEach [a,b] X.env=(false,eval a X.env)::starEach [b] X.env:=by rfl) (Qp:(backTo Jz (starEach [b] X.env)).any (·.1)=false:=by rfl) :
  PI X (.Tuple es k pos) (.Call (.Name "zip" p2) [a,b] [] Jz) (iZipT X.K t):=by
 intro XF s Z H R I h;refine wpAny_Call_Name_kw (Bp I hgz hmz (by decide +kernel:bootBuiltins "zip" = some (.type "zip")) ?_ (by decide) (by decide));refine callWith_type1 (Z9 (ha Jz XF s Z H _ I h) fun us s1 ⟨vs,H1,I1,r1,q1⟩=>?_) he2 Qp;obtain⟨l1,l2,rfl,⟨xs,hx⟩,⟨ys,hy⟩,q⟩:=q1;obtain⟨u1,u2,rfl,e1,e2⟩:=vals2 r1;cases e1;cases e2;obtain⟨wq,v1,qv,z1⟩:=I1.tuple hx;obtain⟨is2,v2,qw,z2⟩:=I1.tuple hy;have n1:l1<s1.heap.objs.size:=by obtain⟨_,e,_⟩:=(show s1.heap.IsTuple l1 wq.toArray from qv);exact Y7 e
 have n2:l2<s1.heap.objs.size:=by obtain⟨_,e,_⟩:=(show s1.heap.IsTuple l2 is2.toArray from qw);exact Y7 e
 refine ZipT.call2 (show s1.heap.IsTuple l1 wq.toArray from qv) (show s1.heap.IsTuple l2 is2.toArray from qw) fun h2 b1 b2 b3 b4 b5 b6 k2=>?_;refine wpAny_pyIter_zip (s:={ s1 with heap:=h2 }) b1 ?_;have J:Inv X XF Z H1 { s1 with heap:=h2,toks:=s1.toks }:=I1.kept k2;refine⟨_,[s1.heap.objs.size+4,s1.heap.objs.size+2,s1.heap.objs.size+3,s1.heap.objs.size,s1.heap.objs.size+1],_,_,H1,rfl,J,z7 _ _ _ _ _ l1 l2 (zipApart_new n1 n2),⟨b1,b2,⟨_,_,b3⟩,b4,b5⟩,fun c hc=>?_,q⟩
 have ge:s1.heap.objs.size<=c:=by
  simp only[Y3,V4,or_false]at hc;rcases hc with q | q | q | q | q<;>rw[q]<;>first | exact Z5 _ | exact Nat.le_add_right _ _
 exact I1.fpOk ge (I1.hok.fresh ge)
end
section
variable{X:Cx}
end
section
variable{X:Cx}{es:ZC}{k:Nat}{p2 pos Jz:Pos}{a:Expr}{t:TA}
end
section
variable{X:Cx}{XF:ZY}{Z:St}{H:Hp}{s:Shared}
end
section
variable{X:Cx}
end
section
variable{X:Cx}{XF:ZY}{Z:St}{H:Hp}{s:Shared}
theorem Zz1{h h':Heap}{L:Addr}{m:ZV}(n:h.Ns L m)(k:∀o,h.get? L=some o->h'.get? L=some o):h'.Ns L m :=
 let ⟨o,es,ep,e,r⟩:=n
 ⟨o,es,ep,k o e,r⟩
end
noncomputable def Wd(h:Heap)(L:Addr):Heap:={ h with objs:=h.objs.extract 0 L }
theorem Xt{h:Heap}{L b:Nat}:(Wd h L).objs[b]?=if b<L then h.objs[b]? else none:=by
 show (h.objs.extract 0 L)[b]?=_;rw[Array.getElem?_extract];simp only[Nat.zero_add,Nat.sub_zero];by_cases hb:b<L
 .rw[if_pos hb];by_cases hc:b<h.objs.size
  .rw[if_pos (by omega)]
  .rw[if_neg (by omega),Array.getElem?_eq_none (by omega)]
 .rw[if_neg hb,if_neg (by omega)]
theorem O5{h:Heap}{L b:Addr}{o:Obj}(e:h.get? b=some o)(hb:b<L):(Wd h L).get? b=some o:=by
 unfold Heap.get? at e ⊢;rw[Xt,if_pos hb];exact e
theorem Xd{h:Heap}{L b:Addr}{o:Obj}(e:(Wd h L).get? b=some o):h.get? b=some o/\b<L:=by
 unfold Heap.get? at e;rw[Xt]at e;by_cases hb:b<L
 .rw[if_pos hb]at e;exact⟨e,hb⟩
 .rw[if_neg hb]at e;cases e
noncomputable def Ls(h:Heap)(L:Addr):ZY:=(List.range h.objs.size).filterMap fun b=>if b<=L then none else (h.get? b).map fun o=>(b,o)
theorem Bl{h:Heap}{L b:Addr}{o:Obj}:(b,o)∈Ls h L↔L<b/\h.get? b=some o:=by
 unfold Ls;rw[List.mem_filterMap];constructor
 .rintro⟨x,hx,e⟩;by_cases z:x<=L
  .rw[if_pos z]at e;cases e
  .rw[if_neg z]at e;obtain⟨o',e1,e2⟩:=Yj.mp e;cases e2;exact⟨Nat.lt_of_not_le z,e1⟩
 .rintro⟨hb,e⟩;refine⟨b,List.mem_range.mpr (Y7 e), ?_⟩;rw[if_neg (Nat.not_le.mpr hb),e];rfl
theorem Zp.has{P:Program}{w:World}{H:Hp}{h:Heap}{a:Addr}{o:HO}(x:Zp P w H h a o):∃u,h.get? a=some u:=by
 cases o with
 | lst xs=>obtain⟨_,_,_,_,e⟩:=x;exact⟨_,e⟩
 | tup xs=>obtain⟨_,_,_,o,e,_⟩:=x;exact⟨_,e⟩
 | dK XB=>obtain⟨_,_,_,_,o,_,_,e,_⟩:=x;exact⟨_,e⟩
 | dT XB=>obtain⟨_,_,_,_,o,_,_,e,_⟩:=x;exact⟨_,e⟩
 | set S n=>obtain⟨o,_,_,_,e,_⟩:=x;exact⟨_,e⟩
 | ins C dx fs=>obtain⟨_,_,_,e,_⟩:=x;exact⟨_,e⟩
 | own y=>exact x
 | xd fs=>obtain⟨_,⟨_,_,_,e,_⟩,_⟩:=x;exact⟨_,e⟩
 | rng lo hi=>obtain⟨_,_,_,e⟩:=x;exact⟨_,e⟩
 | frz ob u=>obtain⟨e,_⟩:=x;exact⟨_,e⟩
 | tbl ps=>exact⟨_,(show h.get? a=some _ from x)⟩
 | met f y=>exact⟨_,(show h.get? a=some _ from x)⟩
 | ext φ=>obtain⟨_,e,_⟩:=x;exact e
theorem Qn{h h':Heap}{L:Addr}{m:ZV}{own:ZY}(f:Fr (Wd h L) L h' m)(n:News (Wd h L) L h' own)(hs:∀p∈Ls h L,p∈own):∀b o,b≠L->h.get? b=some o->h'.get? b=some o:=fun b o nb e=>by
 rcases Nat.lt_trichotomy b L with z | z | z
 .exact f.keep b o (O5 e z)
 .exact absurd z nb
 .exact(n (b,o) (hs _ (Bl.mpr ⟨z,e⟩))).1
section
variable{X:Cx}{e:Expr}{te:TA}{p pos lp kp p0 p1 p2 p3:Pos}
end
end L2
namespace PySem.Heap
theorem IsTupleIter.aT{h h':Heap}{i t:Addr}{k:Nat}(st:h.IsTupleIter i t k)(e:∀o,h.get? i=some o->h'.get? i=some o):h'.IsTupleIter i t k:=let ⟨o,ho,r⟩:=st;⟨o,e _ ho,r⟩
theorem IsTuple.aT{h h':Heap}{t:Addr}{xs:ZN}(st:h.IsTuple t xs)(e:∀o,h.get? t=some o->h'.get? t=some o):h'.IsTuple t xs:=let ⟨o,ho,r⟩:=st;⟨o,e _ ho,r⟩
end PySem.Heap
namespace L2
open PySem PySem.Spec PyProof.Rows
section
variable{X:Cx}{x y:Str}{p p2 pos Jz:Pos}{a b:Expr}{t:TA}
end
end L2
namespace DicP2
open PySem PySem.Spec PyProof.Rows
noncomputable def Zjr(t:Value):Obj:={ cls:=.type "AttributeError",data:=.fields #[t,.none,.none,.none,.bool false,.none,unsetMember,unsetMember] }
theorem nst:((Manifest.find? "AttributeError").elim false fun t=>t.mro.contains "StopIteration" || t.mro.contains "SystemExit")=false:=by decide +kernel
theorem newAE{prog:Program}{w:World}{A:Around}{E:ZW}{s:Shared}{v:Value}{Q:ZW}
  (hq:∀h' e t,(∀b u,s.heap.get? b=some u->h'.get? b=some u)->h'.get? e=some (Zjr t)->s.heap.get? e=none->Q (.ref e) { s with heap:=h' }):wpAny (model prog w) A (newExc (.type "AttributeError") [v]) Q E s:=by
 obtain⟨h,g,d,t,os⟩:=s;simp only[newExc,newTuple]
 wp_walk
 have e:(#[Value.ref h.objs.size,Value.none,Value.none,Value.none,Value.bool false,if ((Manifest.find? "AttributeError").elim false fun t=>t.mro.contains "StopIteration" || t.mro.contains "SystemExit")=true then [v].headD Value.none else Value.none]++ownMembersOf (Value.type "AttributeError") [v])=#[.ref h.objs.size,.none,.none,.none,.bool false,.none,unsetMember,unsetMember]:=by
  rw[nst];rfl
 rw[e];refine hq _ _ (.ref h.objs.size) (fun b u q=>Yr _ (Yr _ q)) (U1 _ rfl) ?_;cases z:h.get? (h.push { cls:=Value.type "tuple",data:=Data.seq #[v] }).objs.size with
 | none=>rfl
 | some o =>
  have:=Y7 z;rw[Heap.size_push]at this;exact absurd this (Nat.not_lt.mpr (Nat.le_succ _))
theorem note{prog:Program}{w:World}{A:Around}{E:ZW}{s:Shared}{e:Addr}{t o nm:Value}{Q:ZA}(he:s.heap.get? e=some (Zjr t))
  (hq:∀h' d,Heap.SameBut e s.heap h'->h'.get? e=some { cls:=.type "AttributeError",data:=d }->Q () { s with heap:=h' }):wpAny (model prog w) A (noteAttr (.ref e) o nm) Q E s:=by
 unfold noteAttr;simp only[];unfold lacksNameAndObj;simp only[];refine Zx (Zx (wpAny_isInstance (T:="AttributeError") (b:=true) ⟨_,he,rfl⟩ (by rw[isSubtype_type];kernel_rfl) ?_));simp only[Bool.not_true,we,if_false];refine Zx (wpAny_load he ?_);show wpAny _ _ (pure true) _ _ _;refine Zf ?_;simp only[if_true];refine Zx (wpAny_rule (Zx (wpAny_typeOf (T:="AttributeError") ⟨_,he,rfl⟩ ?_)));refine wpAny_layMembers he rfl ?_;refine hq _ _ ⟨Heap.size_update _ _ _,fun b hb=>Heap.get?_update_other _ _ (Ne.symm hb)⟩ (Heap.get?_update_self _ he rfl)
theorem tl1:typeLookup (.type "tuple") (Str.ofString "__getattribute__")=pure (some (.builtin "tuple.__getattribute__")):=by rw[typeLookup_type,builtinLookup_eq_fast];kernel_rfl
theorem tl2:typeLookup (.type "tuple") (Str.ofString "keys")=pure none:=by rw[typeLookup_type,builtinLookup_eq_fast];kernel_rfl
theorem tl3:typeLookup (.type "tuple") (Str.ofString "__getattr__")=pure none:=by rw[typeLookup_type,builtinLookup_eq_fast];kernel_rfl
theorem slot_ga:Slot "tuple" (Str.ofString "__getattribute__") "tuple.__getattribute__" := Slot.of (owner:="tuple") (n:="__getattribute__") tl1 (by decide +kernel) (by decide +kernel) (by decide +kernel) (.inl (by decide +kernel)) (by rw[isSubtype_type];kernel_rfl)
theorem hb0:hookBefore (.type "tuple")=pure none:=rfl
theorem Rk:entryFor table "dict.update.loop" = some Builtin.«dict.update.loop»:=entryFor_of_tree (by kernel_rfl)
theorem Jp:plainId "dict.update.loop" = true:=by decide +kernel
section
variable{prog:Program}{w:World}{K:Type}[DecidableEq K]{knd:PySem.KeyKind prog w K}
def Prs(knd:PySem.KeyKind prog w K)(h:Heap)(XM:ZN)(rs:List (K×Value)):Prop :=
 XM.size=rs.length/\∀(j:Nat) (k:K) (v:Value),rs[j]?=some (k,v)->∃p u,XM[j]?=some (.ref p)/\IsTup h p #[u,v]/\knd.is k u=true
noncomputable def stK(rs:List (K×Value))(i:Nat):List (K×Value):=(rs.take i).foldl (fun acc kv=>stored acc kv.1 kv.2) []
theorem Km(XB:List (K×Value))(k:K)(v:Value):(stored XB k v).length<=XB.length+1:=by
 unfold stored
 split
 .rw[Z4];omega
 .rw[Gg];simp
theorem Ox{rs:List (K×Value)}{i:Nat}{k:K}{v:Value}(h:rs[i]?=some (k,v)):stK rs (i+1)=stored (stK rs i) k v:=by
 unfold stK;rw[List.take_succ,h];simp
theorem Fe(rs:List (K×Value)):∀i,(stK rs i).length<=i
 | 0=>by simp[stK]
 | i+1=>by
  cases h:rs[i]? with
  | none =>
   have:=Fe rs i;unfold stK at this ⊢;rw[List.take_succ,h];simp only[Option.toList_none,XQ];omega
  | some p =>
   obtain⟨k,v⟩:=p;rw[Ox h];have:=Fe rs i;have:=Km (stK rs i) k v;omega
variable{A:Around}{R:Result->Shared->Prop}{E:ZW}{s:Shared}{d it t:Addr}{XM:ZN}{rs:List (K×Value)}
end
end DicP2
namespace L2
open PySem PySem.Spec PyProof.Rows
section
variable{X:Cx}{XF:ZY}{Z:St}{H:Hp}{s:Shared}
theorem Inv.lay2{h':Heap}{D:Addr}{u:HO}{t':Nat}(I:Inv X XF Z H s){m:ZV}(hn:s.heap.Ns X.env.locals m)(hn':h'.Ns X.env.locals m)(ka:∀b o,b≠X.env.locals->s.heap.get? b=some o->h'.get? b=some o)(nD:s.heap.get? D=none)
  (new:Zp X.prog X.w (upd H D u) h' D u):Inv X XF Z (upd H D u) { s with heap:=h',toks:=t' }/\H D=none:=by
 have fD:H D=none:=by
  cases eo:H D with
  | none=>rfl
  | some u =>
   obtain⟨o,e⟩:=(I.hok D u eo).has;rw[e]at nD;cases nD
 refine⟨?_,fD⟩;have ne:∀{b:Addr} {o:Obj},s.heap.get? b=some o->b≠D:=fun {b o} e z=>by rw[z,nD]at e;cases e
 have neH:∀{b:Addr} {u:HO},H b=some u->b≠D:=fun {b u} e z=>by rw[z,fD]at e;cases e
 refine I.step (h':=h') (g':=s.gens) (d':=s.drawn) (t':=t') (ch:=[]) (H':=upd H D u) (fun _ z=>nomatch z)
  (fun b o nl _ _ e _=>ka b o nl e) (fun b o nl _ _ e _=>⟨o.slots,ka b o nl e⟩) (fun b o _ e n=>by rw[Zz (ne e)];exact n) (fun b o _ e=>?_) (fun b xs e=>by rw[Zz (neH e)];exact e) (fun b o u e=>by rw[Zz (neH e)];exact e) (fun b qs e=>⟨#[],by rw[Zz (neH e),e];simp⟩) (fun m' hm=>?_) (fun b v e=>?_) I.bare
 .by_cases z:b=X.env.locals
  .obtain⟨o2,_,_,e2,_⟩:=hn';exact⟨o2,by rw[z];exact e2⟩
  .exact⟨o,ka b o z e⟩
 .have em:m'=m:=by
   obtain⟨o2,es,ep,e2,d2,_,r2⟩:=hm;obtain⟨o3,es3,ep3,e3,d3,_,r3⟩:=hn;rw[e2]at e3;cases e3;rw[d2]at d3;cases d3;exact funext fun x=>(r2 x).symm.trans (r3 x)
  rw[em];exact hn'
 .by_cases z:b=D
  .subst z;rw[Zw]at e;cases e;exact new
  .rw[Zz z]at e;refine(I.hok b v e).stay (fun d v hd q=>ka d v ?_ q) (fun d q=>by rw[Zz (neH q)];exact q) fun d xs q=>by rw[Zz (neH q)];exact q
   rcases hd with rfl | hd
   .exact fun zz=>by rw[zz,I.free]at e;cases e
   .exact fun zz=>by rw[zz,I.free]at hd;cases hd
theorem Inv.frame(I:Inv X XF Z H s):∃m,s.heap.Ns X.env.locals m/\Fr (Wd s.heap X.env.locals) X.env.locals s.heap m/\News (Wd s.heap X.env.locals) X.env.locals s.heap (Ls s.heap X.env.locals):=by
 obtain⟨m,hn,_⟩:=id I.loc
 have lsz:(Wd s.heap X.env.locals).objs.size<=X.env.locals:=by
  show (s.heap.objs.extract 0 X.env.locals).size<=_;rw[Array.size_extract];omega
 refine⟨m,hn,⟨hn,fun b o e=>(Xd e).1,lsz⟩,fun p hp=>?_⟩;obtain⟨b,o⟩:=p;obtain⟨h1,h2⟩:=Bl.mp hp;refine⟨h2,Nat.ne_of_gt h1, ?_⟩;cases z:(Wd s.heap X.env.locals).get? b with
 | none=>rfl
 | some o'=>exact absurd (Xd z).2 (Nat.lt_asymm h1)
theorem Inv.newAt{h':Heap}{D:Addr}{o:Obj}{m:ZV}(n':News (Wd s.heap X.env.locals) X.env.locals h' ((D,o)::Ls s.heap X.env.locals))(hD:∀q∈Ls s.heap X.env.locals,q.1<D):s.heap.get? D=none:=by
 obtain⟨_,nDL,lD⟩:=n' (D,o) Vt;cases eo:s.heap.get? D with
 | none=>rfl
 | some o =>
  exfalso
  rcases Nat.lt_trichotomy D X.env.locals with y | y | y
  .rw[O5 eo y]at lD;cases lD
  .exact nDL y
  .exact absurd (hD (D,o) (Bl.mpr ⟨y,eo⟩)) (Nat.lt_irrefl _)
end
theorem O6{P:Nat->Key->Value->Prop}:∀{XB:List (Key×V)} (o:Nat),(∀j k v,XB[j]?=some (k,v)->∃w,RelV v w/\P (o+j) k w)->∃rs,KV XB rs/\∀j k w,rs[j]?=some (k,w)->P (o+j) k w
 | [],o,_=>⟨[],.nil,fun j k w e=>by simp at e⟩
 | (k,v)::XB,o,h=>by
  obtain⟨w,Kh,pw⟩:=h 0 k v rfl
  obtain⟨rs,kv,pr⟩:=O6 (P:=P) (XB:=XB) (o+1) fun j k' v' e=>by
   obtain⟨w',a,b⟩:=h (j+1) k' v' e;exact⟨w',a,by rw[Nat.add_assoc,Nat.add_comm 1 j];exact b⟩
  refine⟨(k,w)::rs,.cons ⟨rfl,Kh⟩ kv,fun j k' w' e=>?_⟩;cases j with
  | zero =>
   have e':(k,w)=(k',w'):=by simpa using e
   cases e';exact pw
  | succ j =>
   have:=pr j k' w' (by simpa using e);rw[Nat.add_assoc,Nat.add_comm 1 j]at this;exact this
def L7(XB:List (Key×V)):List (Key×V):=XB.foldl (fun acc kv=>putK acc kv.1 kv.2) []
theorem Xl:∀{XB:List (Key×V)} {rs:List (Key×Value)} {a:List (Key×V)} {b:List (Key×Value)},KV XB rs->KV a b->KV (XB.foldl (fun acc kv=>putK acc kv.1 kv.2) a) (rs.foldl (fun acc kv=>stored acc kv.1 kv.2) b)
 | _,_,_,_,.nil,h=>h
 | (k,v)::XB,(k',v')::rs,_,_,.cons r t,h=>by
  have e:k=k':=r.1;subst e;rw[List.foldl_cons,List.foldl_cons];exact Xl (XB:=XB) (rs:=rs) t (h.put k r.2)
theorem B0:∀(XB a:List (Key×V)),(XB.foldl (fun acc kv=>putK acc kv.1 kv.2) a).length<=a.length+XB.length
 | [],a=>by simp
 | p::XB,a=>by
  have:=B0 XB (putK a p.1 p.2);have:=Ul a p.1 p.2;rw[List.foldl_cons,Gs];omega
section
variable{X:Cx}
end
section
variable{X:Cx}{XF:ZY}{Z:St}{H:Hp}{s:Shared}
inductive fb(K:W.Frag)(A:Around)(x:V)(y:V)(H:Hp)(Q:VK):Prop
 | mk(p xs d ds)(Y1:y=.ref p)(Y0:Vi K H p xs)(V7:Vc K H d x)(Wr:Zo K H ds xs)(wm:(∀e∈ds,A.units+Jw e+10<cLine))(h5_:Q (.bl (ds.any fun e=>Yp e d)) H):fb K A x y H Q
def rInD(K:W.Frag)(A:Around):R2:=fun x y H Q=>fb K A x y H Q
theorem op_inD:Jb X (compareOp .In) (rInD X.K X.A):=by
 intro XF s Z H x y v u Q I rx ry h;obtain⟨p,xs,d,ds,rfl,hq,hd,ar,hu,q⟩:=h;cases ry;obtain⟨XM,r,pl,hz⟩:=I.list hq;have l1:=ar.length;have l2:=r.length
 classical
 have at_:∀{i:Nat} {w:Value},XM[i]?=some w->∃dy xi,ds[i]?=some dy/\xs[i]?=some xi/\Vc X.K H dy xi/\RelV xi w:=fun {i w} hw=>by
  have hi:=(Bz.mp hw).1;obtain⟨dy,nq⟩:∃dy,ds[i]?=some dy:=⟨_,V0 (by omega)⟩;obtain⟨xi,hxi,dd⟩:=ar.get nq;obtain⟨w',hw',rr⟩:=r.get hxi;rw[hw]at hw';cases hw';exact⟨dy,xi,nq,hxi,dd,rr⟩
 have key:∀{i:Nat} {w:Value} {dy:D},XM[i]?=some w->ds[i]?=some dy->decide (∃(j:Nat) (dj:D),XM[j]?=some w/\ds[j]?=some dj/\Yp dj d=true)=Yp dy d:=fun {i w dy} hw nq=>by
  cases e:Yp dy d with
  | true=>exact Mi ⟨i,dy,hw,nq,e⟩
  | false =>
   refine Mp fun⟨j,dj,h1,h2,h3⟩=>?_;obtain⟨da,xa,a1,a2,a3,a4⟩:=at_ hw;obtain⟨db,xb,b1,b2,b3,b4⟩:=at_ h1;rw[nq]at a1;rw[h2]at b1;cases a1;cases b1;have:=a4.inj b4;subst this;rw[Vc.inj I _ _ _ a3 b3,h3]at e;cases e
 refine SeqAt.in_listAt (fun w=>decide (∃(j:Nat) (dj:D),XM[j]?=some w/\ds[j]?=some dj/\Yp dj d=true)) pl.isList (fun w hw=>?_) ⟨.bl _,H,I,rfl, ?_⟩
 .obtain⟨i,hi⟩:=List.getElem?_of_mem (show w∈XM by simpa using hw);obtain⟨dy,xi,a1,a2,a3,a4⟩:=at_ hi;have:=hu dy (M0g a1);show SeqAt.EqAt X.A.in1 s w v (decide _);rw[key hi a1];exact B3 I dy d xi x w v X.A.in1 a3 hd a4 rx (by show X.A.units+1+Jw dy<cLine;omega) (by show X.A.units+1<cLine;omega)
 .have e:(XM.toArray.any fun w=>decide (∃(j:Nat) (dj:D),XM[j]?=some w/\ds[j]?=some dj/\Yp dj d=true))=ds.any fun e=>Yp e d:=by
   rw[Bool.eq_iff_iff];simp only[List.any_toArray,XZ,decide_eq_true_eq];constructor
   .rintro⟨w,hw,j,dj,h1,h2,h3⟩;exact⟨dj,M0g h2,h3⟩
   .rintro⟨dj,hm,h3⟩;obtain⟨j,hj⟩:=List.getElem?_of_mem hm;have hl:=(Bz.mp hj).1;obtain⟨w,hw⟩:∃w,XM[j]?=some w:=⟨_,V0 (by omega)⟩;exact⟨w,M0g hw,j,dj,hw,hj,h3⟩
  rw[e];exact q
end
end L2
namespace DctT
open PySem PySem.SeqAt PySem.MeetsSeq
open PySem.AutoSeq1 (wpAny_loadPart')
end DctT
namespace L2
open PySem PySem.Spec PyProof.Rows
section
variable{X:Cx}
end
section
variable{X:Cx}
end
end L2
namespace EX
open PySem
section
variable{M:Model}{A:Around}{E:ZW}{s:Shared}{env:Env}{outer:List Env}{base:Heap}{L e T:Addr}{oe oT:Obj}{vs ts:ZN}{x:Value}{Q:ZA}
end
end EX
namespace L2
open PySem PySem.Spec PyProof.Rows
section
variable(prog:Program)(w:World)(A:Around)(tg elt:Expr)(ifs:ZC)(env:Env)(it acc:Value)(E:ZW)
end
section
variable{X:Cx}{scope:Scope}{N:ZD}{fr:ZG}{tg elt iter:Expr}{ifs:ZC}{pos:Pos}{wi:TI}{g:DG}{tt:DT}{te:DE}
end
section
variable{X:Cx}{XF:ZY}{Z:St}{H:Hp}{s s':Shared}
end
section
variable{X:Cx}{scope:Scope}{N:ZD}{fr:ZG}{tg elt iter:Expr}{ifs:ZC}{pos:Pos}{wi:TI}{g:St->DG}{tt:St->DT}{te:St->DE}{W:XWT}
end
section
variable{X:Cx}
end
section
variable{X:Cx}
end
section
variable{X:Cx}
end
end L2
namespace SRT
open PySem PySem.Spec PyProof.Rows L2
noncomputable def insI(x:Int):ZL->ZL
 | []=>[x]
 | y::r=>if x<=y then x::y::r else y::insI x r
def Bb:ZL->ZL
 | []=>[]
 | x::r=>insI x (Bb r)
theorem insI_perm(x:Int):∀r:ZL,(insI x r).Perm (x::r)
 | []=>.refl _
 | y::r=>by
  unfold insI
  split
  .exact .refl _
  .exact((insI_perm x r).cons y).trans (.swap x y r)
theorem V5:∀r:ZL,(Bb r).Perm r
 | []=>.refl _
 | x::r=>(insI_perm x _).trans ((V5 r).cons x)
theorem Sq(x:Int):∀r:ZL,r.Pairwise (·<=·)->(insI x r).Pairwise (·<=·)
 | [],_=>List.pairwise_singleton _ _
 | y::r,h=>by
  rw[ZE]at h;unfold insI
  split
  .rename_i hx
   rw[ZE,ZE];exact⟨fun z m=>by rcases Y3.mp m with rfl | m;exact hx;exact Int.le_trans hx (h.1 z m),h.1,h.2⟩
  .rename_i hx
   rw[ZE];refine⟨fun z m=>?_,Sq x r h.2⟩;rcases Y3.mp ((insI_perm x r).mem_iff.mp m) with rfl | m
   .omega
   .exact h.1 z m
theorem Ov:∀r:ZL,(Bb r).Pairwise (·<=·)
 | []=>List.Pairwise.nil
 | x::r=>Sq x _ (Ov r)
theorem A9{a b:ZL}(h:a.Perm b)(s:a.Pairwise (·<=·)):a=Bb b :=
 List.Perm.eq_of_pairwise (fun _ _ _ _ h1 h2=>Int.le_antisymm h1 h2) s (Ov b) (h.trans (V5 b).symm)
noncomputable def Rg(a b:Str):Bool:=!decide (b.cps.toList<a.cps.toList)
noncomputable def jj(x:Str):ZD->ZD
 | []=>[x]
 | y::r=>if Rg x y=true then x::y::r else y::jj x r
def Yq:ZD->ZD
 | []=>[]
 | x::r=>jj x (Yq r)
theorem Bu(x:Str):∀r:ZD,(jj x r).Perm (x::r)
 | []=>.refl _
 | y::r=>by
  unfold jj
  split
  .exact .refl _
  .exact((Bu x r).cons y).trans (.swap x y r)
theorem Z3:∀r:ZD,(Yq r).Perm r
 | []=>.refl _
 | x::r=>(Bu x _).trans ((Z3 r).cons x)
theorem Qd{a b:Str}:Rg a b=true↔¬ b.cps.toList<a.cps.toList:=by unfold Rg;simp
theorem Bh{a b c:Str}(h1:Rg a b=true)(h2:Rg b c=true):Rg a c=true:=by
 rw[Qd]at *;exact List.not_lt.mpr (List.le_trans (List.not_lt.mp h1) (List.not_lt.mp h2))
theorem Lu{a b:Str}(h:¬ Rg a b=true):Rg b a=true:=by
 rw[Qd]at *;exact fun z=>List.lt_asymm (Decidable.not_not.mp h) z
theorem Ng{a b:Str}(h1:Rg a b=true)(h2:Rg b a=true):a=b:=by
 rw[Qd]at *;have e:a.cps.toList=b.cps.toList:=List.le_antisymm (List.not_lt.mp h1) (List.not_lt.mp h2);cases a;cases b
 congr
 exact Array.toList_inj.mp e
theorem Sx(x:Str):∀r:ZD,r.Pairwise (fun a b=>Rg a b=true)->(jj x r).Pairwise (fun a b=>Rg a b=true)
 | [],_=>List.pairwise_singleton _ _
 | y::r,h=>by
  rw[ZE]at h;unfold jj
  split
  .rename_i hx
   rw[ZE,ZE];exact⟨fun z m=>by rcases Y3.mp m with rfl | m;exact hx;exact Bh hx (h.1 z m),h.1,h.2⟩
  .rename_i hx
   rw[ZE];refine⟨fun z m=>?_,Sx x r h.2⟩;rcases Y3.mp ((Bu x r).mem_iff.mp m) with rfl | m
   .exact Lu hx
   .exact h.1 z m
theorem Gu:∀r:ZD,(Yq r).Pairwise (fun a b=>Rg a b=true)
 | []=>List.Pairwise.nil
 | x::r=>Sx x _ (Gu r)
theorem M9:∀(l:ZD) (p:Str),risingS p l=true->(p::l).Pairwise (fun a b=>Rg a b=true)
 | [],p,_=>List.pairwise_singleton _ _
 | q::l,p,h=>by
  unfold risingS at h;rw[Y8]at h;have r:=M9 l q h.2
  have h1:Rg p q=true:=by
   have:=h.1;rw[ltCps_eq]at this;exact this
  rw[ZE];refine⟨fun z m=>?_,r⟩;rcases Y3.mp m with rfl | m
  .exact h1
  .exact Bh h1 ((ZE.mp r).1 z m)
theorem F9:∀l:ZD,sortedS l=true->l.Pairwise (fun a b=>Rg a b=true)
 | [],_=>List.Pairwise.nil
 | p::l,h=>M9 l p h
theorem A8{a b:ZD}(h:a.Perm b)(s:sortedS a=true):a=Yq b :=
 List.Perm.eq_of_pairwise (fun _ _ _ _ h1 h2=>Ng h1 h2) (F9 a s) (Gu b) (h.trans (Z3 b).symm)
noncomputable def Jm{Z:Type}[DecidableEq Z]:List Z->List Z
 | []=>[]
 | x::r=>if x∈r then Jm r else x::Jm r
theorem Ny{Z:Type}[DecidableEq Z]{x:Z}:∀{l:List Z},x∈Jm l↔x∈l
 | []=>Iff.rfl
 | y::r=>by
  unfold Jm
  split
  .rename_i hy
   rw[Ny,Y3];exact⟨.inr,fun h=>h.elim (fun e=>e ▸ hy) id⟩
  .rw[Y3,Y3,Ny]
theorem Rv{Z:Type}[DecidableEq Z]:∀{l:List Z},(Jm l).Nodup
 | []=>List.Pairwise.nil
 | y::r=>by
  unfold Jm
  split
  .exact Rv
  .rename_i hy
   exact List.nodup_cons.mpr ⟨fun m=>hy (Ny.mp m),Rv⟩
theorem Nk{Z:Type}[DecidableEq Z]:∀{l:List Z},(Jm l).length<=l.length
 | []=>Z5 _
 | y::r=>by
  unfold Jm
  split
  .exact Nat.le_succ_of_le Nk
  .exact Nat.succ_le_succ Nk
theorem Rw{Z:Type}[DecidableEq Z]{us l:List Z}(nd:us.Nodup)(h:∀x,x∈us↔x∈l):us.Perm (Jm l) :=
 (List.perm_ext_iff_of_nodup nd Rv).mpr fun x=>(h x).trans Ny.symm
section
variable{prog:Program}{w:World}{A:Around}{E:ZW}{s:Shared}
theorem Ew{l:Addr}{o:Obj}{vs:ZM}{n:Nat}{T:String}{Q:ZM->Shared->Prop}(ho:s.heap.get? l=some o)(hc:o.cls=.type T)(hT:T = "list" \/ T = "tuple")(hd:o.data=.seq vs.toArray n)
  (h:Q vs { s with heap:=(s.heap.push (seqObj "list" #[] 0)).update s.heap.objs.size (Obj.mapSeq (·++vs.toArray)) }) (hsz:vs.length<=sizeLine) :
  wpAny (model prog w) A (collect (.ref l)) Q E s:=by
 unfold collect;refine Zx (wpAny_runValue (codeAny_builtin entry_proto_collect' ?_));show wpAny _ _ (do again (.builtin "list.__iadd__" ⟨[<-newList [],.ref l],[]⟩)) _ _ s;refine Zx (wpAny_newList (Zf ⟨Code.quiet_builtin _ (by decide +kernel),codeAny_builtin entry_list_iadd' ?_⟩));show wpAny _ _ (Builtin.List.listExtendWith (.ref s.heap.objs.size) (.ref l) (.ref s.heap.objs.size)) _ _ { s with heap:=s.heap.push (seqObj "list" #[] 0) };unfold Builtin.List.listExtendWith;have Wn:(s.heap.push (seqObj "list" #[] 0)).get? l=some o:=Yr _ ho;refine Zx (wpAny_typeOf (T:=T) ⟨o,Wn,hc⟩ ?_)
 have ht:(Value.type T == Value.type "list" || Value.type T == Value.type "tuple")=true:=by
  rcases hT with rfl | rfl<;>rfl
 rw[if_pos (by rw[Bool.or_assoc,ht];simp)];refine Zx (listItems_at Wn hd ?_);refine Zx (listItems_at (xs:=#[]) (n:=0) (U1 _ rfl) rfl ?_);rw[if_neg (by simp)];refine Zx (listUpdate_at (xs:=#[]) (n:=0) (U1 _ rfl) rfl ?_ (Ma _) (by show (#[]++vs.toArray).size<=sizeLine+1;simp only[Array.size_append,Vy,List.length_nil];omega));refine Zf ?_
 show wpAny (model prog w) A (do
   let o <-load s.heap.objs.size
   match o.data with
   | .seq xs _=>pure xs.toList
   | _=>unsupported "internal:collect") Q E { s with heap:=(s.heap.push (seqObj "list" #[] 0)).update s.heap.objs.size (Obj.mapSeq (·++vs.toArray)) }
 refine Zx (wpAny_load (get?_update_seq (U1 _ rfl) _) ?_);show wpAny _ _ (pure ((#[]:ZN)++vs.toArray).toList) Q E _;rw[show ((#[]:ZN)++vs.toArray).toList=vs by simp];exact Zf h
theorem Og{l:Addr}{o:Obj}{vs:ZM}{n:Nat}{T:String}{Q:ZW}(ho:s.heap.get? l=some o)(hc:o.cls=.type T)(hT:T = "list" \/ T = "tuple")(hd:o.data=.seq vs.toArray n)(hsz:vs.length<=sizeLine)
  (h:∀(h1:Heap) (D:Addr),(∀b ob,s.heap.get? b=some ob->h1.get? b=some ob)->s.heap.objs.size<=D->h1.get? D=some (seqObj "list" vs.toArray 0) ->
   wpAny (model prog w) A.in1 (call (.builtin "list.sort") [.ref D]) (fun _ s'=>Q (.ref D) s') E { s with heap:=h1 }) :
  wpAny (model prog w) A (call (.builtin "sorted") [.ref l]) Q E s:=by
 refine Calls.call_function_entry kind_sorted plain_sorted entry_sorted (args_sorted1 _) ?_;unfold Builtin.«sorted»;refine Zx (m:=checkCount "sorted" 1 1 _) (Zf ?_);refine Zx (Ew ho hc hT hd ?_ hsz);refine Zx (wpAny_newList ?_ hsz)
 have Xi:((s.heap.push (seqObj "list" #[] 0)).update s.heap.objs.size (Obj.mapSeq (·++vs.toArray))).objs.size=s.heap.objs.size+1:=by
  rw[Heap.size_update,size_push']
 have k1:∀b ob,s.heap.get? b=some ob->((s.heap.push (seqObj "list" #[] 0)).update s.heap.objs.size (Obj.mapSeq (·++vs.toArray))).get? b=some ob:=fun b ob e=>by
  rw[Heap.get?_update_ne _ _ _ _ (Gk (Y7 e))];exact Yr _ e
 have hg:=h ((((s.heap.push (seqObj "list" #[] 0)).update s.heap.objs.size (Obj.mapSeq (·++vs.toArray)))).push (seqObj "list" vs.toArray 0)) _ (fun b ob e=>Yr _ (k1 b ob e)) (by rw[Xi];exact Nat.le_succ _) (U1 _ rfl);refine Zx (wpAny_holding (wpAny_mono hg (fun _ s' x=>?_) fun _ _ e=>e));exact Zf ⟨_,rfl,x⟩
def Srt(prog:Program)(w:World)(Ok:Heap->Prop)(vs:ZM)(R:ZM->Prop):Prop:=∀(A:Around) (E:ZW) (s:Shared) (D:Addr) (Q:Shared->Prop),Ok s.heap->s.heap.get? D=some (seqObj "list" vs.toArray 0) ->
 (∀(h1:Heap) (out:ZN) (n:Nat),(∀b ob,b≠D->s.heap.get? b=some ob->h1.get? b=some ob)->h1.get? D=some (seqObj "list" out n)->R out.toList->Q { s with heap:=h1 }) ->
 wpAny (model prog w) A (call (.builtin "list.sort") [.ref D]) (fun _ s'=>Q s') E s
theorem srt_ints{Ok:Heap->Prop}{vs:ZM}{zs:ZL}(hI:IntsAre vs zs)(h64:vs.length<64):Srt prog w Ok vs fun o=>IntsAre o (Bb zs):=by
 intro A E s D Q _ G9 h;refine wpAny_call_entry slot_list_sort ⟨_,G9,rfl⟩ entry_list_sort ?_ (args_list_sort _);refine list_sort_tree G9 hI h64 fun out ns q1 q2 q3=>⟨_,rfl, ?_⟩;obtain⟨n,e⟩:=sortedHeap_at (h:=s.heap) (a:=D) (vs:=vs) (n:=0) (out:=out) G9;exact h _ out n (fun b ob nb e0=>SetM.Yk nb e0) e (by rw[<-A9 q2 q3];exact q1)
theorem srt_strs{Ok:Heap->Prop}{vs:ZM}{ss:ZD}(hI:StrsAre vs ss)(h64:vs.length<64):Srt prog w Ok vs fun o=>StrsAre o (Yq ss):=by
 intro A E s D Q _ G9 h;refine wpAny_call_entry slot_list_sort ⟨_,G9,rfl⟩ entry_list_sort ?_ (args_list_sort _);refine list_sort_treeK strKind_oneLt G9 hI.keysOf (fun v1 v2 rest e=>keyKind_strs (by rw[<-e];exact hI)) h64 fun st hp hs=>⟨_,rfl, ?_⟩;obtain⟨ns,q1,q2,q3⟩:=sorted_out_str hI hp hs;obtain⟨n,e⟩:=sortedHeap_at (h:=s.heap) (a:=D) (vs:=vs) (n:=0) (out:=(arrOf st).map (·.2)) G9;exact h _ _ n (fun b ob nb e0=>SetM.Yk nb e0) e (by rw[<-A8 q2 q3];exact q1)
end
theorem L3:∀{zs:ZL} {vs:ZM},Zv (zs.map V.int) vs->IntsAre vs zs
 | [],_,h=>by cases h;exact .nil
 | z::zs,_,h=>by
  cases h with | cons a b =>
  obtain⟨t,rfl⟩:=(show ∃t,_=Value.int z t from a);exact .cons _ _ (L3 b)
theorem Lw:∀{zs:ZD} {vs:ZM},Zv (zs.map V.str) vs->StrsAre vs zs
 | [],_,h=>by cases h;exact .nil
 | z::zs,_,h=>by
  cases h with | cons a b =>
  obtain⟨t,rfl⟩:=(show ∃t,_=Value.str z t from a);exact .cons _ _ (Lw b)
theorem Bv{P:Program}{w:World}:∀{XB:List (Key×Value)} {vs:ZM},vs.length=XB.length->(∀(j:Nat) (v:Value),vs[j]?=some v->∃k x,XB[j]?=some (k,x)/\(Zg P w).is k v=true)->Zv (XB.map fun p=>kV p.1) vs
 | [],vs,l,_=>by
  cases vs with
  | nil=>exact .nil
  | cons _ _=>simp at l
 | (k,x)::r,vs,l,h=>by
  cases vs with
  | nil=>simp at l
  | cons v vs =>
   obtain⟨k',x',ek,iv⟩:=h 0 v rfl;cases(show some (k,x)=some (k',x') from ek);refine .cons ?_ (Bv (by simpa using l) fun j v hv=>h (j+1) v hv);rcases Zb (show G4 k v=true from iv) with ⟨j,t,rfl,rfl⟩ | ⟨y,t,rfl,rfl⟩
   .exact⟨t,rfl⟩
   .exact⟨t,rfl⟩
section
variable{X:Cx}
def j8(X:Cx)(H:Hp)(zs ys:ZQ):Prop:=ys.length=zs.length/\∀XF Z s,Inv X XF Z H s->∀vs,Zv zs vs->∃Ok:Heap->Prop,(∀h1:Heap,(∀b o,b≠X.env.locals->s.heap.get? b=some o->h1.get? b=some o)->Ok h1)/\Srt X.prog X.w Ok vs fun o=>Zv ys o
theorem xy{H:Hp}{zs:ZL}(h:zs.length<64):j8 X H (zs.map V.int) ((Bb zs).map V.int):=by
 refine⟨by rw[Z4,Z4,(V5 zs).length_eq],fun XF Z s I vs r=>⟨fun _=>True,fun _ _=>trivial, ?_⟩⟩;have:=srt_ints (prog:=X.prog) (w:=X.w) (Ok:=fun _=>True) (L3 r) (by rw[<-r.length,Z4];exact h);intro A E s D Q o e q;exact this A E s D Q o e fun h1 out n k e1 r1=>q h1 out n k e1 (Dv r1)
theorem xv{H:Hp}{zs:ZD}(h:zs.length<64):j8 X H (zs.map V.str) ((Yq zs).map V.str):=by
 refine⟨by rw[Z4,Z4,(Z3 zs).length_eq],fun XF Z s I vs r=>⟨fun _=>True,fun _ _=>trivial, ?_⟩⟩;have:=srt_strs (prog:=X.prog) (w:=X.w) (Ok:=fun _=>True) (Lw r) (by rw[<-r.length,Z4];exact h);intro A E s D Q o e q;exact this A E s D Q o e fun h1 out n k e1 r1=>q h1 out n k e1 (Bw r1)
theorem Gv:Ye X (.builtin "sorted") (fun xs H Q=>∃(a:Addr) (zs ys:ZQ),xs=[.ref a]/\(Vi X.K H a zs\/Yu X.K H a zs)/\j8 X H zs ys/\∀l:Addr,H l=none->Q (.ref l) (upd H l (.lst ys))):=by
 intro XF s Z H xs us Q I r h;obtain⟨a,zs,ys,rfl,hq,hv,q⟩:=h;obtain⟨u,rfl,rx⟩:=vals1 r;cases rx
 obtain⟨XM,o,T,n,rv,e0,hc,hT,hd,z⟩:∃(XM:ZM) (o:Obj) (T:String) (n:Nat),Zv zs XM/\s.heap.get? a=some o/\o.cls=.type T/\(T = "list" \/ T = "tuple")/\o.data=.seq XM.toArray n/\zs.length<=sizeLine:=by
  rcases hq with hq | hq
  .obtain⟨XM,rv,⟨o,n,e,hc,_,hd⟩,z⟩:=I.list hq;exact⟨XM,o,_,n,rv,e,hc,.inl rfl,hd,z⟩
  .obtain⟨XM,rv,⟨o,e,hc,n,hd⟩,z⟩:=I.tuple hq;exact⟨XM,o,_,n,rv,e,hc,.inr rfl,hd,z⟩
 obtain⟨lv,hv⟩:=hv;obtain⟨Ok,ok,st⟩:=hv XF Z s I XM rv;refine Og e0 hc hT hd (by rw[<-rv.length];exact z) fun h1 D k1 sz G9=>?_;refine st _ _ { s with heap:=h1 } D _ (ok h1 fun b o _ e=>k1 b o e) G9 fun h2 out n k2 at2 r2=>?_;refine⟨.ref D,_,I.put (o:=.lst ys) (t':=s.toks) (d':=s.drawn) (fun b o e=>k2 b o (Gk (W6 (Y7 e) sz)) (k1 b o e)) sz ⟨by rw[lv];exact z,out.toList,n,r2,by simpa using at2⟩,rfl,q D (I.hok.fresh sz)⟩
theorem Q9(hc:X.calm=true):Ye X (.builtin "sorted") (fun xs H Q=>∃(a:Addr) (XB:List (Key×V)) (ys:ZQ),xs=[.ref a]/\Rd H a (.dK XB)/\j8 X H (XB.map fun p=>kV p.1) ys/\∀l:Addr,H l=none->Q (.ref l) (upd H l (.lst ys))):=by
 intro XF s Z H xs us Q I r h;obtain⟨a,XB,ys,rfl,hq,⟨lv,hv⟩,q⟩:=h;obtain⟨u,rfl,rx⟩:=vals1 r;cases rx;obtain⟨z,hd,ws,rel,dd⟩:=Ni I.hok hq;obtain⟨ep,da⟩:=dd.dictAt;obtain⟨m,hn,fr,nw⟩:=I.frame;refine W.kdu_sorted (W.kdl_dict (knd:=Zg X.prog X.w) (ep:=ep) hd) (I.ok.hd hc) fr nw da (by rw[<-rel.length];exact z) fun D h' tk vs f' n' hD vl wy=>?_
 have rv:Zv (XB.map fun p=>kV p.1) vs:=by
  have:=Bv vl wy;have e:=congrArg (List.map kV) rel.keys;rw[List.map_map,List.map_map]at e;have e:(XB.map fun p=>kV p.1)=ws.map fun p=>kV p.1:=e;rw[e];exact this
 obtain⟨Ok,ok,st⟩:=hv XF Z s I vs rv;have ka:=Qn f' n' fun p hp=>Vf _ hp;have nD:=Inv.newAt (X:=X) (m:=m) n' hD;obtain⟨eD,nDL,_⟩:=n' _ Vt;have G9:h'.get? D=some (seqObj "list" vs.toArray 0):=eD;refine st _ _ { s with heap:=h',toks:=tk } D _ (ok h' fun b o nb e=>ka b o nb e) G9 fun h2 out n k2 at2 r2=>?_;have neD:∀{b:Addr} {o:Obj},s.heap.get? b=some o->b≠D:=fun {b o} e z=>by rw[z,nD]at e;cases e
 obtain⟨J,fD⟩:=I.lay2 (h':=h2) (D:=D) (u:=.lst ys) (t':=tk) hn (Zz1 f'.ns fun o e=>k2 _ o (fun z=>nDL z.symm) e) (fun b o nb eb=>k2 b o (neD eb) (ka b o nb eb)) nD ⟨by rw[lv,Z4];exact z,out.toList,n,r2,by simpa using at2⟩;exact⟨.ref D,_,J,rfl,q D fD⟩
theorem Hh(hc:X.calm=true):Ye X (.type "list") (fun xs H Q=>∃(a:Addr) (XB:List (Key×V)),xs=[.ref a]/\Rd H a (.dK XB)/\∀l:Addr,H l=none->Q (.ref l) (upd H l (.lst (XB.map fun p=>kV p.1)))):=by
 intro XF s Z H xs us Q I r h;obtain⟨a,XB,rfl,hq,q⟩:=h;obtain⟨u,rfl,rx⟩:=vals1 r;cases rx;obtain⟨z,hd,ws,rel,dd⟩:=Ni I.hok hq;obtain⟨ep,da⟩:=dd.dictAt;refine W.kdl_call (W.kdl_dict (knd:=Zg X.prog X.w) (ep:=ep) hd) (I.ok.hd hc) da (by rw[<-rel.length];exact z) fun h' tk acc c k1 G9 hacc=>?_
 have rv:Zv (XB.map fun p=>kV p.1) acc.toList:=by
  have:=Bv (P:=X.prog) (w:=X.w) (XB:=ws) (vs:=acc.toList) (by rw[W8];exact hacc.1) fun j v e=>hacc.2 j v (by rw[<-Array.getElem?_toList];exact e);have e:=congrArg (List.map kV) rel.keys;rw[List.map_map,List.map_map]at e;have e:(XB.map fun p=>kV p.1)=ws.map fun p=>kV p.1:=e;rw[e];exact this
 exact⟨.ref s.heap.objs.size,_,I.put (o:=.lst (XB.map fun p=>kV p.1)) (d':=s.drawn) k1 (Z5 _) ⟨by rw[Z4];exact z,acc.toList,c,rv,by simpa using G9⟩,rfl,q _ (I.hok.fresh (Z5 _))⟩
end
end SRT
namespace DicL
open PySem PySem.Spec PyProof.Rows
open DicP2
theorem tl1:typeLookup (.type "list") (Str.ofString "__getattribute__")=pure (some (.builtin "list.__getattribute__")):=by rw[typeLookup_type,builtinLookup_eq_fast];kernel_rfl
theorem tl2:typeLookup (.type "list") (Str.ofString "keys")=pure none:=by rw[typeLookup_type,builtinLookup_eq_fast];kernel_rfl
theorem tl3:typeLookup (.type "list") (Str.ofString "__getattr__")=pure none:=by rw[typeLookup_type,builtinLookup_eq_fast];kernel_rfl
theorem slot_ga:Slot "list" (Str.ofString "__getattribute__") "list.__getattribute__" := Slot.of (owner:="list") (n:="__getattribute__") tl1 (by decide +kernel) (by decide +kernel) (by decide +kernel) (.inl (by decide +kernel)) (by rw[isSubtype_type];kernel_rfl)
theorem ls:entryFor table "list.__getattribute__" = some Builtin.«object.__getattribute__»:=entryFor_alias (id':="object.__getattribute__") (by kernel_rfl) rfl (by decide +kernel) (by kernel_rfl)
theorem Zqr(a b:Value):argsOk "list.__getattribute__" ⟨[a,b],[]⟩:=by unfold argsOk;kernel_rfl
theorem Zxs{prog:Program}{w:World}{A:Around}{E:ZW}{s:Shared}{u:Nat}{a:Addr}{XM:ZN}{n:Nat}{sl:ZF}{Q:PySem.Fin->Shared->Prop}(hh:A.handled=none)(ho:s.heap.get? a=some ⟨.type "list",none,.seq XM n,sl⟩)
  (hq:∀e h' t',(∃o,h'.get? e=some o/\o.cls=.type "AttributeError")->(∀b u,s.heap.get? b=some u->h'.get? b=some u)->E (.ref e) { s with heap:=h',toks:=t' }):wpAny (model prog w) A (Builtin.«object.__getattribute__» ⟨[.ref a,.str (Str.ofString "keys") u],[]⟩) Q E s:=by
 obtain⟨h,g,d,t,os⟩:=s;have ho:h.get? a=some ⟨.type "list",none,.seq XM n,sl⟩:=ho;unfold Builtin.«object.__getattribute__»
 wp_walk
 show wpAny _ _ (typeLookup (.type "list") _) _ _ _;rw[tl2]
 wp_walk
 have hl:(Str.ofString (toString "'" ++ toString ((Manifest.find? "list").elim "list" fun x=>x.tpName)++toString "' object has no attribute '")++Str.ofString "keys" ++ Str.ofString "'").length<=sizeLine:=by decide +kernel
 generalize (Str.ofString (toString "'" ++ toString ((Manifest.find? "list").elim "list" fun x=>x.tpName)++toString "' object has no attribute '")++Str.ofString "keys" ++ Str.ofString "'")=msg at hl ⊢;unfold raiseAttrError;refine Zx (wpAny_mkStr ?_ hl);refine Zx (newAE fun h1 e t1 k1 e1 n1=>?_);refine Zx (wpAny_mkText ?_);refine Zx (note e1 fun h2 d2 sb e2=>?_);refine wpAny_raiseNew_none hh (hq e h2 _ ⟨_,e2,rfl⟩ fun b u q=>?_);refine(sb.2 b fun z=>?_).trans (k1 b u q);rw[z]at q;rw[show h.get? e=none from n1]at q;cases q
theorem hb0:hookBefore (.type "list")=pure none:=rfl
theorem qi{prog:Program}{w:World}{A:Around}{E:ZW}{s:Shared}{a:Addr}{XM:ZN}{n:Nat}{sl:ZF}{Q:ZT->Shared->Prop}(hh:A.handled=none)(ho:s.heap.get? a=some ⟨.type "list",none,.seq XM n,sl⟩)
  (hq:∀h' t',(∀b u,s.heap.get? b=some u->h'.get? b=some u)->Q none { s with heap:=h',toks:=t' }):wpAny (model prog w) A (getAttr? (.ref a) (Str.ofString "keys")) Q E s:=by
 obtain⟨h,g,d,t,os⟩:=s;have ho:h.get? a=some ⟨.type "list",none,.seq XM n,sl⟩:=ho;unfold getAttr?;refine Zx (wpAny_mkText ?_);unfold getAttrBy?;refine Zx (wpAny_attempt ?_);unfold getAttrBy;refine wpAny_holding ?_;have ht:Shared.TypeIs ⟨h,g,d,t+1,os⟩ (.ref a) "list" := ⟨_,ho,rfl⟩;refine Zx (wpAny_typeOf ht ?_);rw[tl1];refine Zx (Zf ?_);simp only[];refine wpAny_ite_split (fun z=>absurd z (by decide)) fun _=>?_;unfold getAttrByItsOwn;rw[hb0];refine Zx (Zf ?_);refine Zx (wpAny_attempt (wpAny_holding ?_));show wpAny _ _ (boundAndCalled (.builtin "list.__getattribute__") (.ref a) _) _ _ _;unfold boundAndCalled;rw[slot_ga.toG.bind];refine Zx (Zf ?_);show wpAny _ _ (call (.builtin "list.__getattribute__") [.ref a,.str (Str.ofString "keys") t]) _ _ _;refine wpAny_call_entry slot_ga ht ls ?_ (Zqr _ _);refine Zxs (s:=⟨h,g,d,t+1,os⟩) hh ho fun e h' t' he kp=>?_;obtain⟨o,e1,e2⟩:=he;have ae:∀t'',Shared.TypeIs ⟨h',g,d,t'',os⟩ (.ref e) "AttributeError" := fun _=>⟨o,e1,e2⟩;show wpAny _ _ (getattributeRaised _ _ _ _ _ _ _) _ _ _;unfold getattributeRaised;refine Zx (wpAny_isInstance (T:="AttributeError") (b:=true) (ae _) (by rw[isSubtype_type];kernel_rfl) ?_);simp only[if_true];rw[show hookBehind (Value.type "list") none=typeLookup (.type "list") (Str.ofString "__getattr__") from rfl,tl3];refine Zx (Zf ?_);unfold hookOrError;simp only[];unfold attributeErrorLeaves;simp only[Bool.not_false,if_true];refine Zx (wpAny_throw ?_);refine Zx (wpAny_isInstance (T:="AttributeError") (b:=true) (ae _) (by rw[isSubtype_type];kernel_rfl) ?_);simp only[if_true];exact Zf (hq h' t' kp)
end DicL
namespace DicL
open PySem PySem.Spec PyProof.Rows DicP2
section
variable{prog:Program}{w:World}{K:Type}[DecidableEq K]{knd:PySem.KeyKind prog w K}
variable{A:Around}{R:Result->Shared->Prop}{E:ZW}{s:Shared}{d it t:Addr}{XM:ZN}{rs:List (K×Value)}
theorem loop(hh:A.handled=none)(hdi:d≠it)(htd:t≠d)(hti:t≠it)(hz:rs.length<=sizeLine){h₁:Heap}(ht:h₁.IsList t XM)(hp:Prs knd h₁ XM rs)(hpd:∀(p:Addr),.ref p∈XM.toList->p≠d/\p≠it)
  (fin:∀h' tk,(∀b o,b≠d->b≠it->h₁.get? b=some o->h'.get? b=some o)->h'.DictOf knd d (stK rs rs.length)->R (.ok (.ret .none)) { s with heap:=h',toks:=tk }) :
  ∀(k i:Nat) (h:Heap) (tk:Nat),rs.length - i=k->i<=rs.length->(∀b o,b≠d->b≠it->h₁.get? b=some o->h.get? b=some o)->h.IsListIter it t i->h.DictOf knd d (stK rs i) ->
   codeAny (model prog w) A (.builtin "dict.update.loop" ⟨[.ref d,.ref it,rawInt i,.none],[]⟩) R { s with heap:=h,toks:=tk }:=by
 intro k
 induction k with
 | zero =>
  intro i h tk hk hi kp st dd;have ei:i=rs.length:=by omega
  subst ei;refine codeAny_builtin Rk ?_;rw[Around.under_plainId Jp _]
  change wpAny _ A.in1 (pyNext (.ref it) >>= _) _ _ _
  refine Zx (wpAny_pyNext_list_end (s:={ s with heap:=h,toks:=tk }) (A:=A.in1) hh st (ht.at fun o e=>kp _ o htd hti e) (Array.getElem?_eq_none (by rw[hp.1];exact Z5 _)) fun h' ext=>?_)
  change wpAny _ A.in1 (Builtin.Dict.addKeywords d [] >>= _) _ _ _
  refine Zx (m:=Builtin.Dict.addKeywords d []) ?_;unfold Builtin.Dict.addKeywords;simp only[List.forIn_nil];refine Zx (Zf (Zf (Zf ?_)));refine fin h' tk (fun b o n1 n2 e=>ext b o n2 (kp b o n1 n2 e)) ?_;obtain⟨o,es,ep,e1,r⟩:=dd;exact⟨o,es,ep,ext d o hdi e1,r⟩
 | succ k ih =>
  intro i h tk hk hi kp st dd;have Rt:i<rs.length:=by omega
  obtain⟨⟨kk,vv⟩,hkv⟩:∃p,rs[i]?=some p:=⟨rs[i],V0 Rt⟩;obtain⟨p,u,ep,tp,ku⟩:=hp.2 i kk vv hkv;have np:=hpd p (by rw[<-Array.mem_def];exact Array.mem_of_getElem? ep);refine codeAny_builtin Rk ?_;rw[Around.under_plainId Jp _]
  change wpAny _ A.in1 (pyNext (.ref it) >>= _) _ _ _
  refine Zx (wpAny_pyNext_list_item (s:={ s with heap:=h,toks:=tk }) (A:=A.in1) st (ht.at fun o e=>kp _ o htd hti e) ep fun h' E2 sb=>?_);have tp':IsTup h' p #[u,vv]:=let ⟨o,e1,e2⟩:=tp;⟨o,sb.extBut _ _ np.2 (kp _ _ np.1 np.2 e1),e2⟩;have dd':h'.DictOf knd d (stK rs i):=let ⟨o,es,ep,e1,r⟩:=dd;⟨o,es,ep,sb.extBut _ _ hdi e1,r⟩;simp only[];refine Zx (wpAny_holding (Zx (wpAny_tryCatch ?_)));unfold Builtin.Dict.pairItems;refine Zx (wpAny_typeOf (T:="tuple") tp'.typeIs ?_);simp only[show (Value.type "tuple" == Value.type "list" || Value.type "tuple" == Value.type "tuple")=true from by decide,if_true];obtain⟨o,e1,e2,n,e3⟩:=id tp';refine Zx (m:=seqItems? (.ref p)) ?_;unfold seqItems?;simp only[];refine Zx (wpAny_load e1 ?_);rw[e3];refine Zf (Zf ?_);show wpAny _ _ (holding [u,vv] (dictSet d u vv)) _ _ _;refine wpAny_holding ?_;refine wpAny_dictSet_pairs (hsz:=U0 (Fe rs i) (U0 hi hz)) ku dd' fun h2 dd2 sb2=>?_;refine Zf ⟨plainId_quiet Jp _, ?_⟩;refine ih (i+1) h2 _ (by omega) Rt (fun b o n1 n2 e=>sb2.extBut _ _ n1 (sb.extBut _ _ n2 (kp b o n1 n2 e))) (E2.extBut sb2.extBut hdi.symm) ?_;rw[Ox hkv];exact dd2
theorem Hr{Q:ZW}(hh:A.handled=none){n:Nat}{sl:ZF}(ho:s.heap.get? t=some ⟨.type "list",none,.seq XM n,sl⟩)(hp:Prs knd s.heap XM rs)(hz:rs.length<=sizeLine)
  (hl:∀(p:Addr),.ref p∈XM.toList->p<s.heap.objs.size)
  (fin:∀h' tk,(∀b o,s.heap.get? b=some o->h'.get? b=some o)->h'.DictOf knd s.heap.objs.size (stK rs rs.length)->Q (.ref s.heap.objs.size) { s with heap:=h',toks:=tk }) :
  wpAny (model prog w) A (call (.type "dict") [.ref t]) Q E s:=by
 have lt:∀{c o},s.heap.get? c=some o->c≠s.heap.objs.size:=fun e=>Gk (Y7 e);have pu:∀{c o},s.heap.get? c=some o->(s.heap.push { cls:=.type "dict",data:=.dict #[] }).get? c=some o:=fun e=>Yr _ e
 refine callType_codes (Q₁:=fun obj s₁=>obj=.ref s.heap.objs.size/\s₁={ s with heap:=s.heap.push { cls:=.type "dict",data:=.dict #[] } }) F.kt_called_dict (F.kt_typeCall_dict_1 _) F.entry_dict_init
  (kt_code_dict_new _ ⟨rfl,rfl⟩) fun obj s₁ q=>?_
 obtain⟨rfl,rfl⟩:=q;have G9:(s.heap.push { cls:=.type "dict",data:=.dict #[] }).get? s.heap.objs.size=some { cls:=.type "dict",data:=.dict #[] }:=U1 _ rfl;refine⟨⟨_,G9,rfl⟩,F.args_dict_init_2 _ _, ?_⟩;have ty:Shared.TypeIs { s with heap:=s.heap.push { cls:=.type "dict",data:=.dict #[] } } (.ref s.heap.objs.size) "dict" := ⟨_,G9,rfl⟩;unfold Builtin.«dict.__init__»;unfold Builtin.Dict.selfAndRest;refine Zx (Zx (wpAny_notOrdered_dict ty ?_));refine Zx (m:=Builtin.Dict.addrOf (.ref s.heap.objs.size)) (Zf (Zf ?_));show wpAny _ _ (Builtin.Dict.updateFrom "dict.__init__" s.heap.objs.size (.ref t) [] .none) _ _ _;unfold Builtin.Dict.updateFrom;refine Zx (wpAny_typeOf (T:="list") ⟨_,pu ho,rfl⟩ ?_);simp only[show (Value.type "list" != Value.type "dict")=true from by decide,if_true];refine Zx (qi (s:={ s with heap:=s.heap.push { cls:=.type "dict",data:=.dict #[] } }) (A:=A.in1.in1) hh (pu ho) fun h2 t2 k2=>?_);simp only[Option.isNone_none,if_true];refine Zx (wpAny_rule ?_);have tu:Heap.IsList h2 t XM:=⟨_,k2 _ _ (pu ho),rfl,n,rfl⟩;refine Zx (wpAny_pyIter_list (s:={ s with heap:=h2,toks:=t2 }) tu ?_);have lt2:∀{c o},h2.get? c=some o->c≠h2.objs.size:=fun e=>Gk (Y7 e);have at2:=k2 _ _ G9;have sz2:s.heap.objs.size<h2.objs.size:=Y7 at2;refine Zf ⟨plainId_quiet Jp _, ?_⟩;have kp3:∀b o,h2.get? b=some o->(h2.push { cls:=.type "list_iterator",data:=.fields #[.ref t,.int 0 0] }).get? b=some o:=fun b o e=>Yr _ e;refine loop (knd:=knd) (s:=s) (A:=A.in1) (d:=s.heap.objs.size) (it:=h2.objs.size) (t:=t) hh (Gk sz2) (lt ho) (lt2 (k2 _ _ (pu ho))) hz (h₁:=h2.push { cls:=.type "list_iterator",data:=.fields #[.ref t,.int 0 0] }) (tu.at fun o e=>kp3 _ o e) ⟨hp.1,fun j k v e=>?_⟩ (fun p hm=>⟨Gk (hl p hm),Gk (Nat.lt_trans (hl p hm) sz2)⟩) (fun h' tk kp dd=>?_) _ 0 _ t2 rfl (Ma _) (fun b o _ _ e=>e) ⟨_,U1 _ rfl,rfl,rfl⟩ ?_
 .obtain⟨p,u,e1,tp,ku⟩:=hp.2 j k v e;exact⟨p,u,e1,let ⟨o,a1,a2⟩:=tp;⟨o,kp3 _ _ (k2 _ _ (pu a1)),a2⟩,ku⟩
 .refine⟨rfl,fin h' tk (fun b o e=>kp b o (lt e) (lt2 (k2 _ _ (pu e))) (kp3 _ _ (k2 _ _ (pu e)))) dd⟩
 .exact⟨_, #[],_,kp3 _ _ at2,⟨rfl,rfl,rfl⟩,rfl,fun e he=>by simp at he,.nil,List.nodup_nil⟩
end
end DicL
namespace SetM
open PySem PySem.Spec PyProof.Rows
section
variable{prog:Program}{w:World}{A:Around}{E:ZW}{s:Shared}
variable{K:Type}[DecidableEq K]{knd:KeyKind prog w K}
set_option maxHeartbeats 4000000 in
theorem js{l:Addr}{xs:ZN}{val:Nat->K}{Q:ZW}(hh:A.handled=none)(hl:s.heap.IsTuple l xs)(hx:∀i v,xs[i]?=some v->knd.is (val i) v=true/\v.scannable=true)(hb:xs.size+1<scanBound)
  (fin:∀(h1:Heap) (tk:Nat) (ks:List K),Jf knd h1 s.heap.objs.size ks->Wz val xs.size ks->(∀b o,s.heap.get? b=some o->h1.get? b=some o)->Q (.ref s.heap.objs.size) { s with heap:=h1,toks:=tk }) :
  wpAny (model prog w) A (call (.type "set") [.ref l]) Q E s:=by
 refine R0 PySem.F.called_set (PySem.F.typeCall_set_1 (.ref l)) (Xb (.ref l) ?_);generalize hb0:(!(w.params.followText "set-order"))=b0;have at0:(s.heap.push (Vk b0)).get? s.heap.objs.size=some (Vk b0):=U1 _ rfl;have ty0:Shared.TypeIs { s with heap:=s.heap.push (Vk b0) } (.ref s.heap.objs.size) "set" := ⟨_,at0,rfl⟩;refine⟨ty0,codeAny_call_builtin PySem.F.called_set.init.plain PySem.F.entry_set_init (check_set_init_1 ty0 ?_)⟩;obtain⟨⟨c0,d0,dt0,sl0⟩,e0,hc0,n0,hd0⟩:=hl;simp only at hc0 hd0;subst hc0 hd0;have e1:(s.heap.push (Vk b0)).get? l=some ⟨.type "tuple",d0,.seq xs n0,sl0⟩:=Yr _ e0;have li:(s.heap.push (Vk b0)).IsTuple l xs:=⟨_,e1,rfl,n0,rfl⟩;have u1:=PySem.F.sub_tuple_set;have u2:=PySem.F.sub_tuple_frozenset;have u3:(Value.type "tuple" == Value.type "dict")=false:=by decide
 unfold Builtin.«set.__init__» noKeywords Builtin.Frozenset.updateFrom;generalize hit:pyIter=it
 wp_walk
 subst hit;have lt0:l<s.heap.objs.size:=Y7 e0;have sz:(s.heap.push (Vk b0)).objs.size=s.heap.objs.size+1:=Heap.size_push _ _;refine wpAny_pyIter_tuple li (Zx (wpAny_runValue ?_))
 refine B1 (knd:=knd) (val:=val) ((Walks.tuple (by simp[hh]) _ l (by rw[sz];exact Gk (Nat.lt_succ_of_lt lt0)) xs).toS) (fun z=>(Y3.mp z).elim (fun z=>absurd z (Gk (by rw[sz];exact Nat.lt_succ_self _))) fun z=>absurd (B8.mp z) (Nat.ne_of_gt lt0)) hx hb 0 _ [] (Ma _) ⟨⟨_,U1 _ rfl,rfl,rfl⟩,li.aT fun o e=>Yr _ e⟩
  ⟨_,Yr _ at0,⟨⟨rfl,rfl,rfl⟩,⟨#[],0,_,rfl,fun e he=>by simp at he,.nil,by unfold scanBound;decide,Lj _ _ _,hb0.symm⟩,List.nodup_nil⟩⟩ (Wz.zero val) ?_
 rintro⟨h2,g2,d2,tk2,o2⟩ ks mv S2 u;have x1:g2=s.gens:=mv.gens;have x2:d2=s.drawn:=mv.drawn;have x3:o2=s.os:=mv.os;subst x1 x2 x3;refine Zf (Zf ⟨rfl,fin h2 tk2 ks S2 u fun b o e=>mv.heap b o ?_ (Yr _ (Yr _ e))⟩);have lb:=Y7 e;intro z;rcases Y3.mp z with z | z
 .exact absurd z (Gk lb)
 .have z:=B8.mp z;rw[sz]at z;exact absurd z (Gk (Nat.lt_succ_of_lt lb))
end
end SetM
namespace L2
open PySem PySem.Spec PyProof.Rows
section
variable{X:Cx}
theorem Fq(hc:X.calm=true):Ye X (.type "set") (fun xs H Q=>∃(p:Addr) (ks:List Key),xs=[.ref p]/\(Vi X.K H p (ks.map kV)\/Yu X.K H p (ks.map kV))/\ks.length+1<scanBound /\
  ∀(l:Addr) (us:List Key),H l=none->us.Nodup->(∀x,x∈us↔x∈ks)->us.length<=ks.length->Q (.ref l) (upd H l (Wq X.prog X.w l us))):=by
 intro XF s Z H xs us Q I r h;obtain⟨p,ks,rfl,hq,hz,q⟩:=h;obtain⟨u,rfl,rx⟩:=vals1 r;cases rx;rcases hq with hq | hq
 .obtain⟨XM,rv,pl,hzz⟩:=I.list hq;have hl:XM.toArray.size=ks.length:=by rw[Vy, <-rv.length,Z4]
  refine SetM.rl (knd:=Zg X.prog X.w) (val:=fun i=>ks.getD i (.inl 0)) (I.ok.hd hc) pl.isList (fun i v e=>?_) (by omega) fun h1 tk ws S u k1=>?_
  .have e':XM[i]?=some v:=by simpa using e
   have hi:i<ks.length:=by
    have:=(Bz.mp e').1;rw[Vy]at hl;omega
   have e2:(ks.map kV)[i]?=some (kV ks[i]):=by rw[Cz,V0 hi];rfl
   obtain⟨v',g1,g2⟩:=rv.get e2;rw[e']at g1;cases g1;have e3:ks.getD i (.inl 0)=ks[i]:=by simp[hi]
   rw[e3];exact Im _ g2
  .obtain⟨o,ho,SO⟩:=id S
   have mem:∀x,x∈ws↔x∈ks:=fun x=>by
    rw[u.mem x,hl];constructor
    .rintro⟨j,h1,h2⟩;rw[<-h2];have e3:ks.getD j (.inl 0)=ks[j]:=by simp[h1]
     rw[e3];exact wu h1
    .intro hx;obtain⟨j,h1,h2⟩:=List.mem_iff_getElem.mp hx;exact⟨j,h1,by simp[h1,h2]⟩
   refine⟨.ref s.heap.objs.size,_,I.put (o:=Wq X.prog X.w s.heap.objs.size ws) (d':=s.drawn) k1 (Z5 _) ⟨S,⟨o,ho⟩,fun h2 h3 x e=>SetM.Jf.at' x e⟩,rfl,q _ ws (I.hok.fresh (Z5 _)) SO.nd mem ?_⟩;have:=u.len;omega
 .obtain⟨XM,rv,pl,hzz⟩:=I.tuple hq;have hl:XM.toArray.size=ks.length:=by rw[Vy, <-rv.length,Z4]
  refine SetM.js (knd:=Zg X.prog X.w) (val:=fun i=>ks.getD i (.inl 0)) (I.ok.hd hc) pl (fun i v e=>?_) (by omega) fun h1 tk ws S u k1=>?_
  .have e':XM[i]?=some v:=by simpa using e
   have hi:i<ks.length:=by
    have:=(Bz.mp e').1;rw[Vy]at hl;omega
   have e2:(ks.map kV)[i]?=some (kV ks[i]):=by rw[Cz,V0 hi];rfl
   obtain⟨v',g1,g2⟩:=rv.get e2;rw[e']at g1;cases g1;have e3:ks.getD i (.inl 0)=ks[i]:=by simp[hi]
   rw[e3];exact Im _ g2
  .obtain⟨o,ho,SO⟩:=id S
   have mem:∀x,x∈ws↔x∈ks:=fun x=>by
    rw[u.mem x,hl];constructor
    .rintro⟨j,h1,h2⟩;rw[<-h2];have e3:ks.getD j (.inl 0)=ks[j]:=by simp[h1]
     rw[e3];exact wu h1
    .intro hx;obtain⟨j,h1,h2⟩:=List.mem_iff_getElem.mp hx;exact⟨j,h1,by simp[h1,h2]⟩
   refine⟨.ref s.heap.objs.size,_,I.put (o:=Wq X.prog X.w s.heap.objs.size ws) (d':=s.drawn) k1 (Z5 _) ⟨S,⟨o,ho⟩,fun h2 h3 x e=>SetM.Jf.at' x e⟩,rfl,q _ ws (I.hok.fresh (Z5 _)) SO.nd mem ?_⟩;have:=u.len;omega
theorem T8(hc:X.calm=true):Ye X (.type "dict") (fun xs H Q=>∃(a:Addr) (ys:ZQ) (XB:List (Key×V)),xs=[.ref a]/\Vi X.K H a ys/\ys.length=XB.length/\(∀(j:Nat) (k:Key) (v:V),XB[j]?=some (k,v)->∃p,ys[j]?=some (.ref p)/\Yu X.K H p [kV k,v]) /\
  ∀D,H D=none->Q (.ref D) (upd H D (.dK (L7 XB)))):=by
 intro XF s Z H xs us Q I r h;obtain⟨a,ys,XB,rfl,sq,hl,hp,q⟩:=h;obtain⟨u,rfl,rx⟩:=vals1 r;cases rx;obtain⟨XM,rv,⟨o,n,e1,e2,e4,e3⟩,hz⟩:=I.list sq;obtain⟨oc,od,dt,sl⟩:=o;obtain rfl:oc=_:=e2;obtain rfl:dt=_:=e3;obtain rfl:od=none:=e4
 obtain⟨rs,kv,pr⟩:=O6 (P:=fun j k w=>∃p u,XM.toArray[j]?=some (.ref p)/\IsTup s.heap p #[u,w]/\(Zg X.prog X.w).is k u=true) (XB:=XB) 0 fun j k v e=>by
  obtain⟨p,ep,sp⟩:=hp j k v e;obtain⟨jts,jr,tp,_⟩:=I.tuple sp;cases jr with
  | cons j1 j2=>cases j2 with
   | cons j2 j3 =>
    cases j3;obtain⟨w,ew,Kh⟩:=rv.get ep;cases(show w=Value.ref p from Kh);exact⟨_,j2,p,_,by simpa using ew,tp,L0 j1⟩
 have lr:XM.toArray.size=rs.length:=by rw[Vy, <-rv.length,hl,kv.length]
 have pr':∀(j:Nat) (k:Key) (w:Value),rs[j]?=some (k,w)->∃p u,XM.toArray[j]?=some (.ref p)/\IsTup s.heap p #[u,w]/\(Zg X.prog X.w).is k u=true:=fun j k w e=>by
  have:=pr j k w e;rw[Nat.zero_add]at this;exact this
 have kz:XB.length<=sizeLine:=by rw[<-hl];exact hz
 refine DicL.Hr (knd:=Zg X.prog X.w) (rs:=rs) (I.ok.hd hc) e1 ⟨lr,pr'⟩ (by rw[<-kv.length];exact kz) (fun p hm=>?_) fun h' tk kp dd=>?_
 .obtain⟨j,hj⟩:=List.mem_iff_getElem?.mp hm
  have hjl:j<rs.length:=by
   rw[<-lr];have:=(Bz.mp hj).1;simpa using this
  obtain⟨p',u,a1,tp,_⟩:=pr' j _ _ (V0 hjl);have:Value.ref p=Value.ref p':=D3 ((show XM.toArray[j]?=some (.ref p) by simpa using hj).symm.trans a1);cases this;exact tp.lt
 .refine⟨.ref s.heap.objs.size,_,I.laid (o:=.dK (L7 XB)) (t':=tk) kp (Z5 _) (Hc ?_ (B0n.mpr (Ne.symm (Gk I.big))) (vs:=DicP2.stK rs rs.length) ?_ dd),rfl,q _ (I.hok.fresh (Z5 _))⟩
  .have:=B0 XB [];unfold L7;simp only[List.length_nil,Nat.zero_add]at this;omega
  .unfold DicP2.stK L7;rw[List.take_length];exact Xl kv .nil
end
end L2
namespace PySem.SeqAt
open PySem PySem.Spec PyProof.Rows PySem.Calls
theorem P9(b:Str)(u:Tok)(l:Addr)(es:Array DictEntry)(n:Nat)(dd:ZP)(sl:ZF) :
  Meets (Builtin.«str.__eq__» ⟨[.str b u,.ref l],[]⟩) (fun _ R s=>s.heap.get? l=some { cls:=.type "dict",dict:=dd,data:=.dict es n,slots:=sl }/\R (.ok (.ret .notImplemented)) s) :=
 .of_wp fun prog w A R s h=>by obtain⟨hp,g,d,tk,os⟩:=s;obtain⟨hl,h⟩:=h;wp_walk using wpAny_loadPart' hl,wpAny_load hl;exact⟨_,rfl,h⟩
theorem S9(b:Str)(u:Tok)(l:Addr)(es:Array DictEntry)(n:Nat)(dd:ZP)(sl:ZF) :
  Meets (Builtin.«dict.__eq__» ⟨[.ref l,.str b u],[]⟩) (fun _ R s=>s.heap.get? l=some { cls:=.type "dict",dict:=dd,data:=.dict es n,slots:=sl }/\R (.ok (.ret .notImplemented)) s) :=
 .of_wp fun prog w A R s h=>by
  obtain⟨hp,g,d,tk,os⟩:=s;obtain⟨hl,h⟩:=h;have f1:=F.sub_str_dict
  wp_walk using wpAny_loadPart' hl,wpAny_load hl
  exact⟨_,rfl,h⟩
section
variable{A:Around}{s:Shared}
theorem RcAt.str_dict{l:Addr}{es:Array DictEntry}{n:Nat}{dd:ZP}{sl:ZF}(b:Str)(u:Tok)(ho:s.heap.get? l=some { cls:=.type "dict",dict:=dd,data:=.dict es n,slots:=sl })(hu:A.units<cLine):RcAt A s (.str b u) (.ref l) false:=fun prog w E Q h=>by
 exact rc_eq_decline_or (k:=false) (typeIs_str s b u) ⟨_,ho,rfl⟩ (by decide) F.sub_dict_str F.slot_str_eq F.slot_dict_eq_refl
  (fun _ hq=>call_meets F.slot_str_eq (typeIs_str s b u) F.entry_str_eq (F.args_str_eq_2 _ _) (P9 b u l es n dd sl) ⟨ho,hq⟩)
  (fun _ hq=>call_meets F.slot_dict_eq_refl ⟨_,ho,rfl⟩ F.entry_dict_eq (F.args_dict_eq_2 _ _) (S9 b u l es n dd sl) ⟨ho,hq⟩)
  (fun _ hq=>wpAny_of_eq (rfl:isSame (.str b u) (.ref l)=pure false) hq) (.inr hu) h
theorem EqAt.str_dict{l:Addr}{es:Array DictEntry}{n:Nat}{dd:ZP}{sl:ZF}(b:Str)(u:Tok)(ho:s.heap.get? l=some { cls:=.type "dict",dict:=dd,data:=.dict es n,slots:=sl })(hu:A.units<cLine):EqAt A s (.str b u) (.ref l) false:=fun prog w E Q h=>by
 unfold eqBool;refine wpAny_holding ?_;refine wpAny_ite_split (fun hab=>absurd (eq_of_beq hab) nofun) (fun _=>?_);exact Zx (RcAt.str_dict b u ho hu prog w E _ (wpAny_truthy_bool h))
end
end PySem.SeqAt
namespace SRT
open PySem PySem.Spec PyProof.Rows PySem.W
section
variable{n:Nat}{z:Nat->Int}{s:Shared}{cmp:Nat->Nat->(Bool->Shared->Prop)->Shared->Prop}
def Pm(n:Nat)(p:ZS):Prop:=p.toList.Perm (List.range n)
noncomputable def ky(z:Nat->Int)(p:ZS)(k:Nat):Int:=z (p[k]?.getD 0)
def Ak(z:Nat->Int)(p:ZS)(k:Nat):Prop:=∀i j,i<j->j<k->ky z p i<ky z p j
def Dn(z:Nat->Int)(p:ZS)(k:Nat):Prop:=∀i j,i<j->j<k->ky z p j<ky z p i
theorem getD_eq(p:ZS)(k:Nat):p.getD k 0=p[k]?.getD 0:=by
 unfold Array.getD
 split
 .rename_i h;rw[Fb h];rfl
 .rename_i h;rw[Array.getElem?_eq_none (by omega)];rfl
theorem Pm.size{p:ZS}(h:Pm n p):p.size=n:=by rw[<-W8,h.length_eq,XJ]
theorem Pm.lt{p:ZS}(h:Pm n p){k:Nat}(hk:k<n):p[k]?.getD 0<n:=by
 have hs:k<p.size:=by rw[h.size];exact hk
 rw[Fb hs];exact List.mem_range.mp (h.mem_iff.mp (Array.mem_def.mp (Array.getElem_mem hs)))
theorem Pm.inj{p:ZS}(h:Pm n p){k l:Nat}(hk:k<n)(hl:l<n)(e:p[k]?.getD 0=p[l]?.getD 0):k=l:=by
 have hs:k<p.size:=by rw[h.size];exact hk
 have ht:l<p.size:=by rw[h.size];exact hl
 rw[Fb hs,Fb ht]at e;have nd:p.toList.Nodup:=h.nodup_iff.mpr List.nodup_range;have e:p[k]=p[l]:=e;rw[<-Array.getElem_toList (h:=hs), <-Array.getElem_toList (h:=ht)]at e;rcases Nat.lt_trichotomy k l with q | q | q
 .exact absurd e (List.pairwise_iff_getElem.mp nd k l _ _ q)
 .exact q
 .exact absurd e.symm (List.pairwise_iff_getElem.mp nd l k _ _ q)
theorem Pm.perm{p q:ZS}(h:Pm n p)(e:q.Perm p):Pm n q:=(Array.perm_iff_toList_perm.mp e).trans h
variable(hz:∀i j,i<n->j<n->z i=z j->i=j)(hc:∀i j,i<n->j<n->i≠j->∀C:Bool->Shared->Prop,C (decide (z i<z j)) s->cmp i j C s)
include hz in
theorem Pm.ne{p:ZS}(h:Pm n p){k l:Nat}(hk:k<n)(hl:l<n)(e:ky z p k=ky z p l):k=l:=h.inj hk hl (hz _ _ (h.lt hk) (h.lt hl) e)
include hc in
theorem R6{Z:Type}{p:ZS}(h:Pm n p){i j:Nat}(hi:i<n)(hj:j<n)(jk:i≠j){k:Bool->KasT Z}{Q:Z->Shared->Prop}(g:(k (decide (ky z p i<ky z p j))).kasWp cmp Q s):(KasT.ask (p.getD i 0) (p.getD j 0) k).kasWp cmp Q s:=by
 rw[getD_eq,getD_eq];exact hc _ _ (h.lt hi) (h.lt hj) (fun e=>jk (h.inj hi hj e)) _ g
theorem Ak.succ{p:ZS}{m:Nat}(h:Ak z p m)(h1:1<=m)(e:ky z p (m - 1)<ky z p m):Ak z p (m+1):=fun i j jk hj=>by
 rcases Nat.lt_or_ge j m with hjm | hjm
 .exact h i j jk hjm
 .obtain rfl:j=m:=by omega
  rcases Nat.lt_or_ge i (j - 1) with hi | hi
  .exact Int.lt_trans (h i (j - 1) hi (by omega)) e
  .obtain rfl:i=j - 1:=by omega
   exact e
theorem Dn.succ{p:ZS}{m:Nat}(h:Dn z p m)(h1:1<=m)(e:ky z p m<ky z p (m - 1)):Dn z p (m+1):=fun i j jk hj=>by
 rcases Nat.lt_or_ge j m with hjm | hjm
 .exact h i j jk hjm
 .obtain rfl:j=m:=by omega
  rcases Nat.lt_or_ge i (j - 1) with hi | hi
  .exact Int.lt_trans e (h i (j - 1) hi (by omega))
  .obtain rfl:i=j - 1:=by omega
   exact e
include hz hc in
theorem Aw{p:ZS}(h:Pm n p){Q:Nat->Shared->Prop}:∀(f m:Nat),1<=m->m+f=n->Ak z p m->(∀m',m<=m'->m'<=n->Ak z p m'->(m'=n\/(m'<n/\ky z p m'<ky z p (m' - 1)))->Q m' s)->(kas_asc p f m).kasWp cmp Q s
 | 0,m,h1,hm,hu,g=>g m (Z5 _) (by omega) hu (.inl (by omega))
 | f+1,m,h1,hm,hu,g=>by
  unfold kas_asc;refine R6 hc h (by omega) (by omega) (by omega) ?_;by_cases hl:ky z p m<ky z p (m - 1)
  .rw[Mi hl,if_pos rfl];exact g m (Z5 _) (by omega) hu (.inr ⟨by omega,hl⟩)
  .rw[Mp hl,if_neg (by simp)];have ne:ky z p (m - 1)≠ky z p m:=fun e=>by have:=h.ne hz (by omega) (by omega) e;omega
   exact Aw h f (m+1) (by omega) (by omega) (hu.succ h1 (by omega)) fun m' a b c d=>g m' (by omega) b c d
include hz hc in
theorem zq{p:ZS}(h:Pm n p){Q:ZS×Nat×Nat->Shared->Prop}:∀(f m:Nat),1<=m->m+f=n->Dn z p m->(∀m',m<=m'->m'<=n->Dn z p m'->Q (p,m',0) s)->(kas_desc f p m 0).kasWp cmp Q s
 | 0,m,h1,hm,hu,g=>g m (Z5 _) (by omega) hu
 | f+1,m,h1,hm,hu,g=>by
  unfold kas_desc;refine R6 hc h (by omega) (by omega) (by omega) ?_;by_cases hl:ky z p m<ky z p (m - 1)
  .rw[Mi hl,if_pos rfl,if_neg (by omega)];exact zq h f (m+1) (by omega) (by omega) (hu.succ h1 hl) fun m' a b c=>g m' (by omega) b c
  .rw[Mp hl,if_neg (by simp)];have ne:ky z p (m - 1)≠ky z p m:=fun e=>by have:=h.ne hz (by omega) (by omega) e;omega
   refine R6 hc h (by omega) (by omega) (by omega) ?_;rw[Mi (show ky z p (m - 1)<ky z p m by omega),if_pos rfl];exact g m (Z5 _) (by omega) hu
theorem rev_up{p:ZS}{m:Nat}(hm:m<=p.size)(h:Dn z p m):Ak z (kas_rev p 0 m) m:=fun i j jk hj=>by
 unfold ky kas_rev;rw[getElem?_mirror_all hm,getElem?_mirror_all hm,if_pos (by omega),if_pos (by omega)];exact h _ _ (by omega) (by omega)
include hz hc in
theorem yb{p:ZS}(h:Pm n p){m:Nat}(h1:1<=m)(hm:m<=n)(hd:Dn z p m){Q:Nat×ZS->Shared->Prop}(g:∀m' p',1<=m'->m'<=n->Pm n p'->Ak z p' m'->Q (m',p') s):(kas_tail3 m n p).kasWp cmp Q s:=by
 unfold kas_tail3;rw[KasT.kasWp_bind];have h':Pm n (kas_rev p 0 m):=h.perm (mirror_perm _ _ _ _);exact Aw hz hc h' (n - m) m h1 (by omega) (rev_up (by rw[h.size];exact hm) hd) fun m' a b c _=>g m' _ (by omega) b h' c
include hz hc in
theorem rq{p:ZS}(h:Pm n p)(h2:2<=n){Q:Nat×ZS->Shared->Prop}(g:∀m' p',1<=m'->m'<=n->Pm n p'->Ak z p' m'->Q (m',p') s):(kas_count n p).kasWp cmp Q s:=by
 unfold kas_count;rw[KasT.kasWp_bind];refine Aw hz hc h (n - 1) 1 (Z5 _) (by omega) (fun i j _ _=>by omega) fun m a b c d=>?_;by_cases hm:m=n
 .subst hm;rw[if_pos (by simp)];exact g m p a b h c
 .rw[if_neg (by simpa using hm)];by_cases hm1:m>1
  .rw[if_pos hm1];refine R6 hc h (by omega) (by omega) (by omega) ?_;rw[Mi (c 0 (m - 1) (by omega) (by omega)),if_pos rfl];exact g m p a b h c
  .rw[if_neg hm1];obtain rfl:m=1:=by omega
   rcases d with d | ⟨_,d⟩
   .omega
   unfold kas_descPart;rw[KasT.kasWp_bind];refine zq hz hc h (n - (1+1)) (1+1) (by omega) (by omega) (fun i j jk hj=>?_) fun m' a' b' c'=>?_
   .obtain rfl:j=1:=by omega
    obtain rfl:i=0:=by omega
    exact d
   .rw[if_neg (by show ¬ (0>0);omega)];exact yb hz hc h (by omega) b' c' g
include hz hc in
theorem C7{p:ZS}(h:Pm n p){k:Nat}(hk:k<n){Q:Nat->Shared->Prop}(g:∀l,l<=k->(∀i,i<l->ky z p i<ky z p k)->(∀i,l<=i->i<k->ky z p k<ky z p i)->Q l s)(hs:Ak z p k):∀(f l r:Nat),l<=r->r<=k->r - l<=f->(∀i,i<l->ky z p i<ky z p k)->(∀i,r<=i->i<k->ky z p k<ky z p i)->(kas_place p k f l r).kasWp cmp Q s
 | 0,l,r,h1,h2,h3,h4,h5=>by
  obtain rfl:l=r:=by omega
  exact g l h2 h4 h5
 | f+1,l,r,h1,h2,h3,h4,h5=>by
  unfold kas_place;by_cases hlr:l ≥ r
  .rw[if_pos hlr];obtain rfl:l=r:=by omega
   exact g l h2 h4 h5
  .rw[if_neg hlr];refine R6 hc h hk (by omega) (by omega) ?_;by_cases hl:ky z p k<ky z p ((l+r) / 2)
   .rw[Mi hl,if_pos rfl];refine C7 h hk g hs f l ((l+r) / 2) (by omega) (by omega) (by omega) h4 fun i a b=>?_;rcases Nat.lt_or_ge ((l+r) / 2) i with c | c
    .exact Int.lt_trans hl (hs _ _ c b)
    .obtain rfl:i=(l+r) / 2:=by omega
     exact hl
   .rw[Mp hl,if_neg (by simp)];have ne:ky z p k≠ky z p ((l+r) / 2):=fun e=>by have:=h.ne hz (by omega) (by omega) e;omega
    refine C7 h hk g hs f ((l+r) / 2+1) r (by omega) h2 (by omega) (fun i a=>?_) h5;rcases Nat.lt_or_ge i ((l+r) / 2) with c | c
    .exact Int.lt_trans (hs _ _ c (by omega)) (by omega)
    .obtain rfl:i=(l+r) / 2:=by omega
     omega
theorem j0{p:ZS}{k l:Nat}(hk:k<p.size)(hl:l<=k)(h:Ak z p k)(h1:∀i,i<l->ky z p i<ky z p k)(h2:∀i,l<=i->i<k->ky z p k<ky z p i):Ak z (bubble p k (k - l)) (k+1):=fun i j jk hj=>by
 have e:∀x,x<=k->ky z (bubble p k (k - l)) x=if x=l then ky z p k else if l<x then ky z p (x - 1) else ky z p x:=fun x hx=>by
  unfold ky;rw[getElem?_bubble hk (k - l) (by omega),show k - (k - l)=l by omega];by_cases a:x=l
  .rw[if_pos a,if_pos a]
  .rw[if_neg a,if_neg a];by_cases b:l<x
   .rw[if_pos ⟨b,hx⟩,if_pos b]
   .rw[if_neg (fun q=>b q.1),if_neg b]
 rw[e i (by omega),e j (by omega)];by_cases a:i=l
 .rw[if_pos a,if_neg (by omega),if_pos (by omega)];exact h2 _ (by omega) (by omega)
 .rw[if_neg a];by_cases b:l<i
  .rw[if_pos b,if_neg (by omega),if_pos (by omega)];exact h _ _ (by omega) (by omega)
  .rw[if_neg b];by_cases c:j=l
   .rw[if_pos c];exact h1 i (by omega)
   .rw[if_neg c];by_cases d:l<j
    .rw[if_pos d];rcases Nat.lt_or_ge i (j - 1) with q | q
     .exact h _ _ q (by omega)
     .omega
    .rw[if_neg d];exact h _ _ jk (by omega)
include hz hc in
theorem rp{Q:ZS->Shared->Prop}(g:∀p',Pm n p'->Ak z p' n->Q p' s):∀(f:Nat) (p:ZS) (k:Nat),Pm n p->k+f=n->Ak z p k->(kas_bin f p k).kasWp cmp Q s
 | 0,p,k,h,hk,hu=>g p h (by rw[<-(by omega:k=n)];exact hu)
 | f+1,p,k,h,hk,hu=>by
  unfold kas_bin;rw[KasT.kasWp_bind];refine C7 hz hc h (by omega) (fun l a b c=>?_) hu k 0 k (Ma _) (Z5 _) (by omega) (fun i q=>absurd q (by omega)) (fun i q r=>absurd q (by omega));exact rp g f _ (k+1) (h.perm (bubble_perm _ _ _)) (by omega) (j0 (by rw[h.size];omega) a hu b c)
include hz hc in
theorem au(h2:2<=n){Q:ZS->Shared->Prop}(g:∀p',Pm n p'->Ak z p' n->Q p' s):(kas_sort n).kasWp cmp Q s:=by
 unfold kas_sort;rw[KasT.kasWp_bind];have h0:Pm n (List.toArray (List.range n)):=by unfold Pm;rw[List.toList_toArray]
 refine rq hz hc h0 h2 fun m p a b h c=>?_;show (if m<n then kas_bin (n - max m 1) p (max m 1) else KasT.ret p).kasWp cmp Q s;rw[show max m 1=m by omega]
 split
 .exact rp hz hc g _ p m h (by omega) c
 .exact g p h (by rw[<-(by omega:m=n)];exact c)
end
end SRT
namespace SRT
open PySem PySem.Spec PyProof.Rows L2 PySem.W
def Hd(h:Heap)(v:Value)(i:Int):Prop:=∃a o xs n t,v=.ref a/\h.get? a=some o/\o.cls=.type "tuple" /\ o.data=.seq xs n/\xs[0]?=some (.int i t)
def Hds(h:Heap)(vs:ZM)(zs:ZL):Prop:=vs.length=zs.length/\∀i,i<vs.length->Hd h (vs.getD i .none) (zs.getD i 0)
theorem Hds.tups{h:Heap}:∀{vs:ZM} {zs:ZL},Hds h vs zs->∃fs,KatTups h vs fs/\fs.length=vs.length/\∀v∈fs,∃i t,v=.int i t
 | [],zs,g=>⟨[],trivial,rfl,fun _ m=>absurd m V4⟩
 | v::vs,[],g=>absurd g.1 (by simp)
 | v::vs,z::zs,g=>by
  obtain⟨fs,k1,k2,k3⟩:=Hds.tups (vs:=vs) (zs:=zs) ⟨by simpa using g.1,fun i hi=>by simpa using g.2 (i+1) (by simpa using hi)⟩;obtain⟨a,o,xs,n,t,e,h1,h2,h3,h4⟩:=g.2 0 (by simp);have e:v=.ref a:=e;subst e
  exact⟨.int z t::fs,⟨⟨a,o,xs,n,rfl,h1,h2,h3,h4⟩,k1⟩,by simp[k2],fun v m=>by
   rcases Y3.mp m with rfl | m
   .exact⟨_,_,rfl⟩
   .exact k3 v m⟩
section
variable{prog:Program}{w:World}{A:Around}{E:ZW}{s:Shared}
theorem tf{x y:Value}{i j:Int}{Q:Bool->Shared->Prop}(hx:Hd s.heap x i)(hy:Hd s.heap y j)(ne:i≠j)(h:Q (decide (i<j)) s):wpAny (model prog w) A (keyLt' (tuples' true) x y) Q E s:=by
 obtain⟨a,o,xs,n,t,rfl,h1,_,h3,h4⟩:=hx;obtain⟨b,o',ys,m,u,rfl,g1,_,g3,g4⟩:=hy
 obtain⟨x0,xr,ex⟩:∃x0 xr,xs.toList=x0::xr:=by
  cases e:xs.toList with
  | nil=>rw[<-Array.getElem?_toList,e]at h4;simp at h4
  | cons p q=>exact⟨p,q,rfl⟩
 obtain⟨y0,yr,ey⟩:∃y0 yr,ys.toList=y0::yr:=by
  cases e:ys.toList with
  | nil=>rw[<-Array.getElem?_toList,e]at g4;simp at g4
  | cons p q=>exact⟨p,q,rfl⟩
 have e0:x0=.int i t:=by rw[<-Array.getElem?_toList,ex]at h4;exact D3 h4
 have f0:y0=.int j u:=by rw[<-Array.getElem?_toList,ey]at g4;exact D3 g4
 subst e0 f0;refine kat_lt h1 h3 g1 g3 ?_;rw[ex,ey,List.zip_cons_cons];refine kat_cons (SeqAt.EqAt.int_int i t j u prog w _ _ ?_);have hb:(i == j)=false:=B0n.mpr ne;rw[hb];refine kat_no ?_;exact oneLt_int h
theorem jq{i:Int}{t:Tok}{M:Model}{h:Heap}:Looks M h (typeOf (.int i t)) (.type "int"):=Looks.of_pure rfl
def Ord(zs:ZL)(p:ZS):Prop:=Pm zs.length p/\Ak (fun i=>zs.getD i 0) p zs.length
theorem F8{h₀:Heap}{L:Addr}{m:ZV}{news:ZY}{l:Addr}{vs:ZM}{zs:ZL}{Q:ZW}(F:Fr h₀ L s.heap m)(N:News h₀ L s.heap news)(hl:s.heap.IsList l vs.toArray)
  (hh:∀h',Fr h₀ L h' m->News h₀ L h' news->Hds h' vs zs) (nd:zs.Nodup) (h2:2<=vs.length) (h64:vs.length<64)
  (fin:∀D h' p c,Ord zs p->Fr h₀ L h' m->News h₀ L h' ((D,listOf (List.toArray (p.toList.map fun i=>vs.getD i Value.none)) c)::news)->(∀q∈news,q.1<D)->Q (.ref D) { s with heap:=h' }) :
  wpAny (model prog w) A (call (.builtin "sorted") [.ref l]) Q E s:=by
 refine kat_sorted F N hl h2 h64 fun D e1 h' F' N' lt=>?_;have N1:News h₀ L h' news:=fun p hp=>N' p (Vf _ hp);have hd:=hh h' F' N1;obtain⟨fs,k1,k2,k3⟩:=hd.tups;refine kat_kind (s:={ s with heap:=h' }) (T:=.type "int") k1 (by omega) (fun v m=>?_) rfl ?_
 .obtain⟨i,t,rfl⟩:=k3 v m;exact jq
 .have e:(Value.type "int" != Value.type "tuple")=true:=by decide
  rw[e];have el:vs.length=zs.length:=hd.1;rw[el];refine au (z:=fun i=>zs.getD i 0) (fun i j hi hj e=>?_) (fun i j hi hj jk C hC=>?_) (by omega) fun p pm up=>?_
  .simp only[List.getD_eq_getElem?_getD,V0 hi,V0 hj,Option.getD_some]at e;rcases Nat.lt_trichotomy i j with q | q | q
   .exact absurd e (List.pairwise_iff_getElem.mp nd i j _ _ q)
   .exact q
   .exact absurd e.symm (List.pairwise_iff_getElem.mp nd j i _ _ q)
  .unfold kas_ask;refine tf (s:={ s with heap:=h' }) (hd.2 i (by omega)) (hd.2 j (by omega)) (fun e=>jk ?_) hC;simp only[List.getD_eq_getElem?_getD,V0 hi,V0 hj,Option.getD_some]at e;rcases Nat.lt_trichotomy i j with q | q | q
   .exact absurd e (List.pairwise_iff_getElem.mp nd i j _ _ q)
   .exact q
   .exact absurd e.symm (List.pairwise_iff_getElem.mp nd j i _ _ q)
  .refine KasFin.intro F' N' (g:=fun o=>(D,o)::news) ?_ fun h2 c F2 N2=>fin D h2 p c ⟨pm,up⟩ F2 N2 lt;exact .head fun p hp=>Gk (lt p hp)
theorem xw{Ok:Heap->Prop}{vs:ZM}(hz:vs.length<2):Srt prog w Ok vs fun o=>o=vs:=by
 intro A E s D Q _ G9 h;refine wpAny_call_entry slot_list_sort ⟨_,G9,rfl⟩ entry_list_sort ?_ (args_list_sort _);have ha:D<s.heap.objs.size:=Y7 G9;have sl:=sizeLine_eq;rw[list_sort_plain];refine Zx (listItems_at G9 rfl (Zx (listUpdate_at G9 rfl ?_ (by rw[Vy];omega) (Ma _))));obtain⟨e1,ho1⟩:∃e1,(s.heap.update D (Obj.mapSeq fun _=>#[])).get? D=some (seqObj "list" #[] e1):=⟨_,get?_update_seq G9 (fun _=>#[])⟩;refine Zx (seqEpoch_at ho1 rfl (Zx (wpAny_newTuple (Zx (wpAny_newList (wpAny_holding ?_) (Ma _))) (by show vs.length<=_;omega))))
 have ho6:(((s.heap.update D (Obj.mapSeq fun _=>#[])).push (seqObj "tuple" vs.toArray 0)).push (seqObj "list" #[] 0)).get? D=some (seqObj "list" #[] e1) :=
  Yr _ (Yr _ ho1)
 show wpAny _ _ _ _ _ { s with heap:=((s.heap.update D (Obj.mapSeq fun _=>#[])).push (seqObj "tuple" vs.toArray 0)).push (seqObj "list" #[] 0) };dsimp only;have h2:vs.toArray.size<2:=by rw[Vy];exact hz
 rw[if_pos h2,if_pos h2];refine Zx (Zf ?_);rw[StateT.run_pure];refine Zx (Zf ?_);dsimp only;refine Zx (seqEpoch_at ho6 rfl (Zx (listUpdate_at ho6 rfl ?_ (Ma _) (by rw[Array.size_map];show (pairsOf vs).size<=_;rw[pairsOf_size];omega))));simp only[bne_self_eq_false,we,if_false];refine Zf ⟨_,rfl, ?_⟩;obtain⟨n,e⟩:=sortedHeap_at (h:=s.heap) (a:=D) (vs:=vs) (n:=0) (out:=(pairsOf vs).map fun x:Keyed=>x.2) G9;refine h (sortedHeap s.heap D vs ((pairsOf vs).map fun x:Keyed=>x.2)) ((pairsOf vs).map fun x:Keyed=>x.2) n (fun b ob nb e0=>SetM.Yk nb e0) e ?_;rw[Array.toList_map];unfold pairsOf;rw[Array.toList_zip];exact List.map_snd_zip (Z5 _)
end
section
variable{X:Cx}
theorem Lq{zs:ZQ}{vs:ZM}(r:Zv zs vs){i:Nat}(hi:i<vs.length):RelV (zs.getD i .non) (vs.getD i .none):=by
 have hl:=r.length;obtain⟨v,h1,h2⟩:=Zv.get r (V0 (show i<zs.length by omega));rw[List.getD_eq_getElem?_getD,List.getD_eq_getElem?_getD,h1,V0 (show i<zs.length by omega)];exact h2
theorem Lx{zs:ZQ}{vs:ZM}(r:Zv zs vs):∀(p:List Nat),(∀i∈p,i<vs.length)->Zv (p.map fun i=>zs.getD i .non) (p.map fun i=>vs.getD i .none)
 | [],_=>.nil
 | i::p,h=>.cons (Lq r (h i Vt)) (Lx r p fun j m=>h j (Vf _ m))
theorem Q7:Ye X (.builtin "sorted") (fun xs H Q=>∃(a:Addr) (zs:ZQ) (hs:ZL),xs=[.ref a]/\Vi X.K H a zs/\zs.length=hs.length/\(∀i,i<zs.length->∃b ws,zs.getD i .non=.ref b/\Yu X.K H b (.int (hs.getD i 0)::ws))/\hs.Nodup/\2<=zs.length/\zs.length<64 /\
  ∀(l:Addr) (p:ZS),H l=none->Ord hs p->Q (.ref l) (upd H l (.lst (p.toList.map fun i=>zs.getD i .non)))):=by
 intro XF s Z H xs us Q I r h;obtain⟨a,zs,hs,rfl,hq,hl,hd,nd,h2,h64,q⟩:=h;obtain⟨u,rfl,rx⟩:=vals1 r;cases rx;obtain⟨XM,rv,pl,z⟩:=I.list hq;obtain⟨m,hn,fr,nw⟩:=I.frame;have il:=rv.length;refine F8 (zs:=hs) fr nw pl.isList (fun h' F' N'=>⟨by omega,fun i hi=>?_⟩) nd (by omega) (by omega) fun D h' p c op F' N' lt=>?_
 .obtain⟨b,ws,e1,sq⟩:=hd i (by omega);have rr:=Lq rv hi;rw[e1]at rr;have rr:XM.getD i .none=.ref b:=rr;obtain⟨jts,jr,⟨o,g1,g2,n,g3⟩,_⟩:=I.tuple sq;cases jr with | cons j1 j2 =>
  obtain⟨t,rfl⟩:=(show ∃t,_=Value.int _ t from j1);refine⟨b,o,_,n,t,rr,Qn F' N' (fun p hp=>hp) b o (fun e=>?_) g1,g2,g3,by simp⟩;obtain⟨o',es,ep,k1,k2,_⟩:=hn;rw[<-e,g1]at k1;cases k1;rw[g3]at k2;cases k2
 .have ka:=Qn F' N' fun p hp=>Vf _ hp;have nD:=Inv.newAt (X:=X) (m:=m) N' lt;obtain⟨eD,nDL,_⟩:=N' _ Vt
  have pl':∀i∈p.toList,i<XM.length:=fun i mi=>by
   have:=List.mem_range.mp (op.1.mem_iff.mp mi);omega
  have ln:(p.toList.map fun i=>zs.getD i .non).length<=sizeLine:=by
   rw[Z4,op.1.length_eq,XJ];have:=sizeLine_eq;omega
  obtain⟨J,fD⟩:=I.lay2 (h':=h') (D:=D) (u:=.lst (p.toList.map fun i=>zs.getD i .non)) (t':=s.toks) hn F'.ns (fun b o nb eb=>ka b o nb eb) nD ⟨ln,_,c,Lx rv _ pl',by simpa using eD⟩;exact⟨.ref D,_,J,rfl,q D p fD op⟩
theorem Kc{H:Hp}{zs:ZQ}(h:zs.length<2):j8 X H zs zs:=by
 refine⟨rfl,fun XF Z s I vs r=>⟨fun _=>True,fun _ _=>trivial, ?_⟩⟩;have:=xw (prog:=X.prog) (w:=X.w) (Ok:=fun _=>True) (vs:=vs) (by rw[<-r.length];exact h);intro A E s D Q o e q;exact this A E s D Q o e fun h1 out n k e1 r1=>q h1 out n k e1 (by rw[r1];exact r)
end
end SRT
namespace SRT
open PySem PySem.Spec PyProof.Rows L2
section
variable{Z:Type}
noncomputable def jw(x:Int×Z):List (Int×Z)->List (Int×Z)
 | []=>[x]
 | y::r=>if x.1<=y.1 then x::y::r else y::jw x r
def C0:List (Int×Z)->List (Int×Z)
 | []=>[]
 | x::r=>jw x (C0 r)
theorem Ba(x:Int×Z):∀r:List (Int×Z),(jw x r).Perm (x::r)
 | []=>.refl _
 | y::r=>by
  unfold jw
  split
  .exact .refl _
  .exact((Ba x r).cons y).trans (.swap x y r)
theorem Dk:∀r:List (Int×Z),(C0 r).Perm r
 | []=>.refl _
 | x::r=>(Ba x _).trans ((Dk r).cons x)
theorem Sj(x:Int×Z):∀r:List (Int×Z),r.Pairwise (fun a b=>a.1<=b.1)->(jw x r).Pairwise (fun a b=>a.1<=b.1)
 | [],_=>List.pairwise_singleton _ _
 | y::r,h=>by
  rw[ZE]at h;unfold jw
  split
  .rename_i hx
   rw[ZE,ZE];exact⟨fun z m=>by rcases Y3.mp m with rfl | m;exact hx;exact Int.le_trans hx (h.1 z m),h.1,h.2⟩
  .rename_i hx
   rw[ZE];refine⟨fun z m=>?_,Sj x r h.2⟩;rcases Y3.mp ((Ba x r).mem_iff.mp m) with rfl | m
   .omega
   .exact h.1 z m
theorem Oy:∀r:List (Int×Z),(C0 r).Pairwise (fun a b=>a.1<=b.1)
 | []=>List.Pairwise.nil
 | x::r=>Sj x _ (Oy r)
theorem Ci{a b:Int×Z}:∀{l:List (Int×Z)},l.Pairwise (fun a b=>a.1<b.1)->a∈l->b∈l->a.1=b.1->a=b
 | [],_,h,_,_=>absurd h V4
 | x::l,p,h,h',e=>by
  rw[ZE]at p;rcases Y3.mp h with e1 | m1
  .rcases Y3.mp h' with e2 | m2
   .rw[e1,e2]
   .have:=p.1 b m2;rw[<-e1]at this;omega
  .rcases Y3.mp h' with e2 | m2
   .have:=p.1 a m1;rw[<-e2]at this;omega
   .exact Ci p.2 m1 m2 e
theorem ag{a b:List (Int×Z)}(h:a.Perm b)(s:a.Pairwise (fun a b=>a.1<b.1)):a=C0 b :=
 List.Perm.eq_of_pairwise (fun x y mx my h1 h2=>Ci s mx (h.symm.mem_iff.mp ((Dk b).mem_iff.mp my)) (Int.le_antisymm h1 h2)) (s.imp fun h=>Int.le_of_lt h) (Oy b) (h.trans (Dk b).symm)
theorem K0{Z:Type}(l:List Z)(d:Z):(List.range l.length).map (fun i=>l.getD i d)=l:=by
 apply List.ext_getElem?
 intro i;rw[Cz];by_cases h:i<l.length
 .rw[List.getElem?_range h,V0 h];simp[h]
 .rw[List.getElem?_eq_none (by simpa using h),List.getElem?_eq_none (by omega)]
  rfl
theorem m9{hs:ZL}{ts:List Z}{d:Z}{p:ZS}(hl:ts.length=hs.length)(o:Ord hs p):p.toList.map (fun i=>ts.getD i d)=(C0 (hs.zip ts)).map (·.2):=by
 have zl:(hs.zip ts).length=hs.length:=by rw[List.length_zip];omega
 have key:p.toList.map (fun i=>(hs.zip ts).getD i (0,d))=C0 (hs.zip ts):=by
  refine ag ?_ ?_
  .have:=o.1.map fun i=>(hs.zip ts).getD i (0,d);rw[<-zl,K0]at this;exact this
  .rw[List.pairwise_map,List.pairwise_iff_getElem];intro i j hi hj jk;have hsz:=o.1.size;rw[W8]at hi hj;have up:=o.2 i j jk (by omega);unfold ky at up;rw[Fb hi,Fb hj]at up;have li:=o.1.lt (k:=i) (by omega);have lj:=o.1.lt (k:=j) (by omega);rw[Fb hi]at li;rw[Fb hj]at lj;simp only[Option.getD_some]at up li lj
   have e:∀k,k<hs.length->((hs.zip ts).getD k (0,d)).1=hs.getD k 0:=fun k hk=>by
    rw[List.getD_eq_getElem?_getD,V0 (by omega),List.getD_eq_getElem?_getD,V0 hk];simp
   rw[Array.getElem_toList,Array.getElem_toList,e _ li,e _ lj];exact up
 rw[<-key,List.map_map];refine List.map_congr_left fun i m=>?_;have hi:=List.mem_range.mp (o.1.mem_iff.mp m);show _=((hs.zip ts).getD i (0,d)).2;rw[List.getD_eq_getElem?_getD,V0 (show i<ts.length by omega),List.getD_eq_getElem?_getD,V0 (show i<(hs.zip ts).length by omega)];simp
theorem ya{hs:ZL}{ts:List Z}{d:Z}(hl:ts.length=hs.length)(h:ts.length<2):(C0 (hs.zip ts)).map (·.2)=ts:=by
 match ts,hs,hl with
 | [],[],_=>rfl
 | [t],[i],_=>rfl
 | a::b::r,_,_=>exact absurd h (by simp)
end
end SRT
namespace PV
open PySem PySem.Spec PyProof.Rows L2
inductive T where
 | non | bl(b:Bool) | int(i:Int) | str(x:Str) | tup(ts:List T) | lst(ts:List T) | dct(XB:List (Key×T)) | fn(x:Str)
abbrev ZZ:=List T
abbrev ZX:=List (Key×T)
inductive Sl where | no | f(t:T) | o(t:T)
abbrev P:=List Sl
set_option genInjectivity true in
inductive A where | t(t:T) | s(i:Nat)
inductive Op where | add | sub | mul | fdiv | mod | pow
inductive Cm where | eq | ne | lt | le | gt | ge | isin | notin | is | isnt
inductive Kd where | int | bool | str | tuple | list | dict
inductive Pr where
 | op(o:Op) | cm(c:Cm) | c2(c d:Cm) | neg | ix | sl(lo hi:Bool) | rev
 | len | all | any | list | tuple | sorted | sset | lset | min | max | int | repr | dict | sum | abs | str | isi (n:Kd) | get1 | get2 | join | dnew
inductive Mt where | append | extend | pop | popAt | insert
inductive Ik where | rng | zip
inductive E where
 | v(i:Nat) | mv(i:Nat) | io(i:Nat) | k(t:T) | g(x:Str)
 | nil | cons (a r:E)
 | tup (es:E) | lst (es:E) | pr (p:Pr) (es:E)
 | and (a b:E) | or (a b:E) | not (a:E) | ite (c a b:E)
 | call (f:Str) (es:E) | cal (i:Nat) (es:E) | mt (m:Mt) (i:Nat) (es:E)
 | comp (tg it c el:E) (fr:ZG) (ns:ZD) | itr (k:Ik) (es:E) | tmp (a:E)
inductive S where
 | nil | seq(a r:S) | ret(a:E) | ex(a:E) | set(i:Nat)(a:E) | unp(tg a:E) | put(i:Nat)(k a:E)
 | ite (c:E) (a b:S) | loop (tg it:E) (b:S) | wh (c:E) (b:S) | pass | brk | cont
inductive Fl where | nx | rt(r:Sl) | bk | ct
noncomputable def Zn(ts:ZZ)(lo hi:ZR):ZZ:=(ts.drop (HT.Yl ts.length 0 lo)).take (HT.Yl ts.length ts.length hi - HT.Yl ts.length 0 lo)
noncomputable def Vx(XB:ZX)(k:Key):Option T:=(XB.find? fun p=>decide (p.1=k)).map (·.2)
noncomputable def Vn(XB:ZX)(k:Key)(v:T):ZX :=
 if (XB.any fun p=>decide (p.1=k))=true then XB.map fun p=>if p.1=k then (p.1,v) else p else XB++[(k,v)]
noncomputable def keyT:T->Option Key
 | .int i=>some (.inl i)
 | .str x=>some (.inr x)
 | _=>none
noncomputable def Te:Key->T
 | .inl i=>.int i
 | .inr x=>.str x
noncomputable def allB:ZZ->Option (List Bool)
 | []=>some []
 | .bl b::r=>(allB r).map (b::·)
 | _::_=>none
mutual
noncomputable def toD:T->Option D
 | .non=>some .non
 | .bl b=>some (.bl b)
 | .int i=>some (.int i)
 | .str x=>some (.str x)
 | .tup ts=>(Gd ts).map .tup
 | .lst ts=>(Gd ts).map .lst
 | .dct _=>none
 | .fn _=>none
noncomputable def Gd:ZZ->Option (List D)
 | []=>some []
 | t::r=>(toD t).bind fun d=>(Gd r).map (d::·)
end
noncomputable def eqT:T->T->Option Bool
 | .str a,.str b=>some (decide (a=b))
 | .int a,.int b=>some (decide (a=b))
 | a,b=>(toD a).bind fun x=>(toD b).bind fun y=>if Jw x<=100 then some (Yp x y) else none
noncomputable def ltT:T->T->Option Bool
 | .int a,.int b=>some (decide (a<b))
 | .str a,.str b=>some (decide (a.cps.toList<b.cps.toList))
 | _,_=>none
noncomputable def geT:T->T->Option Bool
 | .int a,.int b=>some (decide (b<=a))
 | _,_=>none
def L8:T->Bool
 | .non=>true
 | .bl _=>true
 | .int _=>true
 | .str _=>true
 | _=>false
noncomputable def My(a:T):ZZ->Option Bool
 | []=>some false
 | t::r=>(eqT t a).bind fun b=>(My a r).map (b || ·)
noncomputable def Nb:ZZ->Option (ZL)
 | []=>some []
 | .int i::r=>(Nb r).map (i::·)
 | _::_=>none
noncomputable def Z7:ZZ->Option (ZD)
 | []=>some []
 | .str i::r=>(Z7 r).map (i::·)
 | _::_=>none
noncomputable def I8:Key->PyData
 | .inl i=>.int i
 | .inr x=>.str x
mutual
noncomputable def toPy:T->Option PyData
 | .non=>some .none
 | .bl b=>some (.bool b)
 | .int i=>some (.int i)
 | .str x=>some (.str x)
 | .tup ts=>(Ud ts).map .tuple
 | .lst ts=>(Ud ts).map .list
 | .dct XB=>(D6 XB).map .dict
 | .fn _=>none
noncomputable def Ud:ZZ->Option (List PyData)
 | []=>some []
 | t::r=>(toPy t).bind fun d=>(Ud r).map (d::·)
noncomputable def D6:ZX->Option (List (PyData×PyData))
 | []=>some []
 | (k,t)::r=>(toPy t).bind fun d=>(D6 r).map ((I8 k,d)::·)
end
noncomputable def rpT(t:T):Option Str:=(toPy t).bind fun d=>if d.showable=true/\d.shown.length<=sizeLine/\d.depth<=100 then some d.shown else none
noncomputable def jv:T->ZD->Option Bool
 | .str x,ss=>some (ss.any fun y=>decide (y=x))
 | .fn _,_=>none
 | _,_=>some false
noncomputable def E4(a:T):T->Option Bool
 | .lst ts=>match Z7 ts with
  | some ss=>jv a ss
  | none=>(toD a).bind fun _=>My a ts
 | .tup ts=>match Z7 ts with
  | some ss=>jv a ss
  | none=>if L8 a=true/\ts.all L8=true then My a ts else none
 | .dct XB=>(keyT a).map fun k=>(Vx XB k).isSome
 | .str y=>match a with
  | .str x=>some (!(Builtin.Str.occurrences y x 0 y.length 1).isEmpty)
  | _=>none
 | _=>none
noncomputable def isT:T->T->Option Bool
 | .non,.non=>some true
 | .bl a,.bl b=>some (a == b)
 | _,.non=>some false
 | _,_=>none
noncomputable def eqC:T->T->Option Bool
 | .tup ts,.tup []=>some ts.isEmpty
 | a,b=>eqT a b
noncomputable def T7:Cm->T->T->Option Bool
 | .eq,a,b=>eqC a b
 | .ne,a,b=>(eqC a b).map not
 | .lt,a,b=>ltT a b
 | .gt,a,b=>ltT b a
 | .le,a,b=>(ltT b a).map not
 | .ge,a,b=>geT a b
 | .isin,a,b=>E4 a b
 | .notin,a,b=>(E4 a b).map not
 | .is,a,b=>isT a b
 | .isnt,a,b=>(isT a b).map not
noncomputable def cw(f:Int->Int->Option Sl)(t t':T):Option Sl:=match t with
 | .int a=>(match t' with
  | .int b=>f a b
  | _=>none)
 | _=>none
noncomputable def addT(t t':T):Option Sl:=match t with
 | .int a=>(match t' with
  | .int b=>some (.f (.int (a+b)))
  | _=>none)
 | .str a=>(match t' with
  | .str b=>if a.length+b.length<=sizeLine then some (.f (.str (a++b))) else none
  | _=>none)
 | .lst a=>(match t' with
  | .lst b=>if a.length+b.length<=sizeLine then some (.o (.lst (a++b))) else none
  | _=>none)
 | .tup a=>(match t' with
  | .tup b=>if a.length+b.length<=sizeLine then some (.f (.tup (a++b))) else none
  | _=>none)
 | _=>none
noncomputable def mulT(t t':T):Option Sl:=match t with
 | .int a=>(match t' with
  | .int b=>if (-(2 ^ 64)<a/\a<2 ^ 64)\/(-(2 ^ 64)<b/\b<2 ^ 64) then some (.f (.int (a * b))) else none
  | _=>none)
 | .str a=>(match t' with
  | .int n=>if 0<=n/\n<=1000/\a.length<=1000 then some (.f (.str (repS a n.toNat))) else none
  | _=>none)
 | .lst a=>(match t' with
  | .int n=>if -(2 ^ 63)<=n/\n<2 ^ 63/\a.length * n.toNat<=sizeLine then some (.o (.lst (List.replicate n.toNat a).flatten)) else none
  | _=>none)
 | _=>none
noncomputable def opT(o:Op)(t t':T):Option Sl:=match o with
 | .add=>addT t t'
 | .sub=>cw (fun a b=>some (.f (.int (a - b)))) t t'
 | .mul=>mulT t t'
 | .fdiv=>cw (fun a b=>if 0<b/\b<1073741824 then some (.f (.int (a / b))) else none) t t'
 | .mod=>cw (fun a b=>if 0<b then some (.f (.int (a % b))) else none) t t'
 | .pow=>cw (fun a b=>if 0<=b/\b<=1000000/\a.natAbs<2 ^ 64 then some (.f (.int (a ^ b.toNat))) else none) t t'
noncomputable def O7:T->T->Option T
 | .tup ts,.int i=>Jd ts i
 | .lst ts,.int i=>Jd ts i
 | .str z,.int i=>if z.length<=sizeLine then (Jd z.cps.toList i).map fun c=>.str ⟨#[c]⟩ else none
 | .dct XB,k=>(keyT k).bind (Vx XB)
 | _,_=>none
noncomputable def slT:T->ZR->ZR->Option Sl
 | .tup ts,lo,hi=>some (.f (.tup (Zn ts lo hi)))
 | .lst ts,lo,hi=>some (.o (.lst (Zn ts lo hi)))
 | .str z,lo,hi=>if z.length<=sizeLine then some (.f (.str (Txt.slice z lo hi))) else none
 | _,_,_=>none
noncomputable def Zz7:T->ZH
 | .tup ts=>some ts.length
 | .lst ts=>some ts.length
 | .dct ts=>some ts.length
 | .str z=>if z.length<=sizeLine then some z.length else none
 | _=>none
noncomputable def isiT:Kd->T->Option Bool
 | .int,.int _=>some true
 | .int,.bl _=>some true
 | .bool,.bl _=>some true
 | .str,.str _=>some true
 | .tuple,.tup _=>some true
 | .list,.lst _=>some true
 | .dict,.dct _=>some true
 | _,.fn _=>none
 | _,_=>some false
def intT:T->ZR
 | .int i=>some i
 | _=>none
noncomputable def Qy:ZZ->Option (ZX)
 | []=>some []
 | .tup [a,b]::r=>(keyT a).bind fun k=>(Qy r).map ((k,b)::·)
 | _::_=>none
noncomputable def M8(ts:ZZ):Option (ZZ) :=
 if ts.length<64 then match Nb ts with
  | some zs=>some ((SRT.Bb zs).map .int)
  | none=>(Z7 ts).map fun ss=>(SRT.Yq ss).map .str
 else none
noncomputable def Bi:ZZ->Option (ZL)
 | []=>some []
 | .tup (.int i::_)::r=>(Bi r).map (i::·)
 | _::_=>none
noncomputable def xk(ts:ZZ):Option (ZZ):=match Bi ts with
 | some hs=>if hs.Nodup/\ts.length<64 then some ((SRT.C0 (hs.zip ts)).map (·.2)) else none
 | none=>M8 ts
noncomputable def Oj(ts:ZZ):Option (ZZ) :=
 if ts.length<64 then match Nb ts with
  | some zs=>some ((SRT.Bb (SRT.Jm zs)).map .int)
  | none=>(Z7 ts).map fun ss=>(SRT.Yq (SRT.Jm ss)).map .str
 else none
def pOp(o:Op):ZZ->Option Sl
 | [a,b]=>opT o a b
 | _=>none
noncomputable def pCm(c:Cm):ZZ->Option Sl
 | [a,b]=>(T7 c a b).map fun r=>.f (.bl r)
 | _=>none
noncomputable def pC2(c:Cm)(d:Cm):ZZ->Option Sl
 | [a,b,e]=>(T7 c a b).bind fun r=>if r=true then (T7 d b e).map fun r=>.f (.bl r) else some (.f (.bl false))
 | _=>none
noncomputable def pNeg:ZZ->Option Sl
 | [.int i]=>some (.f (.int (-i)))
 | _=>none
noncomputable def pIx:ZZ->Option Sl
 | [a,b]=>(O7 a b).map .f
 | _=>none
noncomputable def pSl10:ZZ->Option Sl
 | [a,l]=>(intT l).bind fun i=>slT a (some i) none
 | _=>none
def pSl01:ZZ->Option Sl
 | [a,h]=>(intT h).bind fun j=>slT a none (some j)
 | _=>none
def pRev:ZZ->Option Sl
 | [.tup ts]=>some (.f (.tup ts.reverse))
 | _=>none
noncomputable def pLen:ZZ->Option Sl
 | [a]=>(Zz7 a).map fun n=>.f (.int n)
 | _=>none
noncomputable def pAll:ZZ->Option Sl
 | [.lst ts]=>(allB ts).map fun bs=>.f (.bl (bs.all id))
 | _=>none
noncomputable def Zjq:ZZ->Option Sl
 | [.lst ts]=>some (.o (.lst ts))
 | [.tup ts]=>some (.o (.lst ts))
 | [.dct XB]=>some (.o (.lst (XB.map fun p=>Te p.1)))
 | _=>none
noncomputable def Xk:ZZ->Option Sl
 | [.lst ts]=>(xk ts).map fun us=>.o (.lst us)
 | [.tup ts]=>(M8 ts).map fun us=>.o (.lst us)
 | [.dct XB]=>(M8 (XB.map fun p=>Te p.1)).map fun us=>.o (.lst us)
 | _=>none
noncomputable def pSset:ZZ->Option Sl
 | [.lst ts]=>(Oj ts).map fun us=>.o (.lst us)
 | [.tup ts]=>(Oj ts).map fun us=>.o (.lst us)
 | _=>none
noncomputable def m7:ZZ->Option Sl
 | [.lst ts]=>some (.f (.tup ts))
 | [.tup ts]=>some (.f (.tup ts))
 | _=>none
noncomputable def pMin:ZZ->Option Sl
 | [.int a,.int b]=>some (.f (.int (if b<a then b else a)))
 | _=>none
noncomputable def pMax:ZZ->Option Sl
 | [.int a,.int b]=>some (.f (.int (if b>a then b else a)))
 | _=>none
noncomputable def pInt:ZZ->Option Sl
 | [.int i]=>some (.f (.int i))
 | [.bl b]=>some (.f (.int (if b then 1 else 0)))
 | _=>none
noncomputable def pIsi(n:Kd):ZZ->Option Sl
 | [a]=>(isiT n a).map fun r=>.f (.bl r)
 | _=>none
noncomputable def Zjj:ZZ->Option Sl
 | [.dct XB]=>some (.o (.dct XB))
 | [.lst ts]=>(Qy ts).map fun XB=>.o (.dct (XB.foldl (fun acc kv=>Vn acc kv.1 kv.2) []))
 | _=>none
def Zjx:ZZ->Option Sl
 | [a]=>(rpT a).map fun z=>.f (.str z)
 | _=>none
noncomputable def pDnew:ZZ->Option Sl
 | []=>some (.o (.dct []))
 | _=>none
noncomputable def K3:Pr->ZZ->Option Sl
 | .op o=>pOp o
 | .cm c=>pCm c
 | .c2 c d=>pC2 c d
 | .neg=>pNeg
 | .ix=>pIx
 | .sl true false=>pSl10
 | .sl false true=>pSl01
 | .rev=>pRev
 | .len=>pLen
 | .all=>pAll
 | .list=>Zjq
 | .sorted=>Xk
 | .sset=>pSset
 | .tuple=>m7
 | .min=>pMin
 | .max=>pMax
 | .int=>pInt
 | .isi n=>pIsi n
 | .dict=>Zjj
 | .repr=>Zjx
 | .dnew=>pDnew
 | _=>fun _=>none
noncomputable def look(p:P)(a:A):Option T :=
 match a with
 | .t t=>some t
 | .s i=>match p[i]? with
  | some (.f t)=>some t
  | some (.o t)=>some t
  | _=>none
noncomputable def looks(p:P):List A->Option (ZZ)
 | []=>some []
 | a::r=>(look p a).bind fun t=>(looks p r).map (t::·)
noncomputable def frs:Sl->Sl
 | .o t=>.f t
 | s=>s
noncomputable def frz(p:P):P:=p.map frs
noncomputable def scal:T->Bool
 | .tup _=>false
 | .lst _=>false
 | .dct _=>false
 | _=>true
noncomputable def args(p:P):List A->Option (List Sl)
 | []=>some []
 | .t t::r=>(args p r).map (.f t::·)
 | .s i::r=>match p[i]? with
  | some (.o t)=>(args (p.set i .no) r).map (.o t::·)
  | _=>none
noncomputable def outs(p:P):List A->ZZ->Option P
 | [],[]=>some p
 | .t _::r,ts=>outs p r ts
 | .s i::r,t::ts=>outs (p.set i (.o t)) r ts
 | _,_=>none
noncomputable def Wk:List Sl->ZZ->List Sl
 | .o _::r,t::ts=>.o t::Wk r ts
 | s::r,ts=>s::Wk r ts
 | [],_=>[]
noncomputable def wt(fr:ZG)(p:P):P:=fr.map fun o=>match o with
 | some j=>(p[j]?).getD .no
 | none=>.no
noncomputable def back:ZG->P->P->P
 | some j::fr,s::q,p=>back fr q (p.set j s)
 | none::fr,_::q,p=>back fr q p
 | _,_,p=>p
mutual
noncomputable def asg:E->T->P->Option P
 | .v i,t,p=>some (p.set i (.f t))
 | .tup es,.tup ts,p=>Aj es ts p
 | _,_,_=>none
noncomputable def Aj:E->ZZ->P->Option P
 | .nil,[],p=>some p
 | .cons a r,t::ts,p=>(asg a t p).bind fun q=>Aj r ts q
 | _,_,_=>none
end
def thaw:Sl->Option T
 | .f t=>some t
 | .o t=>some t
 | .no=>none
noncomputable def M0:T->Option (ZZ)
 | .tup ts=>some ts
 | .lst ts=>some ts
 | .dct XB=>some (XB.map fun p=>Te p.1)
 | .str z=>if z.length<=sizeLine then some (z.cps.toList.map fun c=>.str ⟨#[c]⟩) else none
 | _=>none
noncomputable def Mj(body:T->P->Option (Option T×P)):ZZ->ZZ->P->Option (ZZ×P)
 | [],acc,p=>some (acc,p)
 | x::r,acc,p=>(body x p).bind fun q=>match q.1 with
  | some y=>Mj body r (acc++[y]) q.2
  | none=>Mj body r acc q.2
noncomputable def mtT:Mt->T->ZZ->Option (T×T)
 | .append,.lst ts,[x]=>if ts.length<sizeLine then some (.lst (ts++[x]),.non) else none
 | .popAt,.lst ts,[.int i]=>(Qr ts.length i).bind fun j=>(ts[j]?).map fun x=>(.lst (ts.eraseIdx j),x)
 | _,_,_=>none
abbrev Cs:=Str->List Sl->Option (Sl×ZZ)
structure W where
 C:Cs
 gl:Str->Option T
noncomputable def read(p:P)(i:Nat):Option (T×P):=match p[i]? with
 | some (.f t)=>some (t,p)
 | some (.o t)=>some (t,p.set i (.f t))
 | _=>none
noncomputable def done(p:P)(i:Nat):Bool:=match p[i]? with
 | some (.f _)=>true
 | some (.o _)=>true
 | _=>false
noncomputable def qb(p:P)(i:Nat):Bool:=match p[i]? with
 | some (.o (.lst _))=>true
 | _=>false
noncomputable def ip:T->Option (ZZ)
 | .int n=>if -1000000<=n/\n<=1000000 then some ((List.range n.toNat).map fun k=>.int (k:Nat)) else none
 | _=>none
noncomputable def Cd(a b:ZZ):ZZ:=(a.zip b).map fun p=>.tup [p.1,p.2]
noncomputable def itT:Ik->ZZ->Option (ZZ)
 | .rng,[t]=>ip t
 | .zip,[.lst a,.lst b]=>some (Cd a b)
 | .zip,[.tup a,.tup b]=>some (Cd a b)
 | _,_=>none
section
variable(w:W)
def isNil:E->Bool
 | .nil=>true
 | _=>false
noncomputable def Dy(o:Option (Sl×P)):Option (Bool×P):=o.bind fun q=>match q.1 with
 | .f (.bl b)=>some (b,q.2)
 | _=>none
noncomputable def toT(o:Option (Sl×P)):Option (T×P):=o.bind fun q=>(thaw q.1).map fun t=>(t,q.2)
noncomputable def pq(o:Option (Sl×P)):Option (ZZ×P):=(toT o).bind fun q=>(M0 q.1).map fun ts=>(ts,q.2)
noncomputable def Sg(m:Bool)(a:E)(p:P)(x:Option (T×P)):Option (A×P):=match a with
 | .io i=>if done p i=true then some (.s i,p) else none
 | .v i=>if m=true then (if done p i=true then some (.s i,p) else none) else (read p i).map fun q=>(.t q.1,q.2)
 | _=>x.map fun q=>(.t q.1,q.2)
mutual
noncomputable def ev:E->P->Option (Sl×P)
 | .v i,p=>(read p i).map fun q=>(.f q.1,q.2)
 | .mv i,p=>match p[i]? with
  | some (.o t)=>some (.o t,p.set i .no)
  | some (.f t)=>some (.f t,p)
  | _=>none
 | .k t,p=>some (.f t,p)
 | .g x,p=>(w.gl x).map fun t=>(.f t,p)
 | .tup es,p=>(J0 false es p).bind fun q=>(looks q.2 q.1).bind fun ts=>if ts.length<=sizeLine then some (.f (.tup ts),q.2) else none
 | .lst es,p=>(J0 false es p).bind fun q=>(looks q.2 q.1).bind fun ts=>if ts.length<=sizeLine then some (.o (.lst ts),q.2) else none
 | .pr r es,p=>(J0 true es p).bind fun q=>(looks q.2 q.1).bind fun ts=>(K3 r ts).map fun s=>(s,q.2)
 | .and a b,p=>(Dy (ev a p)).bind fun q=>if q.1=true then ev b q.2 else some (.f (.bl false),q.2)
 | .or a b,p=>(Dy (ev a p)).bind fun q=>if q.1=true then some (.f (.bl true),q.2) else ev b q.2
 | .not a,p=>(Dy (ev a p)).map fun q=>(.f (.bl (!q.1)),q.2)
 | .ite c a b,p=>(Dy (ev c p)).bind fun q=>if q.1=true then ev a q.2 else ev b q.2
 | .call f es,p=>(J0 false es p).bind fun q=>(args q.2 q.1).bind fun as=>(w.C f as).bind fun r=>(outs q.2 q.1 r.2).map fun p'=>(r.1,p')
 | .cal i es,p=>match p[i]? with
  | some (.f (.fn f))=>(J0 false es p).bind fun q=>(args q.2 q.1).bind fun as=>(w.C f as).bind fun r=>(outs q.2 q.1 r.2).map fun p'=>(r.1,p')
  | _=>none
 | .mt m i es,p=>if qb p i=true then (J0 false es p).bind fun q=>(looks q.2 q.1).bind fun ts=>match q.2[i]? with
   | some (.o t)=>(mtT m t ts).map fun r=>(.f r.2,q.2.set i (.o r.1))
   | _=>none
  else none
 | .comp tg it c el fr _,p=>(pq (ev it p)).bind fun q=>(Mj (fun x s=>(asg tg x s).bind fun s1=>(if isNil c=true then some (true,s1) else Dy (ev c s1)).bind fun b=>if b.1=true then (toT (ev el b.2)).map fun r=>(some r.1,r.2) else some (none,b.2)) q.1 [] (wt fr q.2)).map fun r=>(.o (.lst r.1),back fr r.2 q.2)
 | .itr k es,p=>(J0 false es p).bind fun q=>(looks q.2 q.1).bind fun ts=>(itT k ts).map fun xs=>(.f (.lst xs),q.2)
 | .tmp a,p=>(toT (ev a (frz p))).bind fun q=>if scal q.1=true then some (.f q.1,p) else none
 | _,_=>none
noncomputable def J0:Bool->E->P->Option (List A×P)
 | _,.nil,p=>some ([],p)
 | m,.cons a r,p=>(Sg m a p (toT (ev a p))).bind fun q=>(J0 m r q.2).map fun s=>(q.1::s.1,s.2)
 | _,_,_=>none
end
end
theorem ev_vQ{w:W}{p:P}:∀i,ev w (.v i) p=((read p i).map fun q=>(.f q.1,q.2)):=fun _=>rfl
theorem ev_mvQ{w:W}{p:P}:∀i,ev w (.mv i) p=(match p[i]? with
  | some (.o t)=>some (.o t,p.set i .no)
  | some (.f t)=>some (.f t,p)
  | _=>none):=fun _=>rfl
theorem ev_gQ{w:W}{p:P}:∀x,ev w (.g x) p=((w.gl x).map fun t=>(.f t,p)):=fun _=>rfl
theorem Zx1{w:W}{p:P}:∀es,ev w (.tup es) p=((J0 w false es p).bind fun q=>(looks q.2 q.1).bind fun ts=>if ts.length<=sizeLine then some (.f (.tup ts),q.2) else none):=fun _=>rfl
theorem Zx3{w:W}{p:P}:∀es,ev w (.lst es) p=((J0 w false es p).bind fun q=>(looks q.2 q.1).bind fun ts=>if ts.length<=sizeLine then some (.o (.lst ts),q.2) else none):=fun _=>rfl
theorem ev_prQ{w:W}{p:P}:∀r es,ev w (.pr r es) p=((J0 w true es p).bind fun q=>(looks q.2 q.1).bind fun ts=>(K3 r ts).map fun s=>(s,q.2)):=fun _ _=>rfl
theorem X6{w:W}{p:P}:∀a b,ev w (.and a b) p=((Dy (ev w a p)).bind fun q=>if q.1=true then ev w b q.2 else some (.f (.bl false),q.2)):=fun _ _=>rfl
theorem n8{w:W}{p:P}:∀a b,ev w (.or a b) p=((Dy (ev w a p)).bind fun q=>if q.1=true then some (.f (.bl true),q.2) else ev w b q.2):=fun _ _=>rfl
theorem X5{w:W}{p:P}:∀a,ev w (.not a) p=((Dy (ev w a p)).map fun q=>(.f (.bl (!q.1)),q.2)):=fun _=>rfl
theorem Zx5{w:W}{p:P}:∀c a b,ev w (.ite c a b) p=((Dy (ev w c p)).bind fun q=>if q.1=true then ev w a q.2 else ev w b q.2):=fun _ _ _=>rfl
theorem lz{w:W}{p:P}:∀f es,ev w (.call f es) p=((J0 w false es p).bind fun q=>(args q.2 q.1).bind fun as=>(w.C f as).bind fun r=>(outs q.2 q.1 r.2).map fun p'=>(r.1,p')):=fun _ _=>rfl
theorem Zx6{w:W}{p:P}:∀i es,ev w (.cal i es) p=(match p[i]? with
  | some (.f (.fn f))=>(J0 w false es p).bind fun q=>(args q.2 q.1).bind fun as=>(w.C f as).bind fun r=>(outs q.2 q.1 r.2).map fun p'=>(r.1,p')
  | _=>none):=fun _ _=>rfl
theorem ev_mtQ{w:W}{p:P}:∀m i es,ev w (.mt m i es) p=(if qb p i=true then (J0 w false es p).bind fun q=>(looks q.2 q.1).bind fun ts=>match q.2[i]? with
   | some (.o t)=>(mtT m t ts).map fun r=>(.f r.2,q.2.set i (.o r.1))
   | _=>none
  else none):=fun _ _ _=>rfl
theorem n9{w:W}{p:P}:∀tg it c el fr zz,ev w (.comp tg it c el fr zz) p=((pq (ev w it p)).bind fun q=>(Mj (fun x s=>(asg tg x s).bind fun s1=>(if isNil c=true then some (true,s1) else Dy (ev w c s1)).bind fun b=>if b.1=true then (toT (ev w el b.2)).map fun r=>(some r.1,r.2) else some (none,b.2)) q.1 [] (wt fr q.2)).map fun r=>(.o (.lst r.1),back fr r.2 q.2)):=fun _ _ _ _ _ _=>rfl
theorem Zx4{w:W}{p:P}:∀k es,ev w (.itr k es) p=((J0 w false es p).bind fun q=>(looks q.2 q.1).bind fun ts=>(itT k ts).map fun xs=>(.f (.lst xs),q.2)):=fun _ _=>rfl
theorem Zx2{w:W}{p:P}:∀a,ev w (.tmp a) p=((toT (ev w a (frz p))).bind fun q=>if scal q.1=true then some (.f q.1,p) else none):=fun _=>rfl
noncomputable def Td(body:T->P->Option (Fl×P)):ZZ->P->Option (Fl×P)
 | [],p=>some (.nx,p)
 | x::r,p=>(body x p).bind fun q=>match q.1 with
  | .nx=>Td body r q.2
  | .ct=>Td body r q.2
  | .bk=>some (.nx,q.2)
  | .rt t=>some (.rt t,q.2)
noncomputable def Tb(test:P->Option (Bool×P))(body:P->Option (Fl×P)):Nat->P->Option (Fl×P)
 | 0,_=>none
 | n+1,p=>(test p).bind fun b=>if b.1=true then (body b.2).bind fun q=>match q.1 with
   | .nx=>Tb test body n q.2
   | .ct=>Tb test body n q.2
   | .bk=>some (.nx,q.2)
   | .rt t=>some (.rt t,q.2)
  else some (.nx,b.2)
noncomputable def Uz(pt:Nat->Bool):E->Bool
 | .v i=>!pt i
 | .tup es=>Uz pt es
 | .nil=>true
 | .cons a r=>Uz pt a && Uz pt r
 | _=>false
noncomputable def putAt:T->T->T->Option T
 | .lst ts,.int i,t=>(Qr ts.length i).map fun j=>.lst (ts.set j t)
 | .dct XB,k,t=>(keyT k).bind fun k=>if XB.length<sizeLine then some (.dct (Vn XB k t)) else none
 | _,_,_=>none
section
variable(w:W)(pt:Nat->Bool)
noncomputable def ex:S->P->Option (Fl×P)
 | .nil,p=>some (.nx,p)
 | .seq a r,p=>(ex a p).bind fun q=>match q.1 with
  | .nx=>ex r q.2
  | .rt t=>some (.rt t,q.2)
  | .bk=>some (.bk,q.2)
  | .ct=>some (.ct,q.2)
 | .ret a,p=>(ev w a p).map fun q=>(.rt q.1,q.2)
 | .ex a,p=>(ev w a p).map fun q=>(.nx,q.2)
 | .set i a,p=>if pt i=true then none else (ev w a p).map fun q=>(.nx,q.2.set i q.1)
 | .unp tg a,p=>if Uz pt tg=true then (toT (ev w a p)).bind fun q=>(asg tg q.1 q.2).map fun p'=>(.nx,p') else none
 | .put i k a,p=>(toT (ev w a p)).bind fun q=>if done q.2 i=true then (toT (ev w k q.2)).bind fun r=>match r.2[i]? with
   | some (.o t)=>(putAt t r.1 q.1).map fun t'=>(.nx,r.2.set i (.o t'))
   | _=>none
  else none
 | .ite c a b,p=>(Dy (ev w c p)).bind fun q=>if q.1=true then ex a q.2 else ex b q.2
 | .loop tg it b,p=>if Uz pt tg=true then (pq (ev w it p)).bind fun q=>Td (fun x s=>(asg tg x s).bind fun s1=>ex b s1) q.1 q.2 else none
 | .wh c b,p=>Tb (fun s=>Dy (ev w c s)) (fun s=>ex b s) 1000000 p
 | .pass,p=>some (.nx,p)
 | .brk,p=>some (.bk,p)
 | .cont,p=>some (.ct,p)
end
theorem Zxo{w:W}{pt:Nat->Bool}{p:P}:∀a r,ex w pt (.seq a r) p=((ex w pt a p).bind fun q=>match q.1 with
  | .nx=>ex w pt r q.2
  | .rt t=>some (.rt t,q.2)
  | .bk=>some (.bk,q.2)
  | .ct=>some (.ct,q.2)):=fun _ _=>rfl
theorem Zxi{w:W}{pt:Nat->Bool}{p:P}:∀a,ex w pt (.ret a) p=((ev w a p).map fun q=>(.rt q.1,q.2)):=fun _=>rfl
theorem ex_exQ{w:W}{pt:Nat->Bool}{p:P}:∀a,ex w pt (.ex a) p=((ev w a p).map fun q=>(.nx,q.2)):=fun _=>rfl
theorem Zxa{w:W}{pt:Nat->Bool}{p:P}:∀i a,ex w pt (.set i a) p=(if pt i=true then none else (ev w a p).map fun q=>(.nx,q.2.set i q.1)):=fun _ _=>rfl
theorem Zxu{w:W}{pt:Nat->Bool}{p:P}:∀tg a,ex w pt (.unp tg a) p=(if Uz pt tg=true then (toT (ev w a p)).bind fun q=>(asg tg q.1 q.2).map fun p'=>(.nx,p') else none):=fun _ _=>rfl
theorem Zxe{w:W}{pt:Nat->Bool}{p:P}:∀i k a,ex w pt (.put i k a) p=((toT (ev w a p)).bind fun q=>if done q.2 i=true then (toT (ev w k q.2)).bind fun r=>match r.2[i]? with
   | some (.o t)=>(putAt t r.1 q.1).map fun t'=>(.nx,r.2.set i (.o t'))
   | _=>none
  else none):=fun _ _ _=>rfl
theorem Zx0{w:W}{pt:Nat->Bool}{p:P}:∀c a b,ex w pt (.ite c a b) p=((Dy (ev w c p)).bind fun q=>if q.1=true then ex w pt a q.2 else ex w pt b q.2):=fun _ _ _=>rfl
theorem n6{w:W}{pt:Nat->Bool}{p:P}:∀tg it b,ex w pt (.loop tg it b) p=(if Uz pt tg=true then (pq (ev w it p)).bind fun q=>Td (fun x s=>(asg tg x s).bind fun s1=>ex w pt b s1) q.1 q.2 else none):=fun _ _ _=>rfl
theorem ex_whQ{w:W}{pt:Nat->Bool}{p:P}:∀c b,ex w pt (.wh c b) p=(Tb (fun s=>Dy (ev w c s)) (fun s=>ex w pt b s) 1000000 p):=fun _ _=>rfl
def on{Z:Type}(o:Option Z)(Q:Z->Prop):Prop:=match o with
 | some a=>Q a
 | none=>False
theorem Zm{Z:Type}{o:Option Z}{a:Z}{Q:Z->Prop}(e:o=some a)(h:Q a):on o Q:=by rw[e];exact h
theorem Yg{Z:Type}{o:Option Z}{Q:Z->Prop}(h:on o Q):∃a,o=some a/\Q a:=by
 cases o with
 | none=>exact h.elim
 | some a=>exact⟨a,rfl,h⟩
noncomputable def wx(r:Sl)(Q:Bool->Prop):Prop:=match r with
 | .f (.bl b)=>Q b
 | _=>False
def Oe(r:Sl)(Q:T->Prop):Prop:=match r with
 | .f t=>Q t
 | .o t=>Q t
 | .no=>False
theorem Md{r:Sl}{p:P}{Q:Bool->Prop}{o:Option (Sl×P)}(e:o=some (r,p))(h:wx r Q):∃b,Dy o=some (b,p)/\Q b:=by
 subst e;unfold wx at h
 split at h
 .exact⟨_,rfl,h⟩
 .exact h.elim
theorem G0{r:Sl}{p:P}{Q:T->Prop}{o:Option (Sl×P)}(e:o=some (r,p))(h:Oe r Q):∃t,toT o=some (t,p)/\Q t:=by
 subst e;cases r with
 | no=>exact h.elim
 | f t=>exact⟨t,rfl,h⟩
 | o t=>exact⟨t,rfl,h⟩
theorem dv{r:Sl}{p:P}{Q:ZZ->Prop}{o:Option (Sl×P)}(e:o=some (r,p))(h:Oe r fun t=>on (M0 t) Q):∃ts,pq o=some (ts,p)/\Q ts:=by
 obtain⟨t,e1,h1⟩:=G0 e h;obtain⟨ts,e2,h2⟩:=Yg h1;exact⟨ts,by unfold pq;rw[e1];show (M0 t).map _=_;rw[e2];rfl,h2⟩
def D5(body:T->P->(Option T->P->Prop)->Prop):ZZ->ZZ->P->(ZZ->P->Prop)->Prop
 | [],acc,p,Q=>Q acc p
 | x::r,acc,p,Q=>body x p fun o p'=>match o with
  | some y=>D5 body r (acc++[y]) p' Q
  | none=>D5 body r acc p' Q
section
variable(w:W)
mutual
noncomputable def wE:E->P->(Sl->P->Prop)->Prop
 | .v i,p,Q=>on (read p i) fun q=>Q (.f q.1) q.2
 | .mv i,p,Q=>match p[i]? with
  | some (.o t)=>Q (.o t) (p.set i .no)
  | some (.f t)=>Q (.f t) p
  | _=>False
 | .k t,p,Q=>Q (.f t) p
 | .g x,p,Q=>on (w.gl x) fun t=>Q (.f t) p
 | .tup es,p,Q=>wR false es p fun as p1=>on (looks p1 as) fun ts=>if ts.length<=sizeLine then Q (.f (.tup ts)) p1 else False
 | .lst es,p,Q=>wR false es p fun as p1=>on (looks p1 as) fun ts=>if ts.length<=sizeLine then Q (.o (.lst ts)) p1 else False
 | .pr r es,p,Q=>wR true es p fun as p1=>on (looks p1 as) fun ts=>on (K3 r ts) fun s=>Q s p1
 | .and a b,p,Q=>wE a p fun r p1=>wx r fun c=>if c=true then wE b p1 Q else Q (.f (.bl false)) p1
 | .or a b,p,Q=>wE a p fun r p1=>wx r fun c=>if c=true then Q (.f (.bl true)) p1 else wE b p1 Q
 | .not a,p,Q=>wE a p fun r p1=>wx r fun c=>Q (.f (.bl (!c))) p1
 | .ite c a b,p,Q=>wE c p fun r p1=>wx r fun c=>if c=true then wE a p1 Q else wE b p1 Q
 | .call f es,p,Q=>wR false es p fun as p1=>on (args p1 as) fun sl=>on (w.C f sl) fun r=>on (outs p1 as r.2) fun p2=>Q r.1 p2
 | .cal i es,p,Q=>match p[i]? with
  | some (.f (.fn f))=>wR false es p fun as p1=>on (args p1 as) fun sl=>on (w.C f sl) fun r=>on (outs p1 as r.2) fun p2=>Q r.1 p2
  | _=>False
 | .mt m i es,p,Q=>if qb p i=true then wR false es p fun as p1=>on (looks p1 as) fun ts=>match p1[i]? with
   | some (.o t)=>on (mtT m t ts) fun r=>Q (.f r.2) (p1.set i (.o r.1))
   | _=>False
  else False
 | .comp tg it c el fr _,p,Q=>wE it p fun r p1=>Oe r fun t=>on (M0 t) fun xs=>D5 (fun x s K=>on (asg tg x s) fun s1=>if isNil c=true then wE el s1 fun r s2=>Oe r fun y=>K (some y) s2
   else wE c s1 fun r s2=>wx r fun b=>if b=true then wE el s2 fun r s3=>Oe r fun y=>K (some y) s3 else K none s2) xs [] (wt fr p1) fun ys s=>Q (.o (.lst ys)) (back fr s p1)
 | .itr k es,p,Q=>wR false es p fun as p1=>on (looks p1 as) fun ts=>on (itT k ts) fun xs=>Q (.f (.lst xs)) p1
 | .tmp a,p,Q=>wE a (frz p) fun r _=>Oe r fun t=>if scal t=true then Q (.f t) p else False
 | _,_,_=>False
noncomputable def wR:Bool->E->P->(List A->P->Prop)->Prop
 | _,.nil,p,Q=>Q [] p
 | m,.cons a r,p,Q=>match a with
  | .io i=>if done p i=true then wR m r p fun as p1=>Q (.s i::as) p1 else False
  | .v i=>if m=true then (if done p i=true then wR m r p fun as p1=>Q (.s i::as) p1 else False) else on (read p i) fun q=>wR m r q.2 fun as p1=>Q (.t q.1::as) p1
  | _=>wE a p fun s p1=>Oe s fun t=>wR m r p1 fun as p2=>Q (.t t::as) p2
 | _,_,_,_=>False
end
theorem wE_mvQ{w:W}{p:P}{Q:Sl->P->Prop}:∀i,wE w (.mv i) p Q=(match p[i]? with
  | some (.o t)=>Q (.o t) (p.set i .no)
  | some (.f t)=>Q (.f t) p
  | _=>False):=fun _=>rfl
theorem ud{w:W}{p:P}{Q:Sl->P->Prop}:∀i es,wE w (.cal i es) p Q=(match p[i]? with
  | some (.f (.fn f))=>wR w false es p fun as p1=>on (args p1 as) fun sl=>on (w.C f sl) fun r=>on (outs p1 as r.2) fun p2=>Q r.1 p2
  | _=>False):=fun _ _=>rfl
theorem wE_mtQ{w:W}{p:P}{Q:Sl->P->Prop}:∀m i es,wE w (.mt m i es) p Q=(if qb p i=true then wR w false es p fun as p1=>on (looks p1 as) fun ts=>match p1[i]? with
   | some (.o t)=>on (mtT m t ts) fun r=>Q (.f r.2) (p1.set i (.o r.1))
   | _=>False
  else False):=fun _ _ _=>rfl
theorem vh{w:W}{p:P}{Q:Sl->P->Prop}:∀tg it c el fr zz,wE w (.comp tg it c el fr zz) p Q=(wE w it p fun r p1=>Oe r fun t=>on (M0 t) fun xs=>D5 (fun x s K=>on (asg tg x s) fun s1=>if isNil c=true then wE w el s1 fun r s2=>Oe r fun y=>K (some y) s2
   else wE w c s1 fun r s2=>wx r fun b=>if b=true then wE w el s2 fun r s3=>Oe r fun y=>K (some y) s3 else K none s2) xs [] (wt fr p1) fun ys s=>Q (.o (.lst ys)) (back fr s p1)):=fun _ _ _ _ _ _=>rfl
theorem vn{w:W}{p:P}{Q:List A->P->Prop}:∀m a r,wR w m (.cons a r) p Q=(match a with
  | .io i=>if done p i=true then wR w m r p fun as p1=>Q (.s i::as) p1 else False
  | .v i=>if m=true then (if done p i=true then wR w m r p fun as p1=>Q (.s i::as) p1 else False) else on (read p i) fun q=>wR w m r q.2 fun as p1=>Q (.t q.1::as) p1
  | _=>wE w a p fun s p1=>Oe s fun t=>wR w m r p1 fun as p2=>Q (.t t::as) p2):=fun _ _ _=>rfl
structure En where
 nx:P->Prop
 rt:Sl->P->Prop
 bk:P->Prop:=fun _=>False
 ct:P->Prop:=fun _=>False
def Gm(body:T->P->En->Prop):ZZ->P->En->Prop
 | [],p,D=>D.nx p
 | x::r,p,D=>body x p ⟨fun q=>Gm body r q D,D.rt,D.nx,fun q=>Gm body r q D⟩
def wWh(test:P->(Bool->P->Prop)->Prop)(body:P->En->Prop):Nat->P->En->Prop
 | 0,_,_=>False
 | n+1,p,D=>test p fun b p1=>if b=true then body p1 ⟨fun q=>wWh test body n q D,D.rt,D.nx,fun q=>wWh test body n q D⟩ else D.nx p1
variable(pt:Nat->Bool)
def wS:S->P->En->Prop
 | .nil,p,D=>D.nx p
 | .seq a r,p,D=>wS a p ⟨fun q=>wS r q D,D.rt,D.bk,D.ct⟩
 | .ret a,p,D=>wE w a p D.rt
 | .ex a,p,D=>wE w a p fun _ q=>D.nx q
 | .set i a,p,D=>if pt i=true then False else wE w a p fun r q=>D.nx (q.set i r)
 | .unp tg a,p,D=>if Uz pt tg=true then wE w a p fun r q=>Oe r fun t=>on (asg tg t q) D.nx else False
 | .put i k a,p,D=>wE w a p fun r p1=>Oe r fun t=>if done p1 i=true then wE w k p1 fun r p2=>Oe r fun k=>match p2[i]? with
   | some (.o x)=>on (putAt x k t) fun x'=>D.nx (p2.set i (.o x'))
   | _=>False
  else False
 | .ite c a b,p,D=>wE w c p fun r q=>wx r fun b'=>if b'=true then wS a q D else wS b q D
 | .loop tg it b,p,D=>if Uz pt tg=true then wE w it p fun r q=>Oe r fun t=>on (M0 t) fun xs=>Gm (fun x s D=>on (asg tg x s) fun s1=>wS b s1 D) xs q D else False
 | .wh c b,p,D=>wWh (fun s K=>wE w c s fun r q=>wx r fun b=>K b q) (fun s D=>wS b s D) 1000000 p D
 | .pass,p,D=>D.nx p
 | .brk,p,D=>D.bk p
 | .cont,p,D=>D.ct p
end
theorem Cp{body:T->P->(Option T->P->Prop)->Prop}{b':T->P->Option (Option T×P)}(hb:∀x p K,body x p K->∃o p',b' x p=some (o,p')/\K o p'):∀(xs acc:ZZ) (p:P) (Q:ZZ->P->Prop),D5 body xs acc p Q->∃ys p',Mj b' xs acc p=some (ys,p')/\Q ys p'
 | [],acc,p,Q,h=>⟨acc,p,rfl,h⟩
 | x::r,acc,p,Q,h=>by
  obtain⟨o,p',e,h'⟩:=hb x p _ h;unfold Mj;rw[e];cases o with
  | some y=>exact Cp hb r _ p' Q h'
  | none=>exact Cp hb r _ p' Q h'
section
variable(w:W)
theorem wER_ev(e:E):(∀(p:P) (Q:Sl->P->Prop),wE w e p Q->∃r p',ev w e p=some (r,p')/\Q r p')/\∀(m:Bool) (p:P) (Q:List A->P->Prop),wR w m e p Q->∃as p',J0 w m e p=some (as,p')/\Q as p':=by
 induction e with
 | v i  =>
  refine⟨fun p Q h=>?_,fun _ _ _ h=>False.elim h⟩;obtain⟨q,e,h⟩:=Yg h;exact⟨_,_,by show (read p i).map _=_;rw[e];rfl,h⟩
 | mv i  =>
  refine⟨fun p Q h=>?_,fun _ _ _ h=>False.elim h⟩
  replace h:=Eq.mp (wE_mvQ _) h
  split at h
  .rename_i t e
   exact⟨_,_,by show (match p[i]? with | some (.o t)=>some (Sl.o t,p.set i .no) | some (.f t)=>some (Sl.f t,p) | _=>none)=_;rw[e],h⟩
  .rename_i t e
   exact⟨_,_,by show (match p[i]? with | some (.o t)=>some (Sl.o t,p.set i .no) | some (.f t)=>some (Sl.f t,p) | _=>none)=_;rw[e],h⟩
  .exact h.elim
 | io i  =>
  refine⟨fun _ _ h=>False.elim h,fun _ _ _ h=>False.elim h⟩
 | k t  =>
  refine⟨fun p Q h=>⟨_,_,rfl,h⟩,fun _ _ _ h=>False.elim h⟩
 | g x  =>
  refine⟨fun p Q h=>?_,fun _ _ _ h=>False.elim h⟩;obtain⟨q,e,h⟩:=Yg h;exact⟨_,_,by show (w.gl x).map _=_;rw[e];rfl,h⟩
 | tup es jf =>
  refine⟨fun p Q h=>?_,fun _ _ _ h=>False.elim h⟩;obtain⟨as,p1,e1,h⟩:=jf.2 false p _ h;obtain⟨ts,e2,h⟩:=Yg h
  split at h
  .rename_i hl
   exact⟨_,_,by show (J0 w false es p).bind _=_;rw[e1];show (looks p1 as).bind _=_;rw[e2];exact if_pos hl,h⟩
  .exact h.elim
 | lst es jf =>
  refine⟨fun p Q h=>?_,fun _ _ _ h=>False.elim h⟩;obtain⟨as,p1,e1,h⟩:=jf.2 false p _ h;obtain⟨ts,e2,h⟩:=Yg h
  split at h
  .rename_i hl
   exact⟨_,_,by show (J0 w false es p).bind _=_;rw[e1];show (looks p1 as).bind _=_;rw[e2];exact if_pos hl,h⟩
  .exact h.elim
 | pr r es jf =>
  refine⟨fun p Q h=>?_,fun _ _ _ h=>False.elim h⟩;obtain⟨as,p1,e1,h⟩:=jf.2 true p _ h;obtain⟨ts,e2,h⟩:=Yg h;obtain⟨s,e3,h⟩:=Yg h;exact⟨_,_,by show (J0 w true es p).bind _=_;rw[e1];show (looks p1 as).bind _=_;rw[e2];show (K3 r ts).map _=_;rw[e3];rfl,h⟩
 | and a b ha hb =>
  refine⟨fun p Q h=>?_,fun _ _ _ h=>False.elim h⟩;obtain⟨r,p1,e1,h⟩:=ha.1 p _ h;obtain⟨c,e2,h⟩:=Md e1 h;cases c with
  | true =>
   obtain⟨r,p2,e3,h⟩:=hb.1 p1 Q h;exact⟨_,_,by show (Dy (ev w a p)).bind _=_;rw[e2];exact e3,h⟩
  | false=>exact⟨_,_,by show (Dy (ev w a p)).bind _=_;rw[e2];rfl,h⟩
 | or a b ha hb =>
  refine⟨fun p Q h=>?_,fun _ _ _ h=>False.elim h⟩;obtain⟨r,p1,e1,h⟩:=ha.1 p _ h;obtain⟨c,e2,h⟩:=Md e1 h;cases c with
  | false =>
   obtain⟨r,p2,e3,h⟩:=hb.1 p1 Q h;exact⟨_,_,by show (Dy (ev w a p)).bind _=_;rw[e2];exact e3,h⟩
  | true=>exact⟨_,_,by show (Dy (ev w a p)).bind _=_;rw[e2];rfl,h⟩
 | not a ha =>
  refine⟨fun p Q h=>?_,fun _ _ _ h=>False.elim h⟩;obtain⟨r,p1,e1,h⟩:=ha.1 p _ h;obtain⟨c,e2,h⟩:=Md e1 h;exact⟨_,_,by show (Dy (ev w a p)).map _=_;rw[e2];rfl,h⟩
 | ite c a b hc ha hb =>
  refine⟨fun p Q h=>?_,fun _ _ _ h=>False.elim h⟩;obtain⟨r,p1,e1,h⟩:=hc.1 p _ h;obtain⟨c',e2,h⟩:=Md e1 h;cases c' with
  | true =>
   obtain⟨r,p2,e3,h⟩:=ha.1 p1 Q h;exact⟨_,_,by show (Dy (ev w c p)).bind _=_;rw[e2];exact e3,h⟩
  | false =>
   obtain⟨r,p2,e3,h⟩:=hb.1 p1 Q h;exact⟨_,_,by show (Dy (ev w c p)).bind _=_;rw[e2];exact e3,h⟩
 | call f es jf =>
  refine⟨fun p Q h=>?_,fun _ _ _ h=>False.elim h⟩;obtain⟨as,p1,e1,h⟩:=jf.2 false p _ h;obtain⟨sl,e2,h⟩:=Yg h;obtain⟨r,e3,h⟩:=Yg h;obtain⟨p2,e4,h⟩:=Yg h;exact⟨_,_,by show (J0 w false es p).bind _=_;rw[e1];show (args p1 as).bind _=_;rw[e2];show (w.C f sl).bind _=_;rw[e3];show (outs p1 as r.2).map _=_;rw[e4];rfl,h⟩
 | cal i es jf =>
  refine⟨fun p Q h=>?_,fun _ _ _ h=>False.elim h⟩
  replace h:=Eq.mp (ud _ _) h
  split at h
  .rename_i f ef
   obtain⟨as,p1,e1,h⟩:=jf.2 false p _ h;obtain⟨sl,e2,h⟩:=Yg h;obtain⟨r,e3,h⟩:=Yg h;obtain⟨p2,e4,h⟩:=Yg h;exact⟨_,_,by show (match p[i]? with | some (.f (.fn f))=>(J0 w false es p).bind fun q=>(args q.2 q.1).bind fun as=>(w.C f as).bind fun r=>(outs q.2 q.1 r.2).map fun p'=>(r.1,p') | _=>none)=_;rw[ef];show (J0 w false es p).bind _=_;rw[e1];show (args p1 as).bind _=_;rw[e2];show (w.C f sl).bind _=_;rw[e3];show (outs p1 as r.2).map _=_;rw[e4];rfl,h⟩
  .exact h.elim
 | mt m i es jf =>
  refine⟨fun p Q h=>?_,fun _ _ _ h=>False.elim h⟩
  replace h:=Eq.mp (wE_mtQ _ _ _) h
  split at h
  .rename_i hd
   obtain⟨as,p1,e1,h⟩:=jf.2 false p _ h;obtain⟨ts,e2,h⟩:=Yg h
   split at h
   .rename_i t et
    obtain⟨r,e3,h⟩:=Yg h;exact⟨_,_,by show (if qb p i=true then _ else _)=_;rw[if_pos hd,e1];show (looks p1 as).bind _=_;rw[e2];show (match p1[i]? with | some (.o t)=>_ | _=>_)=_;rw[et];show (mtT m t ts).map _=_;rw[e3];rfl,h⟩
   .exact h.elim
  .exact h.elim
 | comp tg it c el fr z5 htg hit hc wk =>
  refine⟨fun p Q h=>?_,fun _ _ _ h=>False.elim h⟩
  replace h:=Eq.mp (vh _ _ _ _ _ _) h
  obtain⟨r,p1,e1,h⟩:=hit.1 p _ h;obtain⟨xs,e2,h⟩:=dv e1 h
  obtain⟨ys,s,e3,h⟩:=Cp (b':=fun x s=>(asg tg x s).bind fun s1=>(if isNil c=true then some (true,s1) else Dy (ev w c s1)).bind fun b=>if b.1=true then (toT (ev w el b.2)).map fun r=>(some r.1,r.2) else some (none,b.2)) (fun x s K hk=>by
    obtain⟨s1,e3,hk⟩:=Yg hk;rw[e3];show ∃o p',(if isNil c=true then some (true,s1) else Dy (ev w c s1)).bind _=_/\_;cases hz:isNil c with
    | true =>
     rw[hz]at hk;obtain⟨r,s2,e4,hk⟩:=wk.1 s1 _ hk;obtain⟨t,e5,hk⟩:=G0 e4 hk;exact⟨_,_,by show (toT (ev w el s1)).map _=_;rw[e5];rfl,hk⟩
    | false =>
     rw[hz]at hk;obtain⟨r,s2,e4,hk⟩:=hc.1 s1 _ hk;obtain⟨b,e5,hk⟩:=Md e4 hk;show ∃o p',(Dy (ev w c s1)).bind _=_/\_;rw[e5];cases b with
     | true =>
      obtain⟨r,s3,e7,hk⟩:=wk.1 s2 _ hk;obtain⟨t,e8,hk⟩:=G0 e7 hk;exact⟨_,_,by show (toT (ev w el s2)).map _=_;rw[e8];rfl,hk⟩
     | false=>exact⟨_,_,rfl,hk⟩) xs [] _ _ h
  exact⟨_,_,by show (pq (ev w it p)).bind _=_;rw[e2];show Option.map _ (Mj _ xs [] (wt fr p1))=_;rw[e3];rfl,h⟩
 | itr k es jf =>
  refine⟨fun p Q h=>?_,fun _ _ _ h=>False.elim h⟩;obtain⟨as,p1,e1,h⟩:=jf.2 false p _ h;obtain⟨ts,e2,h⟩:=Yg h;obtain⟨s,e3,h⟩:=Yg h;exact⟨_,_,by show (J0 w false es p).bind _=_;rw[e1];show (looks p1 as).bind _=_;rw[e2];show (itT k ts).map _=_;rw[e3];rfl,h⟩
 | tmp a ha =>
  refine⟨fun p Q h=>?_,fun _ _ _ h=>False.elim h⟩;obtain⟨r,p1,e1,h⟩:=ha.1 (frz p) _ h;obtain⟨t,e2,h⟩:=G0 e1 h
  split at h
  .rename_i hs
   exact⟨_,_,by show (toT (ev w a (frz p))).bind _=_;rw[e2];exact if_pos hs,h⟩
  .exact h.elim
 | nil   =>
  refine⟨fun _ _ h=>False.elim h,fun m p Q h=>⟨[],p,by cases m<;>rfl,by cases m<;>exact h⟩⟩
 | cons a r ha hr =>
  refine⟨fun _ _ h=>False.elim h,fun m p Q h=>?_⟩
  have fin:∀(q:A×P) {p1:P} {as:List A},Sg m a p (toT (ev w a p))=some q->J0 w m r q.2=some (as,p1)->J0 w m (.cons a r) p=some (q.1::as,p1):=fun q p1 as e1 e2=>by
   show (Sg m a p (toT (ev w a p))).bind _=_;rw[e1];show (J0 w m r q.2).map _=_;rw[e2]
   rfl
  replace h:=Eq.mp (vn _ _ _) h
  split at h
  .rename_i i
   split at h
   .rename_i hd
    obtain⟨as,p1,e,h⟩:=hr.2 m p _ h;exact⟨_,_,fin (.s i,p) (by simp[Sg,hd]) e,h⟩
   .exact h.elim
  .rename_i i
   split at h
   .rename_i hm
    split at h
    .rename_i hd
     obtain⟨as,p1,e,h⟩:=hr.2 m p _ h;exact⟨_,_,fin (.s i,p) (by simp[Sg,hm,hd]) e,h⟩
    .exact h.elim
   .rename_i hm
    obtain⟨q,e1,h⟩:=Yg h;obtain⟨as,p1,e,h⟩:=hr.2 m q.2 _ h;exact⟨_,_,fin (.t q.1,q.2) (by simp[Sg,hm,e1]) e,h⟩
  .rename_i n1 n2
   obtain⟨s,p1,e1,h⟩:=ha.1 p _ h;obtain⟨t,e2,h⟩:=G0 e1 h;obtain⟨as,p2,e,h⟩:=hr.2 m p1 _ h;refine⟨_,_,fin (.t t,p1) ?_ e,h⟩;unfold Sg
   split
   .exact absurd rfl (n1 _)
   .exact absurd rfl (n2 _)
   .rw[e2];rfl
theorem M3(e:E)(p:P)(Q:Sl->P->Prop):wE w e p Q->∃r p',ev w e p=some (r,p')/\Q r p':=(wER_ev w e).1 p Q
end
def En.fl(D:En)(f:Fl)(p:P):Prop:=match f with
 | .nx=>D.nx p
 | .rt r=>D.rt r p
 | .bk=>D.bk p
 | .ct=>D.ct p
theorem Fc{body:T->P->En->Prop}{b':T->P->Option (Fl×P)}(hb:∀x p D,body x p D->∃f p',b' x p=some (f,p')/\D.fl f p'):∀(xs:ZZ) (p:P) (D:En),Gm body xs p D->∃f p',Td b' xs p=some (f,p')/\D.fl f p'
 | [],p,D,h=>⟨.nx,p,rfl,h⟩
 | x::r,p,D,h=>by
  obtain⟨f,p',e,h'⟩:=hb x p _ h;unfold Td;rw[e];cases f with
  | nx=>exact Fc hb r p' D h'
  | ct=>exact Fc hb r p' D h'
  | bk=>exact⟨.nx,p',rfl,h'⟩
  | rt t=>exact⟨.rt t,p',rfl,h'⟩
theorem Kx{test:P->(Bool->P->Prop)->Prop}{t':P->Option (Bool×P)}{body:P->En->Prop}{b':P->Option (Fl×P)}(ht:∀p K,test p K->∃b p',t' p=some (b,p')/\K b p')(hb:∀p D,body p D->∃f p',b' p=some (f,p')/\D.fl f p') :
  ∀(n:Nat) (p:P) (D:En),wWh test body n p D->∃f p',Tb t' b' n p=some (f,p')/\D.fl f p'
 | 0,p,D,h=>h.elim
 | n+1,p,D,h=>by
  obtain⟨b,p1,e,h⟩:=ht p _ h;unfold Tb;rw[e];cases b with
  | false=>exact⟨.nx,p1,rfl,h⟩
  | true =>
   obtain⟨f,p2,e2,h⟩:=hb p1 _ h;show ∃f p',(b' p1).bind _=_/\_;rw[e2];cases f with
   | nx=>exact Kx ht hb n p2 D h
   | ct=>exact Kx ht hb n p2 D h
   | bk=>exact⟨.nx,p2,rfl,h⟩
   | rt t=>exact⟨.rt t,p2,rfl,h⟩
theorem wS_ex(w:W)(pt:Nat->Bool)(s:S):∀(p:P) (D:En),wS w pt s p D->∃f p',ex w pt s p=some (f,p')/\D.fl f p':=by
 induction s with
 | nil=>exact fun p D h=>⟨.nx,p,rfl,h⟩
 | seq a r ha hr =>
  intro p D h;obtain⟨f,p1,e,h⟩:=ha p _ h;show ∃f p',(ex w pt a p).bind _=_/\_;rw[e];cases f with
  | nx=>exact hr p1 D h
  | rt t=>exact⟨_,_,rfl,h⟩
  | bk=>exact⟨_,_,rfl,h⟩
  | ct=>exact⟨_,_,rfl,h⟩
 | ret a =>
  intro p D h;obtain⟨r,p1,e,h⟩:=M3 w a p _ h;exact⟨.rt r,p1,by show (ev w a p).map _=_;rw[e];rfl,h⟩
 | ex a =>
  intro p D h;obtain⟨r,p1,e,h⟩:=M3 w a p _ h;exact⟨.nx,p1,by show (ev w a p).map _=_;rw[e];rfl,h⟩
 | set i a =>
  intro p D h;by_cases hp:pt i=true
  .have h:(if pt i=true then False else _):=h;rw[if_pos hp]at h;exact h.elim
  .obtain⟨r,p1,e,h⟩:=M3 w a p _ (if_neg hp ▸ (show (if pt i=true then False else _) from h));exact⟨.nx,_,by show (if pt i=true then none else _)=_;rw[if_neg hp,e];rfl,h⟩
 | unp tg a =>
  intro p D h;by_cases hp:Uz pt tg=true
  .obtain⟨r,p1,e,h⟩:=M3 w a p _ (if_pos hp ▸ (show (if Uz pt tg=true then _ else False) from h));obtain⟨t,e2,h⟩:=G0 e h;obtain⟨p2,e3,h⟩:=Yg h;exact⟨.nx,_,by show (if Uz pt tg=true then _ else none)=_;rw[if_pos hp,e2];show (asg tg t p1).map _=_;rw[e3];rfl,h⟩
  .have h:(if Uz pt tg=true then _ else False):=h;rw[if_neg hp]at h;exact h.elim
 | put i k a =>
  intro p D h;obtain⟨r,p1,e,h⟩:=M3 w a p _ h;obtain⟨t,e2,h⟩:=G0 e h
  split at h
  .rename_i hd
   obtain⟨r,p2,e3,h⟩:=M3 w k p1 _ h;obtain⟨kt,e4,h⟩:=G0 e3 h
   split at h
   .rename_i x exq
    obtain⟨x',e5,h⟩:=Yg h;exact⟨.nx,_,by show (toT (ev w a p)).bind _=_;rw[e2];show (if done p1 i=true then (toT (ev w k p1)).bind _ else _)=_;rw[if_pos hd,e4];show (match p2[i]? with | some (.o t)=>_ | _=>_)=_;rw[exq];show (putAt x kt t).map _=_;rw[e5];rfl,h⟩
   .exact h.elim
  .exact h.elim
 | ite c a b ha hb =>
  intro p D h;obtain⟨r,p1,e,h⟩:=M3 w c p _ h;obtain⟨b',e2,h⟩:=Md e h;show ∃f p',(Dy (ev w c p)).bind _=_/\_;rw[e2];cases b' with
  | true=>exact ha p1 D h
  | false=>exact hb p1 D h
 | loop tg it b hb =>
  intro p D h;by_cases hp:Uz pt tg=true
  .obtain⟨r,p1,e,h⟩:=M3 w it p _ (if_pos hp ▸ (show (if Uz pt tg=true then _ else False) from h));obtain⟨xs,e2,h⟩:=dv e h;show ∃f p',(if Uz pt tg=true then _ else none)=_/\_;rw[if_pos hp,e2]
   exact Fc (fun x p D h=>by
    obtain⟨s1,e3,h⟩:=Yg h;rw[e3];exact hb s1 D h) xs p1 D h
  .have h:(if Uz pt tg=true then _ else False):=h;rw[if_neg hp]at h;exact h.elim
 | wh c b hb =>
  intro p D h
  exact Kx (fun p K h=>by
   obtain⟨r,p1,e,h⟩:=M3 w c p _ h;obtain⟨b',e2,h⟩:=Md e h;exact⟨b',p1,e2,h⟩) (fun p D h=>hb p D h) _ p D h
 | pass=>exact fun p D h=>⟨.nx,p,rfl,h⟩
 | brk=>exact fun p D h=>⟨.bk,p,rfl,h⟩
 | cont=>exact fun p D h=>⟨.ct,p,rfl,h⟩
mutual
def IsT(K:W.Frag)(mg:ZV)(H F:Hp):T->V->Prop
 | .non,v=>v=.non
 | .bl b,v=>v=.bl b
 | .int i,v=>v=.int i
 | .str x,v=>v=.str x
 | .tup ts,v=>∃a vs,v=.ref a/\Yu K H a vs/\vs.length<=sizeLine/\Zq K mg H F ts vs
 | .lst ts,v=>∃a vs,v=.ref a/\Rd F a (.lst vs)/\vs.length<=sizeLine/\Zq K mg H F ts vs
 | .dct XB,v=>∃a ks,v=.ref a/\Rd F a (.dK ks)/\ks.length<=sizeLine/\Zt K mg H F XB ks
 | .fn x,v=>∃a,v=.ref a/\mg x=some (.ref a)
def Zq(K:W.Frag)(mg:ZV)(H F:Hp):ZZ->ZQ->Prop
 | [],vs=>vs=[]
 | t::ts,vs=>∃v r,vs=v::r/\IsT K mg H F t v/\Zq K mg H F ts r
def IsK(K:W.Frag)(mg:ZV)(H F:Hp):Key×T->Key×V->Prop
 | (k,t),q=>q.1=k/\IsT K mg H F t q.2
def Zt(K:W.Frag)(mg:ZV)(H F:Hp):ZX->List (Key×V)->Prop
 | [],ks=>ks=[]
 | p::ps,ks=>∃q r,ks=q::r/\IsK K mg H F p q/\Zt K mg H F ps r
end
def Le(F F':Hp):Prop:=∀a o,F a=some o->F' a=some o
theorem Le.refl(F:Hp):Le F F:=fun _ _ h=>h
theorem Le.trans{F F1 F2:Hp}(a:Le F F1)(b:Le F1 F2):Le F F2:=fun c u h=>b c u (a c u h)
structure uw(F F':Hp):Prop where
 l:∀a vs,Rd F a (.lst vs)->Rd F' a (.lst vs)
 d:∀a ks,Rd F a (.dK ks)->Rd F' a (.dK ks)
theorem Le.r{F F':Hp}(l:Le F F'):uw F F':=⟨fun a u h=>h.elim (fun h=>.inl (l a _ h)) fun⟨o,h⟩=>.inr ⟨o,l a _ h⟩,fun a u h=>h.elim (fun h=>.inl (l a _ h)) fun⟨o,h⟩=>.inr ⟨o,l a _ h⟩⟩
section
variable{K:W.Frag}{mg:ZV}{H H' F F':Hp}
mutual
theorem IsT.upR(u:Up K H H')(l:uw F F'):∀(t:T) (v:V),IsT K mg H F t v->IsT K mg H' F' t v
 | .non,_,h=>h
 | .bl _,_,h=>h
 | .int _,_,h=>h
 | .str _,_,h=>h
 | .tup ts,v,h=>by
  obtain⟨a,vs,e,q,z,r⟩:=h;exact⟨a,vs,e,u a vs q,z,Zq.upR u l ts vs r⟩
 | .lst ts,v,h=>by
  obtain⟨a,vs,e,q,z,r⟩:=h;exact⟨a,vs,e,l.l a _ q,z,Zq.upR u l ts vs r⟩
 | .dct XB,v,h=>by
  obtain⟨a,ks,e,q,z,r⟩:=h;exact⟨a,ks,e,l.d a _ q,z,Zt.upR u l XB ks r⟩
 | .fn x,_,h=>h
theorem Zq.upR(u:Up K H H')(l:uw F F'):∀(ts:ZZ) (vs:ZQ),Zq K mg H F ts vs->Zq K mg H' F' ts vs
 | [],_,h=>h
 | t::ts,vs,h=>by
  obtain⟨v,r,e,q,w⟩:=h;exact⟨v,r,e,IsT.upR u l t v q,Zq.upR u l ts r w⟩
theorem IsK.upR(u:Up K H H')(l:uw F F'):∀(p:Key×T) (q:Key×V),IsK K mg H F p q->IsK K mg H' F' p q
 | (k,t),q,h=>⟨h.1,IsT.upR u l t q.2 h.2⟩
theorem Zt.upR(u:Up K H H')(l:uw F F'):∀(ps:ZX) (ks:List (Key×V)),Zt K mg H F ps ks->Zt K mg H' F' ps ks
 | [],_,h=>h
 | p::ps,ks,h=>by
  obtain⟨q,r,e,i,w⟩:=h;exact⟨q,r,e,IsK.upR u l p q i,Zt.upR u l ps r w⟩
end
theorem IsT.up(u:Up K H H')(l:Le F F')(t:T)(v:V)(h:IsT K mg H F t v):IsT K mg H' F' t v:=IsT.upR u l.r t v h
theorem Zq.up(u:Up K H H')(l:Le F F')(t:ZZ)(v:ZQ)(h:Zq K mg H F t v):Zq K mg H' F' t v:=Zq.upR u l.r t v h
theorem Zt.up(u:Up K H H')(l:Le F F')(t:ZX)(v:List (Key×V))(h:Zt K mg H F t v):Zt K mg H' F' t v:=Zt.upR u l.r t v h
theorem Zq.length:∀{ts:ZZ} {vs:ZQ},Zq K mg H F ts vs->ts.length=vs.length
 | [],vs,h=>by
  cases(show vs=[] from h);rfl
 | t::ts,vs,h=>by
  obtain⟨v,r,rfl,_,w⟩:=h;simp only[Gs,Zq.length w]
theorem Zt.length:∀{ts:ZX} {vs:List (Key×V)},Zt K mg H F ts vs->ts.length=vs.length
 | [],vs,h=>by
  cases(show vs=[] from h);rfl
 | t::ts,vs,h=>by
  obtain⟨v,r,rfl,_,w⟩:=h;simp only[Gs,Zt.length w]
theorem Zq.get:∀{ts:ZZ} {vs:ZQ} {i:Nat} {t:T},Zq K mg H F ts vs->ts[i]?=some t->∃v,vs[i]?=some v/\IsT K mg H F t v
 | [],vs,i,t,_,e=>by simp at e
 | t::ts,vs,0,t',h,e=>by
  obtain⟨v,r,rfl,q,_⟩:=h;simp at e;subst e;exact⟨v,rfl,q⟩
 | t::ts,vs,i+1,t',h,e=>by
  obtain⟨v,r,rfl,_,w⟩:=h;obtain⟨v',e1,q⟩:=Zq.get (i:=i) w (by simpa using e);exact⟨v',by simpa using e1,q⟩
theorem Zq.append:∀{ts us:ZZ} {vs ws:ZQ},Zq K mg H F ts vs->Zq K mg H F us ws->Zq K mg H F (ts++us) (vs++ws)
 | [],us,vs,ws,h,h'=>by
  cases(show vs=[] from h);exact h'
 | t::ts,us,vs,ws,h,h'=>by
  obtain⟨v,r,rfl,q,w⟩:=h;exact⟨v,r++ws,rfl,q,Zq.append w h'⟩
theorem Zq.one{t:T}{v:V}(h:IsT K mg H F t v):Zq K mg H F [t] [v]:=⟨v,[],rfl,h,rfl⟩
theorem Zq.drop:∀{ts:ZZ} {vs:ZQ} (n:Nat),Zq K mg H F ts vs->Zq K mg H F (ts.drop n) (vs.drop n)
 | ts,vs,0,h=>h
 | [],vs,n+1,h=>by
  cases(show vs=[] from h);rfl
 | t::ts,vs,n+1,h=>by
  obtain⟨v,r,rfl,_,w⟩:=h;exact Zq.drop n w
theorem Zq.take:∀{ts:ZZ} {vs:ZQ} (n:Nat),Zq K mg H F ts vs->Zq K mg H F (ts.take n) (vs.take n)
 | ts,vs,0,_=>rfl
 | [],vs,n+1,h=>by
  cases(show vs=[] from h);rfl
 | t::ts,vs,n+1,h=>by
  obtain⟨v,r,rfl,q,w⟩:=h;exact⟨v,r.take n,rfl,q,Zq.take n w⟩
theorem Zq.set:∀{ts:ZZ} {vs:ZQ} (n:Nat) {t:T} {v:V},Zq K mg H F ts vs->IsT K mg H F t v->Zq K mg H F (ts.set n t) (vs.set n v)
 | [],vs,n,t,v,h,_=>by
  cases(show vs=[] from h);rfl
 | t::ts,vs,0,t',v',h,i=>by
  obtain⟨v,r,rfl,q,w⟩:=h;exact⟨v',r,rfl,i,w⟩
 | t::ts,vs,n+1,t',v',h,i=>by
  obtain⟨v,r,rfl,q,w⟩:=h;exact⟨v,r.set n v',rfl,q,Zq.set n w i⟩
end
def Pu(K:W.Frag)(mg:ZV)(H F:Hp)(a:Addr):T->Prop
 | .lst ts=>∃vs,H a=some (.lst vs)/\vs.length<=sizeLine/\Zq K mg H F ts vs
 | .dct XB=>∃ks,H a=some (.dK ks)/\ks.length<=sizeLine/\Zt K mg H F XB ks
 | _=>False
theorem Pu.up{K:W.Frag}{mg:ZV}{H H' F F':Hp}{a:Addr}{t:T}(u:Up K H H')(l:Le F F')(e:H' a=H a)(h:Pu K mg H F a t):Pu K mg H' F' a t:=by
 cases t with
 | lst ts =>
  obtain⟨vs,q,z,r⟩:=h;exact⟨vs,e.trans q,z,Zq.up u l ts vs r⟩
 | dct ts =>
  obtain⟨vs,q,z,r⟩:=h;exact⟨vs,e.trans q,z,Zt.up u l ts vs r⟩
 | _=>exact h.elim
structure Base(F G H:Hp):Prop where
 f:∀a o,F a=some o->H a=some o
 g:∀a o,G a=some o->H a=some o
 d:∀a,F a≠none->G a=none
structure Rel(K:W.Frag)(mg:ZV)(F G:Hp)(p:P)(Z:L2.St)(H:Hp):Prop where
 b:Base F G H
 fz:∀(i:Nat) (t:T),p[i]?=some (Sl.f t)->∃v,Z[i]?=some (some v)/\IsT K mg H F t v
 ow:∀(i:Nat) (t:T),p[i]?=some (Sl.o t)->∃a,Z[i]?=some (some (V.ref a))/\F a=none/\G a=none/\Pu K mg H F a t
 ap:∀(i j:Nat) (t u:T) (a:Addr),p[i]?=some (Sl.o t)->p[j]?=some (Sl.o u)->Z[i]?=some (some (V.ref a))->Z[j]?=some (some (V.ref a))->i=j
 ln:p.length=Z.length
def Res(K:W.Frag)(mg:ZV)(F G:Hp)(p:P)(Z:L2.St)(H:Hp)(r:Sl)(v:V):Prop:=match r with
 | .f t=>IsT K mg H F t v
 | .o t=>∃a,v=.ref a/\F a=none/\G a=none/\Pu K mg H F a t/\∀(i:Nat) (u:T),p[i]?=some (Sl.o u)->Z[i]?≠some (some (V.ref a))
 | .no=>False
section
variable{K:W.Frag}{mg:ZV}{H H' F F' G:Hp}{p:P}{Z:L2.St}
theorem Le.lay{a:Addr}{o:HO}(h:F a=none):Le F (upd F a o):=Zd.lay h
theorem Base.rd(b:Base F G H){a:Addr}{u:HO}(r:Rd F a u):Rd H a u:=by
 rcases r with r | ⟨o,r⟩
 .exact .inl (b.f a _ r)
 .exact .inr ⟨o,b.f a _ r⟩
theorem Base.same(b:Base F G H)(s:Zd H H'):Base F G H':=⟨fun a o e=>s a o (b.f a o e),fun a o e=>s a o (b.g a o e),b.d⟩
theorem Pu.some{a:Addr}{t:T}(h:Pu K mg H F a t):∃o,H a=some o:=by
 cases t with
 | lst ts=>obtain⟨vs,q,_⟩:=h;exact⟨_,q⟩
 | dct ts=>obtain⟨vs,q,_⟩:=h;exact⟨_,q⟩
 | _=>exact h.elim
theorem Pu.same{a:Addr}{t:T}(h:Pu K mg H F a t)(s:Zd H H')(l:Le F F'):Pu K mg H' F' a t:=by
 obtain⟨o,e⟩:=h.some;exact h.up s.up l ((s a o e).trans e.symm)
theorem Rel.same(r:Rel K mg F G p Z H)(s:Zd H H'):Rel K mg F G p Z H' :=
 ⟨r.b.same s,fun i t e=>let ⟨v,h1,h2⟩:=r.fz i t e;⟨v,h1,IsT.up s.up (Le.refl F) t v h2⟩,fun i t e=>let ⟨a,h1,h2,h3,h4⟩:=r.ow i t e;⟨a,h1,h2,h3,h4.same s (Le.refl F)⟩,r.ap,r.ln⟩
theorem Rx{a:Addr}{t:T}{o:HO}(h:Pu K mg H F a t)(e:H a=some o)(l:Le F F')(q:F' a=some o):IsT K mg H F' t (.ref a):=by
 cases t with
 | lst ts =>
  obtain⟨vs,q1,z,r⟩:=h;rw[q1]at e;cases e;exact⟨a,vs,rfl,.inl q,z,Zq.up (Up.refl H) l ts vs r⟩
 | dct ts =>
  obtain⟨vs,q1,z,r⟩:=h;rw[q1]at e;cases e;exact⟨a,vs,rfl,.inl q,z,Zt.up (Up.refl H) l ts vs r⟩
 | _=>exact h.elim
theorem Rel.freeze(r:Rel K mg F G p Z H){a:Addr}{t:T}(fa:F a=none)(ga:G a=none)(h:Pu K mg H F a t)(ha:∀(i:Nat) (u:T),p[i]?=some (Sl.o u)->Z[i]?≠some (some (V.ref a))):∃F',Le F F'/\Rel K mg F' G p Z H/\IsT K mg H F' t (.ref a):=by
 obtain⟨o,e⟩:=h.some;have l:Le F (upd F a o):=Le.lay fa;refine⟨upd F a o,l,⟨⟨fun b u q=>?_,r.b.g,fun b q=>?_⟩,fun i t e=>let ⟨v,h1,h2⟩:=r.fz i t e;⟨v,h1,IsT.up (Up.refl H) l t v h2⟩,fun i u q=>?_,r.ap,r.ln⟩,Rx h e l Zw⟩
 .by_cases z:b=a
  .subst z;rw[Zw]at q;cases q;exact e
  .rw[Zz z]at q;exact r.b.f b u q
 .by_cases z:b=a
  .subst z;exact ga
  .rw[Zz z]at q;exact r.b.d b q
 .obtain⟨b,h1,h2,h3,h4⟩:=r.ow i u q;have n:b≠a:=fun z=>by subst z;exact ha i u q h1
  exact⟨b,h1,by rw[Zz n];exact h2,h3,h4.same (Zd.refl H) l⟩
theorem Zu{p:P}{i j:Nat}{s u:Sl}(h:(p.set i s)[j]?=some u):(j=i/\u=s)\/(j≠i/\p[j]?=some u):=by
 by_cases e:i=j
 .subst e;rw[List.getElem?_set_self']at h;cases q:p[i]? with
  | none=>rw[q]at h;cases h
  | some x=>rw[q]at h;exact .inl ⟨rfl,(D3 h).symm⟩
 .rw[List.getElem?_set_ne e]at h;exact .inr ⟨fun z=>e z.symm,h⟩
theorem Rel.drop(r:Rel K mg F G p Z H)(i:Nat):Rel K mg F G (p.set i .no) Z H :=
 ⟨r.b,fun j t e=>by
  rcases Zu e with ⟨_,z⟩ | ⟨_,e⟩
  .cases z
  .exact r.fz j t e,fun j t e=>by
  rcases Zu e with ⟨_,z⟩ | ⟨_,e⟩
  .cases z
  .exact r.ow j t e,fun j k t u a e1 e2=>by
  rcases Zu e1 with ⟨_,z⟩ | ⟨_,e1⟩
  .cases z
  rcases Zu e2 with ⟨_,z⟩ | ⟨_,e2⟩
  .cases z
  exact r.ap j k t u a e1 e2,by rw[XY];exact r.ln⟩
theorem Rel.know(r:Rel K mg F G p Z H){i:Nat}{t:T}{v:V}(hv:Z[i]?=some (some v))(h:IsT K mg H F t v):Rel K mg F G (p.set i (.f t)) Z H :=
 ⟨r.b,fun j u e=>by
  rcases Zu e with ⟨z,y⟩ | ⟨_,e⟩
  .cases y;subst z;exact⟨v,hv,h⟩
  .exact r.fz j u e,fun j t e=>by
  rcases Zu e with ⟨_,z⟩ | ⟨_,e⟩
  .cases z
  .exact r.ow j t e,fun j k t u a e1 e2=>by
  rcases Zu e1 with ⟨_,z⟩ | ⟨_,e1⟩
  .cases z
  rcases Zu e2 with ⟨_,z⟩ | ⟨_,e2⟩
  .cases z
  exact r.ap j k t u a e1 e2,by rw[XY];exact r.ln⟩
theorem Rel.freezeAt(r:Rel K mg F G p Z H){i:Nat}{t:T}(e:p[i]?=some (Sl.o t)):∃F' v,Le F F'/\Rel K mg F' G (p.set i (.f t)) Z H/\Z[i]?=some (some v)/\IsT K mg H F' t v:=by
 obtain⟨a,h1,h2,h3,h4⟩:=r.ow i t e
 obtain⟨F',l,r',h⟩:=(r.drop i).freeze h2 h3 h4 fun j u q z=>by
  rcases Zu q with ⟨_,y⟩ | ⟨n,q⟩
  .cases y
  .exact n (r.ap j i u t a q e z h1)
 have r2:=r'.know (i:=i) h1 h;rw[List.set_set]at r2;exact⟨F',_,l,r2,h1,h⟩
theorem Rel.thaw(r:Rel K mg F G p Z H){s:Sl}{t:T}{v:V}(e:PV.thaw s=some t)(h:Res K mg F G p Z H s v):∃F',Le F F'/\Rel K mg F' G p Z H/\IsT K mg H F' t v:=by
 cases s with
 | no=>cases e
 | f u=>cases e;exact⟨F,Le.refl F,r,h⟩
 | o u =>
  cases e;obtain⟨a,rfl,h1,h2,h3,h4⟩:=h;exact r.freeze h1 h2 h3 h4
theorem Rel.newL(r:Rel K mg F G p Z H){l:Addr}{ts:ZZ}{vs:ZQ}(hl:H l=none)(z:vs.length<=sizeLine)(h:Zq K mg H F ts vs):Rel K mg F G p Z (upd H l (.lst vs))/\Res K mg F G p Z (upd H l (.lst vs)) (.o (.lst ts)) (.ref l):=by
 have s:Zd H (upd H l (.lst vs)):=Zd.lay hl;refine⟨r.same s,l,rfl, ?_, ?_,⟨vs,Zw,z,Zq.up s.up (Le.refl F) ts vs h⟩,fun i u e q=>?_⟩
 .cases q:F l with
  | none=>rfl
  | some o=>rw[r.b.f l o q]at hl;cases hl
 .cases q:G l with
  | none=>rfl
  | some o=>rw[r.b.g l o q]at hl;cases hl
 .obtain⟨b,h1,_,_,h4⟩:=r.ow i u e;rw[h1]at q;cases q;obtain⟨o,h5⟩:=h4.some;rw[h5]at hl;cases hl
theorem Rel.newD(r:Rel K mg F G p Z H){l:Addr}{ts:ZX}{vs:List (Key×V)}(hl:H l=none)(z:vs.length<=sizeLine)(h:Zt K mg H F ts vs):Rel K mg F G p Z (upd H l (.dK vs))/\Res K mg F G p Z (upd H l (.dK vs)) (.o (.dct ts)) (.ref l):=by
 have s:Zd H (upd H l (.dK vs)):=Zd.lay hl;refine⟨r.same s,l,rfl, ?_, ?_,⟨vs,Zw,z,Zt.up s.up (Le.refl F) ts vs h⟩,fun i u e q=>?_⟩
 .cases q:F l with
  | none=>rfl
  | some o=>rw[r.b.f l o q]at hl;cases hl
 .cases q:G l with
  | none=>rfl
  | some o=>rw[r.b.g l o q]at hl;cases hl
 .obtain⟨b,h1,_,_,h4⟩:=r.ow i u e;rw[h1]at q;cases q;obtain⟨o,h5⟩:=h4.some;rw[h5]at hl;cases hl
end
def Ar(K:W.Frag)(mg:ZV)(F:Hp)(Z:L2.St)(H:Hp):A->V->Prop
 | .t t,v=>IsT K mg H F t v
 | .s i,v=>Z[i]?=some (some v)
abbrev Ars(K:W.Frag)(mg:ZV)(F:Hp)(Z:L2.St)(H:Hp):List A->ZQ->Prop:=Paired (Ar K mg F Z H)
def Cf(K:W.Frag)(mg:ZV)(H F:Hp):T->V->Prop
 | .lst ts,v=>∃a vs,v=.ref a/\Rd H a (.lst vs)/\vs.length<=sizeLine/\Zq K mg H F ts vs
 | .dct XB,v=>∃a ks,v=.ref a/\Rd H a (.dK ks)/\ks.length<=sizeLine/\Zt K mg H F XB ks
 | t,v=>IsT K mg H F t v
section
variable{K:W.Frag}{mg:ZV}{H H' F F' G:Hp}{p:P}{Z:L2.St}
theorem Ar.up(u:Up K H H')(l:Le F F'){a:A}{v:V}(h:Ar K mg F Z H a v):Ar K mg F' Z H' a v:=by
 cases a with
 | t t=>exact IsT.up u l t v h
 | s i=>exact h
theorem Ars.up(u:Up K H H')(l:Le F F'):∀{as:List A} {vs:ZQ},Ars K mg F Z H as vs->Ars K mg F' Z H' as vs
 | _,_,.nil=>.nil
 | _,_,.cons r t=>.cons (Ar.up u l r) (Ars.up u l t)
theorem Kn(b:Base F G H){t:T}{v:V}(h:IsT K mg H F t v):Cf K mg H F t v:=by
 cases t with
 | lst ts=>obtain⟨a,vs,e,q,z,r⟩:=h;exact⟨a,vs,e,b.rd q,z,r⟩
 | dct ts=>obtain⟨a,vs,e,q,z,r⟩:=h;exact⟨a,vs,e,b.rd q,z,r⟩
 | _=>exact h
theorem ig{a:Addr}{t:T}(h:Pu K mg H F a t):Cf K mg H F t (.ref a):=by
 cases t with
 | lst ts=>obtain⟨vs,q,z,r⟩:=h;exact⟨a,vs,rfl,.inl q,z,r⟩
 | dct ts=>obtain⟨vs,q,z,r⟩:=h;exact⟨a,vs,rfl,.inl q,z,r⟩
 | _=>exact h.elim
theorem Rel.look(r:Rel K mg F G p Z H){a:A}{v:V}{t:T}(e:PV.look p a=some t)(h:Ar K mg F Z H a v):Cf K mg H F t v:=by
 cases a with
 | t u=>cases e;exact Kn r.b h
 | s i =>
  unfold PV.look at e;dsimp only at e
  split at e
  .rename_i u q
   cases e;obtain⟨v',h1,h2⟩:=r.fz i _ q;have:v'=v:=D3 (D3 (h1.symm.trans h));subst this;exact Kn r.b h2
  .rename_i u q
   cases e;obtain⟨a,h1,_,_,h2⟩:=r.ow i _ q;have:V.ref a=v:=D3 (D3 (h1.symm.trans h));subst this;exact ig h2
  .cases e
theorem Rel.looks(r:Rel K mg F G p Z H):∀{as:List A} {vs:ZQ} {ts:ZZ},PV.looks p as=some ts->Ars K mg F Z H as vs->Paired (Cf K mg H F) ts vs
 | [],_,ts,e,.nil=>by cases e;exact .nil
 | a::as,_,ts,e,.cons h t=>by
  unfold PV.looks at e;cases e1:PV.look p a with
  | none=>rw[e1]at e;cases e
  | some u =>
   rw[e1]at e;have e:(PV.looks p as).map (u::·)=some ts:=e;cases e2:PV.looks p as with
   | none=>rw[e2]at e;cases e
   | some us =>
    rw[e2]at e;cases e;exact .cons (r.look e1 h) (r.looks e2 t)
end
section
theorem Dx:∀{as:List A} {p:P} {sl:List Sl},args p as=some sl->sl.length=as.length
 | [],p,sl,e=>by cases e;rfl
 | .t t::r,p,sl,e=>by
  unfold args at e;cases q:args p r with
  | none=>rw[q]at e;cases e
  | some x=>rw[q]at e;cases e;simp[Dx q]
 | .s i::r,p,sl,e=>by
  unfold args at e
  split at e
  .cases q:args (p.set i .no) r with
   | none=>rw[q]at e;cases e
   | some x=>rw[q]at e;cases e;simp[Dx q]
  .cases e
theorem Av:∀{as:List A} {p:P} {sl:List Sl} {j:Nat} {t:T},args p as=some sl->as[j]?=some (.t t)->sl[j]?=some (.f t)
 | [],p,sl,j,t,e,h=>by simp at h
 | .t u::r,p,sl,j,t,e,h=>by
  unfold args at e;cases q:args p r with
  | none=>rw[q]at e;cases e
  | some x =>
   rw[q]at e;cases e;cases j with
   | zero=>simp at h;subst h;rfl
   | succ j=>simpa using Av (j:=j) q (by simpa using h)
 | .s i::r,p,sl,j,t,e,h=>by
  unfold args at e
  split at e
  .cases q:args (p.set i .no) r with
   | none=>rw[q]at e;cases e
   | some x =>
    rw[q]at e;cases e;cases j with
    | zero=>simp at h
    | succ j=>simpa using Av (j:=j) q (by simpa using h)
  .cases e
theorem Dz:∀{as:List A} {p:P} {sl:List Sl} {j i:Nat},args p as=some sl->as[j]?=some (.s i)->∃t,p[i]?=some (Sl.o t)/\sl[j]?=some (.o t)
 | [],p,sl,j,t,e,h=>by simp at h
 | .t u::r,p,sl,j,i,e,h=>by
  unfold args at e;cases q:args p r with
  | none=>rw[q]at e;cases e
  | some x =>
   rw[q]at e;cases e;cases j with
   | zero=>simp at h
   | succ j=>simpa using Dz (j:=j) q (by simpa using h)
 | .s k::r,p,sl,j,i,e,h=>by
  unfold args at e
  split at e
  .rename_i u hu
   cases q:args (p.set k .no) r with
   | none=>rw[q]at e;cases e
   | some x =>
    rw[q]at e;cases e;cases j with
    | zero=>simp at h;subst h;exact⟨u,hu,rfl⟩
    | succ j =>
     obtain⟨t,h1,h2⟩:=Dz (j:=j) q (by simpa using h);rcases Zu h1 with ⟨_,z⟩ | ⟨_,h1⟩
     .cases z
     .exact⟨t,h1,by simpa using h2⟩
  .cases e
theorem Jg:∀{as:List A} {p:P} {sl:List Sl} {j k i:Nat},args p as=some sl->as[j]?=some (.s i)->as[k]?=some (.s i)->j=k
 | [],p,sl,j,k,i,e,h,_=>by simp at h
 | .t u::r,p,sl,j,k,i,e,h,h'=>by
  unfold args at e;cases q:args p r with
  | none=>rw[q]at e;cases e
  | some x =>
   cases j with
   | zero=>simp at h
   | succ j =>
    cases k with
    | zero=>simp at h'
    | succ k=>rw[Jg (j:=j) (k:=k) q (by simpa using h) (by simpa using h')]
 | .s l::r,p,sl,j,k,i,e,h,h'=>by
  unfold args at e
  split at e
  .cases q:args (p.set l .no) r with
   | none=>rw[q]at e;cases e
   | some x =>
    have no:∀{m:Nat},r[m]?=some (A.s i)->l≠i:=fun {m} hm z=>by
     subst z;obtain⟨t,h1,_⟩:=Dz (j:=m) q hm;rcases Zu h1 with ⟨_,z⟩ | ⟨z,_⟩
     .cases z
     .exact z rfl
    cases j with
    | zero =>
     cases k with
     | zero=>rfl
     | succ k =>
      simp at h;exact absurd h (no (m:=k) (by simpa using h'))
    | succ j =>
     cases k with
     | zero =>
      simp at h';exact absurd h' (no (m:=j) (by simpa using h))
     | succ k=>rw[Jg (j:=j) (k:=k) q (by simpa using h) (by simpa using h')]
  .cases e
theorem Cj:∀{as:List A} {p p0 p2:P} {sl:List Sl} {ts:ZZ},args p0 as=some sl->outs p as ts=some p2 ->
  p2.length=p.length/\(∀i:Nat,A.s i ∉ as->p2[i]?=p[i]?)/\(∀j i:Nat,as[j]?=some (A.s i)->i<p.length->(∀k:Nat,as[k]?=some (A.s i)->k=j)->∃t,p2[i]?=some (Sl.o t)/\(Wk sl ts)[j]?=some (Sl.o t))/\∀(j:Nat) (t:T),as[j]?=some (A.t t)->(Wk sl ts)[j]?=some (Sl.f t)
 | [],p,p0,p2,sl,ts,e,h=>by
  cases e;cases ts with
  | nil=>cases h;exact⟨rfl,fun _ _=>rfl,fun j i h=>by simp at h,fun j t h=>by simp at h⟩
  | cons t ts=>cases h
 | .t u::r,p,p0,p2,sl,ts,e,h=>by
  unfold args at e;cases q:args p0 r with
  | none=>rw[q]at e;cases e
  | some x =>
   rw[q]at e;cases e;have h:outs p r ts=some p2:=by cases ts<;>exact h
   obtain⟨h1,h2,h3,h4⟩:=Cj q h;have eu:Wk (.f u::x) ts=.f u::Wk x ts:=by cases ts<;>rfl
   refine⟨h1,fun i m=>h2 i fun z=>m (Vf _ z),fun j i hj hi hu=>?_,fun j t hj=>?_⟩
   .cases j with
    | zero=>simp at hj
    | succ j =>
     obtain⟨t,a1,a2⟩:=h3 j i (by simpa using hj) hi fun k hk=>by have:=hu (k+1) (by simpa using hk);omega
     exact⟨t,a1,by rw[eu];simpa using a2⟩
   .rw[eu];cases j with
    | zero=>simp at hj;subst hj;rfl
    | succ j=>simpa using h4 j t (by simpa using hj)
 | .s l::r,p,p0,p2,sl,ts,e,h=>by
  unfold args at e
  split at e
  .rename_i u hu0
   cases q:args (p0.set l .no) r with
   | none=>rw[q]at e;cases e
   | some x =>
    rw[q]at e;cases e;cases ts with
    | nil=>cases h
    | cons t ts =>
     have h:outs (p.set l (.o t)) r ts=some p2:=h;obtain⟨h1,h2,h3,h4⟩:=Cj q h;rw[XY]at h1;refine⟨h1,fun i m=>?_,fun j i hj hi hu=>?_,fun j v hj=>?_⟩
     .rw[h2 i fun z=>m (Vf _ z),List.getElem?_set_ne fun z=>m (by rw[z];exact Vt)]
     .cases j with
      | zero =>
       simp at hj;subst hj
       have no:A.s l ∉ r:=fun z=>by
        obtain⟨k,hk⟩:=List.getElem?_of_mem z;have:=hu (k+1) (by simpa using hk);omega
       exact⟨t,by rw[h2 l no,List.getElem?_set_self hi],rfl⟩
      | succ j =>
       obtain⟨v,a1,a2⟩:=h3 j i (by simpa using hj) (by rw[XY];exact hi) fun k hk=>by have:=hu (k+1) (by simpa using hk);omega
       exact⟨v,a1,a2⟩
     .cases j with
      | zero=>simp at hj
      | succ j=>exact h4 j v (by simpa using hj)
  .cases e
end
def spC(K:W.Frag)(mg:ZV)(n:Nat)(c:List Sl->Option (Sl×ZZ)):Sp:=fun vs H Q _=>vs.length=n/\∃F G as r,c as=some r/\Rel K mg F G as (vs.map some) H /\
 ∀F' H' v,Le F F'->Up K H H'->Rel K mg F' G (Wk as r.2) (vs.map some) H'->Res K mg F' G (Wk as r.2) (vs.map some) H' r.1 v->Q v H'
section
variable{K:W.Frag}{mg:ZV}{H F G:Hp}{p:P}{Z:L2.St}
theorem Jr{Z U:Type}{R:Z->U->Prop}:∀{xs:List Z} {ys:List U} {i:Nat} {x:Z},Paired R xs ys->xs[i]?=some x->∃y,ys[i]?=some y/\R x y
 | _,_,_,_,.nil,e=>by simp at e
 | _,_,0,_,.cons r _,e=>by simp at e;subst e;exact⟨_,rfl,r⟩
 | _,_,i+1,x,.cons _ t,e=>by
  obtain⟨u,h1,h2⟩:=Jr (i:=i) (x:=x) t (by simpa using e);exact⟨u,by simpa using h1,h2⟩
open Classical in
theorem Rel.call(r:Rel K mg F G p Z H){as:List A}{vs:ZQ}{sl:List Sl}(ha:Ars K mg F Z H as vs)(es:args p as=some sl){c:List Sl->Option (Sl×ZZ)}{rr:Sl×ZZ}(ec:c sl=some rr){p2:P}(eo:outs p as rr.2=some p2){n:Nat}(hn:vs.length=n){Q:VK}{E:XK}
  (q:∀F' H' v,Le F F'->Up K H H'->Rel K mg F' G p2 Z H'->Res K mg F' G p2 Z H' rr.1 v->Q v H'):spC K mg n c vs H Q E:=by
 have al:=Dx es;have vl:as.length=vs.length:=Paired.length ha
 let G':Hp:=fun a=>if ∃(i:Nat) (t:T),p[i]?=some (Sl.o t)/\Z[i]?=some (some (V.ref a))/\A.s i ∉ as then H a else G a
 have gIn:∀{a:Addr} {i:Nat} {t:T},p[i]?=some (Sl.o t)->Z[i]?=some (some (V.ref a))->A.s i ∉ as->G' a=H a:=fun {a i t} h1 h2 h3=>if_pos ⟨i,t,h1,h2,h3⟩;have Be:∀{a:Addr},(¬ ∃(i:Nat) (t:T),p[i]?=some (Sl.o t)/\Z[i]?=some (some (V.ref a))/\A.s i ∉ as)->G' a=G a:=fun {a} h=>if_neg h
 have gOf:∀{a:Addr} {o:HO},G a=some o->G' a=some o:=fun {a o} h=>by
  refine(Be fun⟨i,t,h1,h2,_⟩=>?_).trans h;obtain⟨b,h3,_,h4,_⟩:=r.ow i t h1;rw[h2]at h3;cases h3;rw[h]at h4;cases h4
 have gNo:∀{a:Addr},G' a=none->G a=none:=fun {a} h=>by
  cases e:G a with
  | none=>rfl
  | some o=>rw[gOf e]at h;cases h
 have arg:∀{j:Nat} {s:Sl},sl[j]?=some s->∃v,vs[j]?=some v/\((∃t,s=.f t/\as[j]?=some (.t t)/\IsT K mg H F t v)\/∃(i:Nat) (t:T),s=.o t/\as[j]?=some (.s i)/\p[i]?=some (Sl.o t)/\Z[i]?=some (some v)):=fun {j s} hs=>by
  have hj:j<as.length:=by rw[<-al];exact(Bz.mp hs).1
  obtain⟨a,hae⟩:∃a,as[j]?=some a:=⟨_,V0 hj⟩;obtain⟨v,hv,hr⟩:=Jr ha hae;refine⟨v,hv, ?_⟩;cases a with
  | t t =>
   have:=Av es hae;rw[hs]at this;cases this;exact .inl ⟨t,rfl,hae,hr⟩
  | s i =>
   obtain⟨t,h1,h2⟩:=Dz es hae;rw[hs]at h2;cases h2;exact .inr ⟨i,t,rfl,hae,h1,hr⟩
 have vsome:∀{j:Nat} {v:V},vs[j]?=some v->(vs.map some)[j]?=some (some v):=fun {j v} h=>by rw[Cz,h];rfl
 have r0:Rel K mg F G' sl (vs.map some) H:=by
  refine⟨⟨r.b.f,fun a o e=>?_,fun a e=>?_⟩,fun j t e=>?_,fun j t e=>?_,fun j k t u a e1 e2 h1 h2=>?_,by rw[Z4,al,vl]⟩
  .by_cases h:∃(i:Nat) (t:T),p[i]?=some (Sl.o t)/\Z[i]?=some (some (V.ref a))/\A.s i ∉ as
   .obtain⟨i,t,h1,h2,h3⟩:=h;rw[gIn h1 h2 h3]at e;exact e
   .rw[Be h]at e;exact r.b.g a o e
  .refine(Be fun⟨i,t,h1,h2,_⟩=>?_).trans (r.b.d a e);obtain⟨b,h3,h4,_⟩:=r.ow i t h1;rw[h2]at h3;cases h3;exact e h4
  .obtain⟨v,hv,⟨t',et,_,it⟩ | ⟨i,t',et,_⟩⟩:=arg e
   .cases et;exact⟨v,vsome hv,it⟩
   .cases et
  .obtain⟨v,hv,⟨t',et,_,it⟩ | ⟨i,t',et,hj,hp,hσ⟩⟩:=arg e
   .cases et
   .cases et;obtain⟨a,h1,h2,h3,h4⟩:=r.ow i t hp;rw[hσ]at h1;cases h1;refine⟨a,vsome hv,h2, ?_,h4⟩;refine(Be fun⟨k,u,q1,q2,q3⟩=>?_).trans h3;have:=r.ap k i u t a q1 hp q2 hσ;subst this;exact q3 (M0g hj)
  .obtain⟨v,hv,⟨t',et,_,it⟩ | ⟨i,t',et,hj,hp,hσ⟩⟩:=arg e1
   .cases et
   obtain⟨v',wy,⟨t',et',_,it⟩ | ⟨i',t'',et',hj',Xe,hσ'⟩⟩:=arg e2
   .cases et'
   rw[vsome hv]at h1;cases h1;rw[vsome wy]at h2;cases h2;have:=r.ap i i' t' t'' a hp Xe hσ hσ';subst this;exact Jg es hj hj'
 refine⟨hn,F,G',sl,rr,ec,r0,fun F' H' v l u r' rs=>q F' H' v l u ?_ ?_⟩
 .obtain⟨o1,o2,o3,o4⟩:=Cj es eo
  have kept:∀{i:Nat} {t:T} {a:Addr},p[i]?=some (Sl.o t)->Z[i]?=some (some (V.ref a))->A.s i ∉ as->F' a=none/\Pu K mg H' F' a t:=fun {i t a} h1 h2 h3=>by
   obtain⟨b,h4,h5,h6,h7⟩:=r.ow i t h1;rw[h2]at h4;cases h4;obtain⟨o,ho⟩:=h7.some;have g1:G' a=some o:=(gIn h1 h2 h3).trans ho;refine⟨?_,h7.up u l ((r'.b.g a o g1).trans ho.symm)⟩;cases e:F' a with
   | none=>rfl
   | some x =>
    have:=r'.b.d a (by rw[e];exact fun z=>nomatch z);rw[g1]at this;cases this
  have lent:∀{i:Nat} {t:T},p2[i]?=some (Sl.o t)->A.s i∈as->∃(a:Addr) (j:Nat),Z[i]?=some (some (V.ref a))/\as[j]?=some (A.s i)/\(Wk sl rr.2)[j]?=some (Sl.o t)/\(vs.map some)[j]?=some (some (V.ref a))/\G a=none:=fun {i t} h1 h2=>by
   obtain⟨j,hj⟩:=List.getElem?_of_mem h2;obtain⟨x,hx,_⟩:=Dz es hj;obtain⟨y,hy1,hy2⟩:=o3 j i hj (Bz.mp hx).1 fun k hk=>Jg es hk hj;rw[h1]at hy1;cases hy1;obtain⟨v,hv,hσ⟩:=Jr ha hj;obtain⟨a,q1,q2,q3,q4⟩:=r.ow i x hx;rw[show Z[i]?=some (some v) from hσ]at q1;cases q1;exact⟨a,j,hσ,hj,hy2,vsome hv,q3⟩
  refine⟨⟨r'.b.f,fun a o e=>r'.b.g a o (gOf e),fun a e=>gNo (r'.b.d a e)⟩,fun i t e=>?_,fun i t e=>?_,fun i j t t' a e1 e2 h1 h2=>?_,by rw[o1];exact r.ln⟩
  .by_cases m:A.s i∈as
   .obtain⟨j,hj⟩:=List.getElem?_of_mem m;obtain⟨x,hx,_⟩:=Dz es hj;obtain⟨y,hy1,hy2⟩:=o3 j i hj (Bz.mp hx).1 fun k hk=>Jg es hk hj;rw[e]at hy1;cases hy1
   .rw[o2 i m]at e;obtain⟨v,h1,h2⟩:=r.fz i t e;exact⟨v,h1,IsT.up u l t v h2⟩
  .by_cases m:A.s i∈as
   .obtain⟨a,j,h1,h2,h3,h4,h5⟩:=lent e m;obtain⟨b,q1,q2,q3,q4⟩:=r'.ow j t h3;rw[h4]at q1;cases q1;exact⟨a,h1,q2,h5,q4⟩
   .rw[o2 i m]at e;obtain⟨a,h1,h2,h3,h4⟩:=r.ow i t e;obtain⟨k1,k2⟩:=kept e h1 m;exact⟨a,h1,k1,h3,k2⟩
  .have own:∀{i:Nat} {t:T},p2[i]?=some (Sl.o t)->∃t',p[i]?=some (Sl.o t'):=fun {i t} h=>by
    by_cases m:A.s i∈as
    .obtain⟨j,hj⟩:=List.getElem?_of_mem m;obtain⟨x,hx,_⟩:=Dz es hj;exact⟨x,hx⟩
    .rw[o2 i m]at h;exact⟨t,h⟩
   obtain⟨x,hx⟩:=own e1;obtain⟨y,hy⟩:=own e2;exact r.ap i j x y a hx hy h1 h2
 .cases hr:rr.1 with
  | no=>rw[hr]at rs;exact rs
  | f t=>rw[hr]at rs;exact rs
  | o t =>
   rw[hr]at rs;obtain⟨a,rfl,h1,h2,h3,h4⟩:=rs;obtain⟨o1,o2,o3,o4⟩:=Cj es eo;refine⟨a,rfl,h1,gNo h2,h3,fun i t e hσ=>?_⟩;by_cases m:A.s i∈as
   .obtain⟨j,hj⟩:=List.getElem?_of_mem m;obtain⟨x,hx,_⟩:=Dz es hj;obtain⟨y,hy1,hy2⟩:=o3 j i hj (Bz.mp hx).1 fun k hk=>Jg es hk hj;obtain⟨v,hv,hs⟩:=Jr ha hj;rw[show Z[i]?=some (some v) from hs]at hσ;cases hσ;exact h4 j y hy2 (vsome hv)
   .rw[o2 i m]at e;obtain⟨b,q1,q2,q3,q4⟩:=r.ow i t e;rw[hσ]at q1;cases q1;obtain⟨o,ho⟩:=q4.some;rw[gIn e hσ m,ho]at h2;cases h2
end
theorem PE.imp{X:Cx}{e:Expr}{t t':TE}(h:PE X e t)(f:∀Z H Q,t' Z H Q->t Z H Q):PE X e t':=fun XF s Z H Q I q=>h XF s Z H Q I (f Z H Q q)
inductive LE_I(K:PySem.W.Frag)(mg:ZV)(w:W)(e:E)(Z:L2.St)(H:Hp)(Q:VK):Prop
 | mk(F G p r p')(Y1:Rel K mg F G p Z H)(Y0:ev w e p=some (r,p'))(V7:∀F' H' v,Le F F'->Up K H H'->Rel K mg F' G p' Z H'->Res K mg F' G p' Z H' r v->Q v H'):LE_I K mg w e Z H Q
def LE(K:PySem.W.Frag)(mg:ZV)(w:W)(e:E):TE:=fun Z H Q=>LE_I K mg w e Z H Q
inductive LA_I(K:PySem.W.Frag)(mg:ZV)(w:W)(m:Bool)(e:E)(Z:L2.St)(H:Hp)(Q:(ZQ->Hp->Prop)):Prop
 | mk(F G p as p')(Y1:Rel K mg F G p Z H)(Y0:J0 w m e p=some (as,p'))(V7:∀F' H' vs,Le F F'->Up K H H'->Rel K mg F' G p' Z H'->Ars K mg F' Z H' as vs->Q vs H'):LA_I K mg w m e Z H Q
def LA(K:PySem.W.Frag)(mg:ZV)(w:W)(m:Bool)(e:E):TA:=fun Z H Q=>LA_I K mg w m e Z H Q
inductive LH_I(K:PySem.W.Frag)(mg:ZV)(w:W)(m:Bool)(e:E)(Z:L2.St)(H:Hp)(Q:VK):Prop
 | mk(F G p a p')(Y1:Rel K mg F G p Z H)(Y0:Sg m e p (toT (ev w e p))=some (a,p'))(V7:∀F' H' v,Le F F'->Up K H H'->Rel K mg F' G p' Z H'->Ar K mg F' Z H' a v->Q v H'):LH_I K mg w m e Z H Q
def LH(K:PySem.W.Frag)(mg:ZV)(w:W)(m:Bool)(e:E):TE:=fun Z H Q=>LH_I K mg w m e Z H Q
inductive LB_I(K:PySem.W.Frag)(mg:ZV)(w:W)(e:E)(Z:L2.St)(H:Hp)(Q:(Bool->Hp->Prop)):Prop
 | mk(F G p b p')(Y1:Rel K mg F G p Z H)(Y0:Dy (ev w e p)=some (b,p'))(V7:∀F' H',Le F F'->Up K H H'->Rel K mg F' G p' Z H'->Q b H'):LB_I K mg w e Z H Q
def LB(K:PySem.W.Frag)(mg:ZV)(w:W)(e:E):TT:=fun Z H Q=>LB_I K mg w e Z H Q
def noStar:Expr->Bool
 | .Starred _ _=>false
 | _=>true
theorem Ys{e:Expr}{es:ZC}{env:Env}(h:noStar e=true):starEach (e::es) env=(false,eval e env)::starEach es env:=by
 cases e<;>first | rfl | cases h
theorem Y6:∀(es:ZC) (env:Env) (pos:Pos),(∀e∈es,noStar e=true)->(backTo pos (starEach es env)).any (·.1)=false
 | [],env,pos,h=>rfl
 | e::es,env,pos,h=>by
  rw[Ys (h e Vt)];have:=Y6 es env pos fun e m=>h e (Vf _ m);show (false || (backTo pos (starEach es env)).any (·.1))=false;rw[this];rfl
inductive Hs(X:Cx)(w:W)(m:Bool):E->ZC->Prop
 | nil:Hs X w m .nil []
 | cons {a r:E} {x:Expr} {xs:ZC} (h:PE X x (LH X.K X.mg w m a)) (s:noStar x=true) (t:Hs X w m r xs):Hs X w m (.cons a r) (x::xs)
section
variable{X:Cx}{w:W}{m:Bool}
theorem Hs.star:∀{es:E} {xs:ZC},Hs X w m es xs->∀x∈xs,noStar x=true
 | _,_,.nil,x,h=>absurd h V4
 | _,_,.cons h s t,x,hx=>by
  rcases Y3.mp hx with rfl | hx
  .exact s
  .exact t.star x hx
theorem Yf{a r:E}{p:P}{as:List A}{p':P}(e:J0 w m (.cons a r) p=some (as,p')):∃a' p1 as',Sg m a p (toT (ev w a p))=some (a',p1)/\J0 w m r p1=some (as',p')/\as=a'::as':=by
 unfold J0 at e;cases e1:Sg m a p (toT (ev w a p)) with
 | none=>rw[e1]at e;cases e
 | some q =>
  rw[e1]at e;have e:(J0 w m r q.2).map (fun s=>(q.1::s.1,s.2))=some (as,p'):=e;cases e2:J0 w m r q.2 with
  | none=>rw[e2]at e;cases e
  | some s=>rw[e2]at e;cases e;exact⟨q.1,q.2,s.1,rfl,e2,rfl⟩
theorem Hs.pa:∀{es:E} {xs:ZC},Hs X w m es xs->PA X xs (LA X.K X.mg w m es)
 | _,_,.nil=>fun pos XF s Z H Q I h=>by
  obtain⟨F,G,p,as,p',rel,e,k⟩:=h;have e:some (([]:List A),p)=some (as,p'):=by cases m<;>exact e
  cases e;exact Qk pos XF s Z H Q I (k F H [] (Le.refl F) (Up.refl H) rel .nil)
 | .cons a r,_,.cons h s t=>fun pos XF s' Z H Q I hq=>by
  obtain⟨F,G,p,as,p',rel,e,k⟩:=hq;obtain⟨a',p1,as',e1,e2,rfl⟩:=Yf e;refine Nx h t.pa (Ys s) pos XF s' Z H Q I ⟨F,G,p,a',p1,rel,e1,fun F1 H1 v l1 u1 r1 Mv=>⟨F1,G,p1,as',p',r1,e2,fun F2 H2 vs l2 u2 r2 Pg=>?_⟩⟩;exact k F2 H2 _ (l1.trans l2) (u1.trans u2) r2 (.cons (Ar.up u2 l2 Mv) Pg)
theorem Ur{p:P}{as:List A}{p':P}(e:J0 w m .nil p=some (as,p')):as=[]/\p'=p:=by
 have e:some (([]:List A),p)=some (as,p'):=by cases m<;>exact e
 cases e;exact⟨rfl,rfl⟩
theorem Z8{p:P}{a:A}{as:List A}{ts:ZZ}(e:looks p (a::as)=some ts):∃t r,look p a=some t/\looks p as=some r/\ts=t::r:=by
 unfold looks at e;cases e1:look p a with
 | none=>rw[e1]at e;cases e
 | some t =>
  rw[e1]at e;have e:(looks p as).map (t::·)=some ts:=e;cases e2:looks p as with
  | none=>rw[e2]at e;cases e
  | some r=>rw[e2]at e;cases e;exact⟨t,r,rfl,rfl,rfl⟩
variable{F G:Hp}{p:P}{Z:L2.St}{H:Hp}
theorem Io{a:E}{as:List A}{ts:ZZ}{p':P}(e:J0 w m (.cons a .nil) p=some (as,p'))(el:looks p' as=some ts)(rel:Rel X.K X.mg F G p Z H){R:V->Hp->Prop}
  (k:∀F' H' x t,ts=[t]->Le F F'->Up X.K H H'->Rel X.K X.mg F' G p' Z H'->Cf X.K X.mg H' F' t x->R x H'):LH X.K X.mg w m a Z H R:=by
 obtain⟨a',p1,as',e1,e2,rfl⟩:=Yf e;obtain⟨rfl,rfl⟩:=Ur e2;obtain⟨t,r,l1,l2,rfl⟩:=Z8 el;cases l2;exact⟨F,G,p,a',_,rel,e1,fun F1 H1 x le1 u1 r1 Mv=>k F1 H1 x t rfl le1 u1 r1 (r1.look l1 Mv)⟩
theorem Ld{a b:E}{as:List A}{ts:ZZ}{p':P}(e:J0 w m (.cons a (.cons b .nil)) p=some (as,p'))(el:looks p' as=some ts)(rel:Rel X.K X.mg F G p Z H){R:V->V->Hp->Prop}
  (k:∀F' H' x y t u,ts=[t,u]->Le F F'->Up X.K H H'->Rel X.K X.mg F' G p' Z H'->Cf X.K X.mg H' F' t x->Cf X.K X.mg H' F' u y->R x y H'):LH X.K X.mg w m a Z H fun x H1=>LH X.K X.mg w m b Z H1 fun y H2=>R x y H2:=by
 obtain⟨a',p1,as',e1,e2,rfl⟩:=Yf e;obtain⟨b',p2,as'',e3,e4,rfl⟩:=Yf e2;obtain⟨rfl,rfl⟩:=Ur e4;obtain⟨t,r,l1,l2,rfl⟩:=Z8 el;obtain⟨u,r,l3,l4,rfl⟩:=Z8 l2;cases l4;exact⟨F,G,p,a',p1,rel,e1,fun F1 H1 x le1 u1 r1 Mv=>⟨F1,G,p1,b',_,r1,e3,fun F2 H2 y pb u2 r2 Pg=>k F2 H2 x y t u rfl (le1.trans pb) (u1.trans u2) r2 (r2.look l1 (Ar.up u2 pb Mv)) (r2.look l3 Pg)⟩⟩
theorem readN{es:E}{as:List A}{ts:ZZ}{p':P}(e:J0 w m es p=some (as,p'))(el:looks p' as=some ts)(rel:Rel X.K X.mg F G p Z H){R:ZQ->Hp->Prop}
  (k:∀F' H' vs,Le F F'->Up X.K H H'->Rel X.K X.mg F' G p' Z H'->Paired (Cf X.K X.mg H' F') ts vs->R vs H'):LA X.K X.mg w m es Z H R :=
 ⟨F,G,p,as,p',rel,e,fun F' H' vs l u r ar=>k F' H' vs l u r (r.looks el ar)⟩
end
theorem N7{K:W.Frag}{mg:ZV}{F H:Hp}{Z:L2.St}{p:P}:∀{as:List A} {vs:ZQ} {ts:ZZ},(∀a∈as,∃t,a=.t t)->looks p as=some ts->Ars K mg F Z H as vs->Zq K mg H F ts vs
 | [],_,ts,_,e,.nil=>by cases e;rfl
 | a::as,_,ts,ha,e,.cons h t=>by
  obtain⟨u,r,l1,l2,rfl⟩:=Z8 e;obtain⟨u',rfl⟩:=ha a Vt;cases l1;exact⟨_,_,rfl,h,N7 (fun a m=>ha a (Vf _ m)) l2 t⟩
def opOf:Op->Operator
 | .add=>.Add
 | .sub=>.Sub
 | .mul=>.Mult
 | .fdiv=>.FloorDiv
 | .mod=>.Mod
 | .pow=>.Pow
noncomputable def De:Cm->CmpOp
 | .eq=>.Eq
 | .ne=>.NotEq
 | .lt=>.Lt
 | .le=>.LtE
 | .gt=>.Gt
 | .ge=>.GtE
 | .isin=>.In
 | .notin=>.NotIn
 | .is=>.Is
 | .isnt=>.IsNot
section
variable{K:W.Frag}{mg:ZV}{H F G:Hp}
mutual
theorem cq(fh:∀a o,F a=some o->H a=some o):∀(t:T) (v:V) (d:D),IsT K mg H F t v->toD t=some d->Vc K H d v
 | .non,v,d,h,e=>by cases e;exact h
 | .bl b,v,d,h,e=>by cases e;exact h
 | .int i,v,d,h,e=>by cases e;exact h
 | .str x,v,d,h,e=>by cases e;exact h
 | .tup ts,v,d,h,e=>by
  obtain⟨a,vs,rfl,q,_,r⟩:=h;unfold toD at e;cases q2:Gd ts with
  | none=>rw[q2]at e;cases e
  | some ds=>rw[q2]at e;cases e;exact⟨a,vs,rfl,q,N8 fh ts vs ds r q2⟩
 | .lst ts,v,d,h,e=>by
  obtain⟨a,vs,rfl,q,_,r⟩:=h;unfold toD at e;cases q2:Gd ts with
  | none=>rw[q2]at e;cases e
  | some ds =>
   rw[q2]at e;cases e;refine⟨a,vs,rfl,.inl ?_,N8 fh ts vs ds r q2⟩;rcases q with q | ⟨o,q⟩
   .exact .inl (fh _ _ q)
   .exact .inr ⟨o,fh _ _ q⟩
 | .dct _,v,d,h,e=>by cases e
 | .fn _,v,d,h,e=>by cases e
theorem N8(fh:∀a o,F a=some o->H a=some o):∀(ts:ZZ) (vs:ZQ) (ds:List D),Zq K mg H F ts vs->Gd ts=some ds->Zo K H ds vs
 | [],vs,ds,h,e=>by cases e;exact h
 | t::ts,vs,ds,h,e=>by
  obtain⟨v,r,rfl,h1,h2⟩:=h;unfold Gd at e;cases q1:toD t with
  | none=>rw[q1]at e;cases e
  | some d =>
   rw[q1]at e;have e:(Gd ts).map (d::·)=some ds:=e;cases q2:Gd ts with
   | none=>rw[q2]at e;cases e
   | some ds'=>rw[q2]at e;cases e;exact⟨v,r,rfl,cq fh t v d h1 q1,N8 fh ts r ds' h2 q2⟩
end
theorem kh(fh:∀a o,F a=some o->H a=some o){t:T}{v:V}{d:D}(h:Cf K mg H F t v)(e:toD t=some d):Vc K H d v:=by
 cases t with
 | lst ts =>
  obtain⟨a,vs,rfl,q,_,r⟩:=h;unfold toD at e;cases q2:Gd ts with
  | none=>rw[q2]at e;cases e
  | some ds=>rw[q2]at e;cases e;exact⟨a,vs,rfl,.inl q,N8 fh ts vs ds r q2⟩
 | dct _=>cases e
 | _=>exact cq fh _ v d h e
theorem ly{a b:T}{r:Bool}(h:eqT a b=some r):∃x y,toD a=some x/\toD b=some y/\Jw x<=100/\r=Yp x y:=by
 have gen:∀{a b:T},((toD a).bind fun x=>(toD b).bind fun y=>if Jw x<=100 then some (Yp x y) else none)=some r->∃x y,toD a=some x/\toD b=some y/\Jw x<=100/\r=Yp x y:=fun {a b} h=>by
  cases e1:toD a with
  | none=>rw[e1]at h;cases h
  | some x =>
   rw[e1]at h;have h:((toD b).bind fun y=>if Jw x<=100 then some (Yp x y) else none)=some r:=h;cases e2:toD b with
   | none=>rw[e2]at h;cases h
   | some y =>
    rw[e2]at h;have h:(if Jw x<=100 then some (Yp x y) else none)=some r:=h
    split at h
    .rename_i q;cases h;exact⟨x,y,rfl,rfl,q,rfl⟩
    .cases h
 unfold eqT at h
 split at h
 .cases h;exact⟨_,_,rfl,rfl,Ma _,by simp[Yp,Bool.beq_eq_decide_eq]⟩
 .cases h;exact⟨_,_,rfl,rfl,Ma _,by simp[Yp,Bool.beq_eq_decide_eq]⟩
 .exact gen h
theorem Pf{a:T}{x:D}(ea:toD a=some x):∀{ts:ZZ} {r:Bool},My a ts=some r->∃ds,Gd ts=some ds/\(∀d∈ds,Jw d<=100)/\r=ds.any fun e=>Yp e x
 | [],r,h=>by cases h;exact⟨[],rfl,fun _ m=>absurd m V4,rfl⟩
 | t::ts,r,h=>by
  unfold My at h;cases e1:eqT t a with
  | none=>rw[e1]at h;cases h
  | some b =>
   rw[e1]at h;have h:(My a ts).map (b || ·)=some r:=h;cases e2:My a ts with
   | none=>rw[e2]at h;cases h
   | some r' =>
    rw[e2]at h;cases h;obtain⟨d,y,q1,q2,q3,q4⟩:=ly e1;rw[ea]at q2;cases q2;obtain⟨ds,s1,s2,s3⟩:=Pf ea e2;refine⟨d::ds,by unfold Gd;rw[q1,s1];rfl,fun z m=>?_,by rw[List.any_cons,q4,s3]⟩;rcases Y3.mp m with rfl | m
    .exact q3
    .exact s2 z m
theorem Sh{t:T}{v:V}(h:IsT K mg H F t v)(e:L8 t=true):Uk v=true/\∃d,toD t=some d/\Cg d=some v:=by
 cases t<;>first
  | (cases(show v=_ from h);exact⟨rfl,_,rfl,rfl⟩)
  | cases e
theorem Ss:∀{ts:ZZ} {vs:ZQ},Zq K mg H F ts vs->ts.all L8=true->vs.all Uk=true/\∃ds,Gd ts=some ds/\Paired (fun d v=>Cg d=some v) ds vs
 | [],vs,h,_=>by cases(show vs=[] from h);exact⟨rfl,[],rfl,.nil⟩
 | t::ts,vs,h,e=>by
  obtain⟨v,r,rfl,h1,h2⟩:=h;rw[List.all_cons,Y8]at e;obtain⟨f1,d,q1,q2⟩:=Sh h1 e.1;obtain⟨f2,ds,s1,s2⟩:=Ss h2 e.2;exact⟨by rw[List.all_cons,f1,f2];rfl,d::ds,by unfold Gd;rw[q1,s1];rfl,.cons q2 s2⟩
theorem Eu{x:D}{v:V}(h:Cg x=some v):∀{ds:List D} {vs:ZQ},Paired (fun d v=>Cg d=some v) ds vs->(ds.any fun e=>Yp e x)=inV v vs
 | _,_,.nil=>rfl
 | _,_,.cons q t=>by
  unfold inV;rw[List.any_cons,List.any_cons,Np q h,Eu h t]
  rfl
theorem Zt.val(k:Key):∀{XB:ZX} {ks:List (Key×V)},Zt K mg H F XB ks->(∀t,Vx XB k=some t->∃v,Dh ks k=some v/\IsT K mg H F t v)/\(Vx XB k=none->Dh ks k=none)
 | [],ks,h=>by cases(show ks=[] from h);exact⟨(fun t e=>by cases e),fun _=>rfl⟩
 | (k',t)::XB,ks,h=>by
  obtain⟨⟨k2,v⟩,r,rfl,⟨e,h1⟩,h2⟩:=h;obtain rfl:k2=k':=e;obtain⟨i1,i2⟩:=Zt.val k h2;unfold Vx;rw[List.find?_cons];by_cases q:k2=k
  .rw[Mi q,M4 (show (k2,v).1=k from q)];exact⟨fun t' e=>by cases e;exact⟨v,rfl,h1⟩,fun e=>nomatch e⟩
  .rw[Mp q,M5 (show ¬ (k2,v).1=k from q)];exact⟨i1,i2⟩
theorem Qc{t:T}{k:Key}{v:V}(e:keyT t=some k)(h:Cf K mg H F t v):v=kV k:=by
 cases t with
 | int i=>cases e;exact h
 | str i=>cases e;exact h
 | _=>cases e
theorem Zq.ints:∀{ts:ZZ} {vs:ZQ} {zs:ZL},Zq K mg H F ts vs->Nb ts=some zs->vs=zs.map V.int
 | [],vs,zs,h,e=>by cases e;exact h
 | t::ts,vs,zs,h,e=>by
  obtain⟨v,r,rfl,q,w⟩:=h;cases t with
  | int i =>
   obtain⟨zs',e1,rfl⟩:=Yj.mp (show (Nb ts).map (i::·)=some zs from e);rw[Zq.ints w e1];cases(show v=.int i from q)
   rfl
  | _=>cases e
theorem Zq.strs:∀{ts:ZZ} {vs:ZQ} {zs:ZD},Zq K mg H F ts vs->Z7 ts=some zs->vs=zs.map V.str
 | [],vs,zs,h,e=>by cases e;exact h
 | t::ts,vs,zs,h,e=>by
  obtain⟨v,r,rfl,q,w⟩:=h;cases t with
  | str i =>
   obtain⟨zs',e1,rfl⟩:=Yj.mp (show (Z7 ts).map (i::·)=some zs from e);rw[Zq.strs w e1];cases(show v=.str i from q)
   rfl
  | _=>cases e
end
theorem le_not(i j:Int):decide (i<=j)=!decide (j<i):=by rw[<-decide_not];exact decide_eq_decide.mpr Int.not_lt.symm
section
variable{X:Cx}{XF:ZY}{Z:L2.St}{H F G:Hp}{s:Shared}{Q:VK}{x y:V}{v u:Value}{t t':T}
theorem eq_str{A:Around}{w:Str}{tk:Tok}{b:Bool}(I:Inv X XF Z H s)(hu:A.units<cLine)(rx:RelV x v)(s1:Cf X.K X.mg H F t x)(e:jv t [w]=some b):SeqAt.EqAt A s (.str w tk) v b:=by
 cases t with
 | non=>cases(show x=_ from s1);cases e;cases rx;exact SeqAt.EqAt.str_none w tk
 | bl c=>cases(show x=_ from s1);cases e;cases rx;exact SeqAt.EqAt.str_bool w tk c
 | int c=>cases(show x=_ from s1);cases e;obtain⟨t,rfl⟩:=rx;exact SeqAt.EqAt.str_int w tk c t
 | str c =>
  cases(show x=_ from s1);obtain⟨t,rfl⟩:=rx;have e:some ([w].any fun y=>decide (y=c))=some b:=e;cases e;have:=SeqAt.EqAt.str_str (A:=A) (s:=s) w tk c t;rw[List.any_cons,List.any_nil,Bool.or_false, <-Bool.beq_eq_decide_eq];exact this
 | tup ts=>obtain⟨a,vs,rfl,q,_⟩:=s1;cases e;cases rx;obtain⟨XM,_,tp,_⟩:=I.tuple q;exact SeqAt.EqAt.str_tuple w tk tp hu
 | lst ts=>obtain⟨a,vs,rfl,q,_⟩:=s1;cases e;cases rx;obtain⟨XM,_,pl,_⟩:=I.list (.inl q);exact SeqAt.EqAt.str_list w tk pl.isList hu
 | dct ts =>
  obtain⟨a,ks,rfl,q,_⟩:=s1;cases e;cases rx;obtain⟨_,_,vs,_,⟨c,dd,dt,sl⟩,es,ep,h1,⟨h2,h3,h4⟩,h5,_⟩:=q.ok I.hok;simp only at h2 h3 h4 h5;subst h2 h3 h4 h5;exact SeqAt.EqAt.str_dict w tk h1 hu
 | fn _=>cases e
theorem Zxm{t:T}{e:Str->Bool}:∀{ss:ZD} {b:Bool},jv t ss=some b->(∀w,jv t [w]=some (e w))->b=ss.any e
 | ss,b,h,he=>by
  cases t with
  | str c =>
   have h:some (ss.any fun y=>decide (y=c))=some b:=h;cases h
   have:e=fun y=>decide (y=c):=funext fun w=>by
    have:=he w;have this:some ([w].any fun y=>decide (y=c))=some (e w):=this;rw[List.any_cons,List.any_nil,Bool.or_false]at this;exact(D3 this).symm
   rw[this]
  | fn _=>cases h
  | _ =>
   have h:some false=some b:=h;cases h;have:e=fun _=>false:=funext fun w=>(D3 (he w)).symm;rw[this];simp
theorem Ep{e:Str->Bool}{e':Value->Bool}(h:∀w tk,e' (.str w tk)=e w):∀{ss:ZD} {us:ZM},Zv (ss.map V.str) us->us.any e'=ss.any e
 | [],_,r=>by cases r;rfl
 | w::ss,_,r=>by
  cases r with | cons r1 r2 =>
  obtain⟨tk,rfl⟩:=(show ∃t,_=Value.str w t from r1);rw[List.any_cons,List.any_cons,h,Ep h r2]
theorem Xp{ss:ZD}{b:Bool}{a:Addr}(I:Inv X XF Z H s)(un:X.A.units+150<cLine)(rx:RelV x v)(s1:Cf X.K X.mg H F t x)(e:jv t ss=some b)(hq:Vi X.K H a (ss.map V.str)\/Yu X.K H a (ss.map V.str)) :
  (Q (.bl b) H->wpAny (model X.prog X.w) X.A (compareOp .In v (.ref a)) (EP X XF Z Q) X.xe s)/\(Q (.bl (!b)) H->wpAny (model X.prog X.w) X.A (compareOp .NotIn v (.ref a)) (EP X XF Z Q) X.xe s):=by
 have h1:X.A.in1.units<cLine:=by show X.A.units+1<cLine;omega
 have ex:∀w,∃b,jv t [w]=some b:=fun w=>by cases t<;>first | exact⟨_,rfl⟩ | cases e
 obtain⟨g,hg⟩:∃g:Str->Bool,∀w,jv t [w]=some (g w):=⟨fun w=>(jv t [w]).getD false,fun w=>by obtain⟨b,h⟩:=ex w;show _=some ((jv t [w]).getD false);rw[h];rfl⟩;have eb:=Zxm e hg;subst eb
 have go:∀{us:ZM},Zv (ss.map V.str) us->(∀y,y∈us.toArray->SeqAt.EqAt X.A.in1 s y v (match y with | .str w _=>g w | _=>false)):=fun {us} r y m=>by
  have m:y∈us:=by simpa using m
  obtain⟨i,hi⟩:=List.getElem?_of_mem m;have hl:=(Bz.mp hi).1;have ll:=r.length;rw[Z4]at ll;obtain⟨w,ew⟩:∃w,ss[i]?=some w:=⟨_,V0 (by omega)⟩;obtain⟨y',h',rr⟩:=Zv.get r (show (ss.map V.str)[i]?=some (.str w) by rw[Cz,ew];rfl);rw[hi]at h';cases h';obtain⟨tk,rfl⟩:=(show ∃t,y=Value.str w t from rr);exact eq_str I h1 rx s1 (hg w)
 have an:∀{us:ZM},Zv (ss.map V.str) us->us.toArray.any (fun y=>match y with | .str w _=>g w | _=>false)=ss.any g:=fun {us} r=>by
  rw[List.any_toArray];exact Ep (fun _ _=>rfl) r
 rcases hq with hq | hq
 .obtain⟨XM,r,pl,_⟩:=I.list hq;exact⟨fun q=>SeqAt.in_listAt _ pl.isList (go r) ⟨.bl _,H,I,rfl,by rw[an r];exact q⟩,fun q=>SeqAt.notIn_listAt _ pl.isList (go r) ⟨.bl _,H,I,rfl,by rw[an r];exact q⟩⟩
 .obtain⟨XM,r,pl,_⟩:=I.tuple hq;exact⟨fun q=>SeqAt.in_tupleAt _ pl (go r) ⟨.bl _,H,I,rfl,by rw[an r];exact q⟩,fun q=>SeqAt.notIn_tupleAt _ pl (go r) ⟨.bl _,H,I,rfl,by rw[an r];exact q⟩⟩
theorem eq_nil{ts:ZZ}(I:Inv X XF Z H s)(un:X.A.units+150<cLine)(rx:RelV x v)(ry:RelV y u)(s1:Cf X.K X.mg H F (.tup ts) x)(s2:Cf X.K X.mg H F (.tup []) y) :
  (Q (.bl ts.isEmpty) H->wpAny (model X.prog X.w) X.A (compareOp .Eq v u) (EP X XF Z Q) X.xe s)/\(Q (.bl (!ts.isEmpty)) H->wpAny (model X.prog X.w) X.A (compareOp .NotEq v u) (EP X XF Z Q) X.xe s):=by
 obtain⟨a,vs,rfl,q1,_,a1⟩:=s1;obtain⟨b,ws,rfl,q2,_,a2⟩:=s2;cases(show ws=[] from a2);cases rx;cases ry;obtain⟨i1,r1,p1,_⟩:=I.tuple q1;obtain⟨i2,r2,p2,_⟩:=I.tuple q2;have e2:i2=[]:=by cases r2;rfl
 subst e2
 have ev:((List.range (min i1.toArray.size ([]:ZM).toArray.size)).all (fun _=>true) && i1.toArray.size == ([]:ZM).toArray.size)=ts.isEmpty:=by
  have l1:=a1.length;have l2:=r1.length;have l3:ts.length=i1.length:=l1.trans l2;cases ts with
  | nil=>cases i1 with
   | nil=>rfl
   | cons _ _=>simp at l3
  | cons _ _=>cases i1 with
   | nil=>simp at l3
   | cons _ _=>simp
 have hu:X.A.units<cLine:=by omega
 exact⟨fun q=>SeqAt.eq_tupleAt (e:=fun _=>true) p1 p2 hu (fun j h1 h2=>absurd h2 (by simp)) ⟨.bl _,H,I,rfl,by rw[ev];exact q⟩,
  fun q=>SeqAt.RcNeAt.tuples (e:=fun _=>true) p1 p2 hu (fun j h1 h2=>absurd h2 (by simp)) X.prog X.w X.xe _ ⟨.bl _,H,I,rfl,by rw[ev];exact q⟩⟩
theorem B6{b:Bool}(c:Cm)(I:Inv X XF Z H s)(fh:∀a o,F a=some o->H a=some o)(un:X.A.units+150<cLine)(rx:RelV x v)(ry:RelV y u)(s1:Cf X.K X.mg H F t x)(s2:Cf X.K X.mg H F t' y)(e:T7 c t t'=some b)(q:Q (.bl b) H) :
  wpAny (model X.prog X.w) X.A (compareOp (De c) v u) (EP X XF Z Q) X.xe s:=by
 have pIn:∀{b:Bool},E4 t t'=some b->(Q (.bl b) H->wpAny (model X.prog X.w) X.A (compareOp .In v u) (EP X XF Z Q) X.xe s)/\(Q (.bl (!b)) H->wpAny (model X.prog X.w) X.A (compareOp .NotIn v u) (EP X XF Z Q) X.xe s):=fun {b} e=>by
  unfold E4 at e
  split at e
  .split at e
   .rename_i es
    obtain⟨a,vs,rfl,q1,z,ar⟩:=s2;cases ar.strs es;cases ry;exact Xp I un rx s1 e (.inl (.inl q1))
   .obtain⟨a,vs,rfl,q1,z,ar⟩:=s2;obtain⟨d,e1,e⟩:=ZO.mp e;obtain⟨ds,s3,s4,rfl⟩:=Pf e1 e;have i1:=kh fh s1 e1;have i2:=N8 fh _ vs ds ar s3;exact⟨fun q=>op_inD XF s Z H x _ v u Q I rx ry ⟨a,vs,d,ds,rfl,.inl q1,i1,i2,fun e m=>by have:=s4 e m;omega,q⟩,fun q=>qm XF s Z H x _ v u Q I rx ry ⟨a,vs,d,ds,rfl,.inl q1,i1,i2,fun e m=>by have:=s4 e m;omega,q⟩⟩
  .split at e
   .rename_i es
    obtain⟨a,vs,rfl,q1,z,ar⟩:=s2;cases ar.strs es;cases ry;exact Xp I un rx s1 e (.inr q1)
   .split at e
    .rename_i ts _ _ hf
     obtain⟨a,vs,rfl,q1,z,ar⟩:=s2;obtain⟨f1,d,e1,e2⟩:=Sh (K:=X.K) (mg:=X.mg) (H:=H) (F:=F) (t:=t) (v:=x) (by cases t<;>first | exact s1 | cases hf.1) hf.1;obtain⟨f2,ds,e3,e4⟩:=Ss ar hf.2;obtain⟨ds',s3,s4,rfl⟩:=Pf e1 e;rw[e3]at s3;cases s3;rw[Eu e2 e4];exact⟨fun q=>qr XF s Z H x _ v u Q I rx ry ⟨a,vs,rfl,.inr q1,f1,f2,q⟩,fun q=>Qf XF s Z H x _ v u Q I rx ry ⟨a,vs,rfl,.inr q1,f1,f2,q⟩⟩
    .cases e
  .rename_i XB _
   obtain⟨a,ks,rfl,q1,z,ar⟩:=s2;obtain⟨k,e1,rfl⟩:=Yj.mp e;cases Qc e1 s1;cases ry;have hu:X.A.units+1<cLine:=by omega
   have g:W7 H a (kV k) (Dh ks k):=.inl ⟨ks,k,q1,rfl,rfl⟩;obtain⟨i1,i2⟩:=Zt.val k ar
   have es:(Dh ks k).isSome=(Vx XB k).isSome:=by
    cases e2:Vx XB k with
    | none=>rw[i2 e2];rfl
    | some t=>obtain⟨v,h1,_⟩:=i1 t e2;rw[h1];rfl
   exact⟨fun q=>d_in hu I g rx fun s' I'=>⟨.bl _,H,I',rfl,by rw[es];exact q⟩,fun q=>Zqv hu I g rx fun s' I'=>⟨.bl _,H,I',rfl,by rw[es];exact q⟩⟩
  .split at e
   .cases e;cases(show x=_ from s1);cases(show y=_ from s2);exact⟨fun q=>ql XF s Z H _ _ v u Q I rx ry ⟨_,_,rfl,rfl,q⟩,fun q=>Qg XF s Z H _ _ v u Q I rx ry ⟨_,_,rfl,rfl,q⟩⟩
   .cases e
  .cases e
 have pIs:∀{b:Bool},isT t t'=some b->(Q (.bl b) H->wpAny (model X.prog X.w) X.A (compareOp .Is v u) (EP X XF Z Q) X.xe s)/\(Q (.bl (!b)) H->wpAny (model X.prog X.w) X.A (compareOp .IsNot v u) (EP X XF Z Q) X.xe s):=fun {b} e=>by
  unfold isT at e
  split at e
  .cases e;cases(show x=_ from s1);cases(show y=_ from s2);exact⟨fun q=>dq XF s Z H _ _ v u Q I rx ry ⟨rfl,q⟩,fun q=>Xg XF s Z H _ _ v u Q I rx ry ⟨rfl,q⟩⟩
  .cases e;cases(show x=_ from s1);cases(show y=_ from s2);exact⟨fun q=>op_isB XF s Z H _ _ v u Q I rx ry ⟨_,_,rfl,rfl,q⟩,fun q=>qc XF s Z H _ _ v u Q I rx ry ⟨_,_,rfl,rfl,q⟩⟩
  .rename_i n1 n2
   cases e;cases(show y=_ from s2)
   have ne:x≠.non:=fun z=>by
    subst z;cases t with
    | non=>first | exact n1 rfl | exact n2 rfl
    | tup _=>obtain⟨_,_,z,_⟩:=s1;cases z
    | lst _=>obtain⟨_,_,z,_⟩:=s1;cases z
    | dct _=>obtain⟨_,_,z,_⟩:=s1;cases z
    | fn _=>obtain⟨_,z,_⟩:=s1;cases z
    | _=>cases(show V.non=_ from s1)
   exact⟨fun q=>dq XF s Z H _ _ v u Q I rx ry ⟨rfl,by rw[Mp ne];exact q⟩,fun q=>Xg XF s Z H _ _ v u Q I rx ry ⟨rfl,by rw[Mp ne];exact q⟩⟩
  .cases e
 cases c with
 | eq =>
  have e:eqC t t'=some b:=e;unfold eqC at e
  split at e
  .cases e;exact(eq_nil I un rx ry s1 s2).1 q
  .obtain⟨d,e',q1,q2,q3,rfl⟩:=ly e;exact op_eqD XF s Z H x y v u Q I rx ry ⟨d,e',kh fh s1 q1,kh fh s2 q2,by omega,q⟩
 | ne =>
  have e:(eqC t t').map not=some b:=e;obtain⟨r,e1,rfl⟩:=Yj.mp e
  clear e
  unfold eqC at e1
  split at e1
  .cases e1;exact(eq_nil I un rx ry s1 s2).2 q
  .obtain⟨d,e',q1,q2,q3,rfl⟩:=ly e1;exact op_neD XF s Z H x y v u Q I rx ry ⟨d,e',kh fh s1 q1,kh fh s2 q2,by omega,q⟩
 | lt =>
  have e:ltT t t'=some b:=e;unfold ltT at e
  split at e
  .cases e;cases(show x=_ from s1);cases(show y=_ from s2);exact op_lt XF s Z H _ _ v u Q I rx ry ⟨_,_,rfl,rfl,q⟩
  .cases e;cases(show x=_ from s1);cases(show y=_ from s2);exact qd XF s Z H _ _ v u Q I rx ry ⟨_,_,rfl,rfl,q⟩
  .cases e
 | gt =>
  have e:ltT t' t=some b:=e;unfold ltT at e
  split at e
  .cases e;cases(show x=_ from s1);cases(show y=_ from s2);exact op_gt XF s Z H _ _ v u Q I rx ry ⟨_,_,rfl,rfl,q⟩
  .cases e;cases(show x=_ from s1);cases(show y=_ from s2);exact qh XF s Z H _ _ v u Q I rx ry ⟨_,_,rfl,rfl,q⟩
  .cases e
 | le =>
  have e:(ltT t' t).map not=some b:=e;obtain⟨b',e2,rfl⟩:=Yj.mp e
  clear e
  unfold ltT at e2
  split at e2
  .cases e2;cases(show x=_ from s1);cases(show y=_ from s2);refine op_le XF s Z H _ _ v u Q I rx ry ⟨_,_,rfl,rfl, ?_⟩;exact(le_not _ _).symm ▸ q
  .cases e2;cases(show x=_ from s1);cases(show y=_ from s2);exact qt XF s Z H _ _ v u Q I rx ry ⟨_,_,rfl,rfl,q⟩
  .cases e2
 | ge =>
  have e:geT t t'=some b:=e;unfold geT at e
  split at e
  .cases e;cases(show x=_ from s1);cases(show y=_ from s2);exact op_ge XF s Z H _ _ v u Q I rx ry ⟨_,_,rfl,rfl,q⟩
  .cases e
 | isin=>exact(pIn e).1 q
 | notin =>
  have e:(E4 t t').map not=some b:=e;obtain⟨b',e2,rfl⟩:=Yj.mp e;exact(pIn e2).2 q
 | is=>exact(pIs e).1 q
 | isnt =>
  have e:(isT t t').map not=some b:=e;obtain⟨b',e2,rfl⟩:=Yj.mp e;exact(pIs e2).2 q
end
section
variable{X:Cx}{XF:ZY}{Z:L2.St}{H F₀ G:Hp}{s:Shared}{Q:VK}{x y:V}{v u:Value}{t t':T}{p:P}
theorem lstR{l:Addr}{xs:ZQ}(I:Inv X XF Z H s)(r:Rd H l (.lst xs)):xs.length<=sizeLine/\∃(XM:ZM) (n:Nat),Zv xs XM/\xs.length=XM.length/\s.heap.get? l=some { cls:=.type "list",data:=.seq XM.toArray n }:=by
 obtain⟨z,XM,n,r,e⟩:=r.ok I.hok;exact⟨z,XM,n,r,r.length,e⟩
theorem Zza{l b:Addr}{xs zs:ZQ}(I:Inv X XF Z H s)(hH:Rd H l (.lst xs))(hB:Rd H b (.lst zs))(hz:xs.length+zs.length<=sizeLine)(q:∀p,H p=none->Q (.ref p) (upd H p (.lst (xs++zs)))) :
  wpAny (model X.prog X.w) X.A (binaryOp .Add (.ref l) (.ref b)) (EP X XF Z Q) X.xe s:=by
 obtain⟨z,XM,n,r,hl,e⟩:=lstR I hH;obtain⟨z2,its2,n2,r2,pe,e2⟩:=lstR I hB;refine PySem.P.add_list e e2 ?_ (by rw[Vy,Vy];omega);have ea:XM.toArray++its2.toArray=(XM++its2).toArray:=by simp
 rw[ea];exact⟨.ref _,_,I.lnew (t':=s.toks) (r.append r2) (by rw[Gg];omega),rfl,q _ I.fresh⟩
theorem Zzh{l:Addr}{xs:ZQ}{k:Int}{w:Tok}(I:Inv X XF Z H s)(hH:Rd H l (.lst xs))(h1:-(2 ^ 63)<=k)(h2:k<2 ^ 63)(hz:xs.length * k.toNat<=sizeLine)(q:∀p,H p=none->Q (.ref p) (upd H p (.lst (List.replicate k.toNat xs).flatten))) :
  wpAny (model X.prog X.w) X.A (binaryOp .Mult (.ref l) (.int k w)) (EP X XF Z Q) X.xe s:=by
 obtain⟨z,XM,n,r,hl,e⟩:=lstR I hH;have hlen:XM.toArray.size * k.toNat<=sizeLine:=by rw[Vy, <-hl];exact hz
 have hcap:¬ XM.toArray.size * k.toNat>(2 ^ 63 - 1) / 8:=by
  have:(sizeLine:Nat)<=(2 ^ 63 - 1) / 8:=by decide
  omega
 have Wl:¬ (!Builtin.List.listFitsIndex k)=true:=by
  rw[fitsIndex_both h1 h2];exact Ti
 have hlong:¬ Builtin.List.listTooLong (XM.toArray.size * k.toNat)=true:=by
  rw[dc hlen];exact Ti
 have hnew:List.foldl (fun x1 x2=>x1++x2) #[] (List.replicate (if XM.toArray.isEmpty=true then 0 else k.toNat) XM.toArray)=(List.replicate k.toNat XM).flatten.toArray:=by
  have f0:∀m:Nat,List.foldl (fun x1 x2=>x1++x2) #[] (List.replicate m XM.toArray)=(List.replicate m XM).flatten.toArray:=fun m=>by
   have:=foldl_rep XM m [];rw[List.nil_append]at this;exact this
  rw[f0];cases XM with
  | nil=>simp
  | cons a r'=>rw[if_neg (by simp)]
 refine wpAny_binaryOp_repeat_ref (T:="list") (U:="int") (by decide) ⟨_,e,rfl⟩ (fun s'=>typeIs_int s' k w) noFill_list_mul F.fills_int_mul F.slot_int_rmul repeat_list F.slot_int_index.lookup
  (call_meets F.slot_int_rmul (typeIs_int s k w) F.entry_int_rmul (F.args_int_rmul_2 _ _) (int___rmul___int_list k w l XM.toArray n)
   ⟨e,rfl,⟨_,e,rfl⟩,call_meets F.slot_list_mul ⟨_,e,rfl⟩ F.entry_list_mul (F.args_list_mul_2 _ _) (AutoListH.list___mul___list_int_3 l XM.toArray n k w Wl hcap hlong) ⟨e, ?_⟩⟩)
 rw[hnew];exact⟨.ref _,_,I.lnew (t':=s.toks) (r.rep k.toNat) (by rw[len_rep,Nat.mul_comm];exact hz),rfl,q _ I.fresh⟩
theorem dz{i:Str}{n:Int}{w w':Tok}(I:Inv X XF Z H s)(n0:0<=n)(n1:n<=1000)(i1:i.length<=1000)(q:Q (.str (repS i n.toNat)) H):wpAny (model X.prog X.w) X.A (binaryOp .Mult (.str i w) (.int n w')) (EP X XF Z Q) X.xe s:=by
 by_cases c1:n<1
 .have:n=0:=by omega
  subst this;refine PySem.P.mul_str_none (by decide) (by decide) ⟨.str Str.empty,H,I.tok _,⟨_,rfl⟩, ?_⟩;exact q
 by_cases c2:(n == 1 || i.length == 0)=true
 .have e:repS i n.toNat=i:=by
   rw[Bool.or_eq_true,beq_iff_eq,beq_iff_eq]at c2
   have:(repS i n.toNat).cps.toList=i.cps.toList:=by
    rw[C5];rcases c2 with rfl | c2
    .simp
    .have:i.cps.toList=[]:=by
      have:i.cps.size=0:=c2;exact List.eq_nil_of_length_eq_zero (by simpa using this)
     rw[this];simp
   cases i;cases hr:repS _ n.toNat;rw[hr]at this;simp at this;simp[this]
  rw[e]at q;refine PySem.P.mul_str ?_ (fun _ z=>?_) (fun _ z=>?_) ?_
  .rw[Bool.or_eq_false_iff];exact⟨Mp (by omega),Mp (by omega)⟩
  .rw[c2]at z;cases z
  .rw[c2]at z;cases z
  .rw[if_neg c1,if_pos c2];exact⟨.str i,H,I,⟨_,rfl⟩,q⟩
 .rw[Bool.or_eq_true,beq_iff_eq,beq_iff_eq]at c2;exact Zzs XF s Z H (.str i) (.int n) _ _ Q I ⟨w,rfl⟩ ⟨w',rfl⟩ ⟨i,n,rfl,rfl,by omega,n1,fun z=>c2 (.inr z),i1,q⟩
theorem Zq.flat{K:W.Frag}{mg:ZV}{ts:ZZ}{vs:ZQ}(h:Zq K mg H F ts vs):∀n:Nat,Zq K mg H F (List.replicate n ts).flatten (List.replicate n vs).flatten
 | 0=>rfl
 | n+1=>by
  rw[List.replicate_succ,List.replicate_succ,List.flatten_cons,List.flatten_cons];exact h.append (Zq.flat h n)
def Fin(X:Cx)(F G:Hp)(p:P)(Z:L2.St)(H:Hp)(r:Sl)(Q:VK):Prop:=∀F' H' v,Le F F'->Up X.K H H'->Rel X.K X.mg F' G p Z H'->Res X.K X.mg F' G p Z H' r v->Q v H'
theorem Fin.f{r:T}(k:Fin X F G p Z H (.f r) Q)(rel:Rel X.K X.mg F G p Z H){H':Hp}{v:V}(s:Zd H H')(h:IsT X.K X.mg H' F r v):Q v H':=k F H' v (Le.refl F) s.up (rel.same s) h
theorem Fin.h{r:T}(k:Fin X F G p Z H (.f r) Q)(rel:Rel X.K X.mg F G p Z H){v:V}(h:IsT X.K X.mg H F r v):Q v H:=k.f rel (Zd.refl H) h
theorem Fin.l{ts:ZZ}(k:Fin X F G p Z H (.o (.lst ts)) Q)(rel:Rel X.K X.mg F G p Z H){l:Addr}{vs:ZQ}(hl:H l=none)(z:vs.length<=sizeLine)(h:Zq X.K X.mg H F ts vs):Q (.ref l) (upd H l (.lst vs)) :=
 let ⟨a,b⟩:=rel.newL hl z h
 k F _ _ (Le.refl F) (Zd.lay hl).up a b
theorem Nm{f:Int->Int->Option Sl}{t t':T}{r:Sl}(e:cw f t t'=some r):∃a b,t=.int a/\t'=.int b/\f a b=some r:=by
 cases t with
 | int a=>cases t' with
  | int b=>exact⟨a,b,rfl,rfl,e⟩
  | _=>cases e
 | _=>cases e
theorem Ja{c:Prop}[Decidable c]{x r:Sl}(e:(if c then some x else none)=some r):c/\x=r:=by
 by_cases h:c
 .rw[if_pos h]at e;exact⟨h,D3 e⟩
 .rw[if_neg h]at e;cases e
theorem op_run{r:Sl}{σ':L2.St}(o:Op)(I:Inv X XF σ' H s)(rel:Rel X.K X.mg F G p Z H)(rx:RelV x v)(ry:RelV y u)(s1:Cf X.K X.mg H F t x)(s2:Cf X.K X.mg H F t' y)(e:opT o t t'=some r)(q:Fin X F G p Z H r Q) :
  wpAny (model X.prog X.w) X.A (binaryOp (opOf o) v u) (EP X XF σ' Q) X.xe s:=by
 cases o with
 | add=>cases t with
  | int a=>cases t' with
   | int b =>
    cases e;cases(show x=_ from s1);cases(show y=_ from s2);exact op_add XF s σ' H _ _ v u Q I rx ry ⟨_,_,rfl,rfl,q.h rel rfl⟩
   | _=>cases e
  | str a=>cases t' with
   | str b =>
    obtain⟨hz,rfl⟩:=Ja e;cases(show x=_ from s1);cases(show y=_ from s2);exact K5 XF s σ' H _ _ v u Q I rx ry ⟨_,_,rfl,rfl,hz,q.h rel rfl⟩
   | _=>cases e
  | lst a=>cases t' with
   | lst b =>
    obtain⟨hz,rfl⟩:=Ja e;obtain⟨a,vs,rfl,h1,z1,Mv⟩:=s1;obtain⟨b,us,rfl,h2,z2,Pg⟩:=s2;cases rx;cases ry;have l1:=Mv.length;have l2:=Pg.length;exact Zza I h1 h2 (by omega) fun l hl=>q.l rel hl (by rw[Gg];omega) (Mv.append Pg)
   | _=>cases e
  | tup a=>cases t' with
   | tup b =>
    obtain⟨hz,rfl⟩:=Ja e;obtain⟨a,vs,rfl,h1,z1,Mv⟩:=s1;obtain⟨b,us,rfl,h2,z2,Pg⟩:=s2;have l1:=Mv.length;have l2:=Pg.length;exact Zzo XF s σ' H _ _ v u Q I rx ry ⟨a,b,vs,us,rfl,rfl,h1,h2,by omega,fun l H' sm hq=>q.f rel sm ⟨l,_,rfl,hq,by rw[Gg];omega,(Zq.up sm.up (Le.refl F) _ _ Mv).append (Zq.up sm.up (Le.refl F) _ _ Pg)⟩⟩
   | _=>cases e
  | _=>cases e
 | sub =>
  obtain⟨a,b,rfl,rfl,e⟩:=Nm e;cases e;cases(show x=_ from s1);cases(show y=_ from s2);exact op_sub XF s σ' H _ _ v u Q I rx ry ⟨_,_,rfl,rfl,q.h rel rfl⟩
 | mul=>cases t with
  | int a=>cases t' with
   | int b =>
    obtain⟨hz,rfl⟩:=Ja e;cases(show x=_ from s1);cases(show y=_ from s2);exact op_mul XF s σ' H _ _ v u Q I rx ry ⟨_,_,rfl,rfl,hz,q.h rel rfl⟩
   | _=>cases e
  | str a=>cases t' with
   | int b =>
    obtain⟨hz,rfl⟩:=Ja e;cases(show x=_ from s1);cases(show y=_ from s2);obtain⟨_,rfl⟩:=rx;obtain⟨_,rfl⟩:=ry;exact dz I hz.1 hz.2.1 hz.2.2 (q.h rel rfl)
   | _=>cases e
  | lst a=>cases t' with
   | int b =>
    obtain⟨hz,rfl⟩:=Ja e;cases(show y=_ from s2);obtain⟨a,vs,rfl,h1,z1,Mv⟩:=s1;cases rx;obtain⟨_,rfl⟩:=ry;have l1:=Mv.length;exact Zzh I h1 hz.1 hz.2.1 (by rw[<-l1];exact hz.2.2) fun l hl=>q.l rel hl (by rw[len_rep, <-l1,Nat.mul_comm];exact hz.2.2) (Mv.flat _)
   | _=>cases e
  | _=>cases e
 | fdiv =>
  obtain⟨a,b,rfl,rfl,e⟩:=Nm e;obtain⟨hz,rfl⟩:=Ja e;cases(show x=_ from s1);cases(show y=_ from s2);exact Zzp XF s σ' H _ _ v u Q I rx ry ⟨_,_,rfl,rfl,hz,q.h rel rfl⟩
 | mod =>
  obtain⟨a,b,rfl,rfl,e⟩:=Nm e;obtain⟨hz,rfl⟩:=Ja e;cases(show x=_ from s1);cases(show y=_ from s2);exact op_mod XF s σ' H _ _ v u Q I rx ry ⟨_,_,rfl,rfl,hz,q.h rel rfl⟩
 | pow =>
  obtain⟨a,b,rfl,rfl,e⟩:=Nm e;obtain⟨hz,rfl⟩:=Ja e;cases(show x=_ from s1);cases(show y=_ from s2);exact op_pow XF s σ' H _ _ v u Q I rx ry ⟨_,_,rfl,rfl,hz,q.h rel rfl⟩
end
section
variable{K:W.Frag}{mg:ZV}{H F G:Hp}
theorem Zt.map{k:Key}{t:T}{v:V}(h:IsT K mg H F t v):∀{XB:ZX} {ks:List (Key×V)},Zt K mg H F XB ks->Zt K mg H F (XB.map fun p=>if p.1=k then (p.1,t) else p) (ks.map fun p=>if p.1=k then (p.1,v) else p)
 | [],ks,a=>by cases(show ks=[] from a);rfl
 | (k',t')::XB,ks,a=>by
  obtain⟨⟨k2,v'⟩,r,rfl,⟨e,h1⟩,h2⟩:=a;obtain rfl:k2=k':=e;rw[Gh,Gh];refine⟨_,_,rfl, ?_,Zt.map h h2⟩;by_cases q:k2=k
  .rw[if_pos (show (k2,t').1=k from q),if_pos (show (k2,v').1=k from q)];exact⟨rfl,h⟩
  .rw[if_neg (show ¬ (k2,t').1=k from q),if_neg (show ¬ (k2,v').1=k from q)];exact⟨rfl,h1⟩
theorem Zt.any{k:Key}:∀{XB:ZX} {ks:List (Key×V)},Zt K mg H F XB ks->(XB.any fun p=>decide (p.1=k))=ks.any fun p=>decide (p.1=k)
 | [],ks,a=>by cases(show ks=[] from a);rfl
 | (k',t')::XB,ks,a=>by
  obtain⟨⟨k2,v'⟩,r,rfl,⟨e,h1⟩,h2⟩:=a;obtain rfl:k2=k':=e;rw[List.any_cons,List.any_cons,Zt.any h2]
theorem Zt.snoc{k:Key}{t:T}{v:V}(h:IsT K mg H F t v):∀{XB:ZX} {ks:List (Key×V)},Zt K mg H F XB ks->Zt K mg H F (XB++[(k,t)]) (ks++[(k,v)])
 | [],ks,a=>by cases(show ks=[] from a);exact⟨_,_,rfl,⟨rfl,h⟩,rfl⟩
 | p::XB,ks,a=>by
  obtain⟨q,r,rfl,h1,h2⟩:=a;exact⟨q,_,rfl,h1,Zt.snoc h h2⟩
theorem Zt.put{k:Key}{t:T}{v:V}(h:IsT K mg H F t v){XB:ZX}{ks:List (Key×V)}(a:Zt K mg H F XB ks):Zt K mg H F (Vn XB k t) (putK ks k v):=by
 unfold Vn putK;rw[<-Zt.any a]
 split
 .exact Zt.map h a
 .exact Zt.snoc h a
theorem Zt.keys:∀{XB:ZX} {ks:List (Key×V)},Zt K mg H F XB ks->XB.map (·.1)=ks.map (·.1)
 | [],ks,h=>by cases(show ks=[] from h);rfl
 | (k,t)::XB,ks,h=>by
  obtain⟨q,r,rfl,⟨e,_⟩,h2⟩:=h;rw[Gh,Gh,Zt.keys h2,e]
theorem Xr(k:Key):IsT K mg H F (Te k) (kV k):=by cases k<;>rfl
theorem Zt.keyT{XB:ZX}{ks:List (Key×V)}(h:Zt K mg H F XB ks):Zq K mg H F (XB.map fun p=>Te p.1) (ks.map fun p=>kV p.1):=by
 have go:∀l:List Key,Zq K mg H F (l.map Te) (l.map kV):=fun l=>by
  induction l with
  | nil=>rfl
  | cons k r ih=>exact⟨_,_,rfl,Xr k,ih⟩
 have e:=h.keys;have:=go (XB.map (·.1));rw[List.map_map,List.map_map]at this
 have e2:(ks.map fun p=>kV p.1)=(XB.map fun p=>kV p.1):=by
  have:=congrArg (List.map kV) e;rw[List.map_map,List.map_map]at this;exact this.symm
 rw[e2];exact this
theorem R9:∀(zs:ZL),Zq K mg H F (zs.map T.int) (zs.map V.int)
 | []=>rfl
 | _::zs=>⟨_,_,rfl,rfl,R9 zs⟩
theorem R8:∀(zs:ZD),Zq K mg H F (zs.map T.str) (zs.map V.str)
 | []=>rfl
 | _::zs=>⟨_,_,rfl,rfl,R8 zs⟩
theorem Zq.pairs:∀{ts:ZZ} {vs:ZQ} {XB:ZX},Zq K mg H F ts vs->Qy ts=some XB->∃ks:List (Key×V),Zt K mg H F XB ks/\vs.length=ks.length/\∀(j:Nat) (k:Key) (v:V),ks[j]?=some (k,v)->∃p,vs[j]?=some (.ref p)/\Yu K H p [kV k,v]
 | [],vs,XB,h,e=>by
  cases e;cases(show vs=[] from h);exact⟨[],rfl,rfl,fun j k v e=>by simp at e⟩
 | t::ts,vs,XB,h,e=>by
  obtain⟨v,r,rfl,q,w⟩:=h;unfold Qy at e
  split at e
  .rename_i e0;cases e0
  .rename_i a b r' e0
   cases e0;obtain⟨k,ek,e2⟩:=ZO.mp e;obtain⟨Vz,e1,rfl⟩:=Yj.mp e2;obtain⟨ks,g1,g2,g3⟩:=Zq.pairs w e1;obtain⟨p,us,rfl,sq,_,ar⟩:=q;obtain⟨u1,r1,rfl,i1,ar⟩:=ar;obtain⟨u2,r2,rfl,i2,ar⟩:=ar;cases(show r2=[] from ar)
   have:u1=kV k:=by
    unfold keyT at ek
    split at ek<;>cases ek<;>exact i1
   subst this;refine⟨(k,u2)::ks,⟨_,_,rfl,⟨rfl,i2⟩,g1⟩,by simp[g2],fun j k' v' e=>?_⟩;cases j with
   | zero=>cases(show some (k,u2)=some (k',v') from e);exact⟨p,rfl,sq⟩
   | succ j=>exact g3 j k' v' e
  .cases e
theorem Zt.fold:∀{XB:ZX} {ks:List (Key×V)} {a:ZX} {b:List (Key×V)},Zt K mg H F XB ks->Zt K mg H F a b->Zt K mg H F (XB.foldl (fun acc kv=>Vn acc kv.1 kv.2) a) (ks.foldl (fun acc kv=>putK acc kv.1 kv.2) b)
 | [],ks,a,b,h,h'=>by cases(show ks=[] from h);exact h'
 | (k,t)::XB,ks,a,b,h,h'=>by
  obtain⟨⟨k2,v⟩,r,rfl,⟨e,h1⟩,h2⟩:=h;obtain rfl:k2=k:=e;rw[List.foldl_cons,List.foldl_cons];exact Zt.fold h2 (Zt.put h1 h')
theorem Kt{X:Cx}{F₁ H₁:Hp}{ts us:ZZ}{vs:ZQ}(h:Zq X.K X.mg H₁ F₁ ts vs)(e:M8 ts=some us):∃ws,SRT.j8 X H₁ vs ws/\Zq X.K X.mg H₁ F₁ us ws/\ws.length<64:=by
 unfold M8 at e
 split at e
 .rename_i hz
  split at e
  .rename_i zs e1
   cases e;have e2:=h.ints e1;have hl:zs.length<64:=by rw[h.length,e2,Z4]at hz;exact hz
   subst e2;exact⟨_,SRT.xy hl,R9 _,by rw[Z4,(SRT.V5 zs).length_eq];exact hl⟩
  .obtain⟨zs,e1,rfl⟩:=Yj.mp e;have e2:=h.strs e1;have hl:zs.length<64:=by rw[h.length,e2,Z4]at hz;exact hz
   subst e2;exact⟨_,SRT.xv hl,R8 _,by rw[Z4,(SRT.Z3 zs).length_eq];exact hl⟩
 .cases e
theorem Zq.heads:∀{ts:ZZ} {vs:ZQ} {hs:ZL},Zq K mg H F ts vs->Bi ts=some hs->ts.length=hs.length/\∀i,i<vs.length->∃b ws,vs.getD i .non=.ref b/\Yu K H b (.int (hs.getD i 0)::ws)
 | [],vs,hs,h,e=>by cases e;cases(show vs=[] from h);exact⟨rfl,fun i hi=>absurd hi (by simp)⟩
 | t::ts,vs,hs,h,e=>by
  obtain⟨v,r,rfl,q,w⟩:=h;unfold Bi at e
  split at e
  .rename_i e0;cases e0
  .rename_i i0 tr r' e0
   cases e0;obtain⟨Sw,e1,rfl⟩:=Yj.mp e;obtain⟨g1,g2⟩:=Zq.heads w e1;obtain⟨b,us,rfl,sq,_,ar⟩:=q;obtain⟨u1,r1,rfl,i1,ar⟩:=ar;cases(show u1=.int i0 from i1);refine⟨by simp[g1],fun i hi=>?_⟩;cases i with
   | zero=>exact⟨b,r1,rfl,sq⟩
   | succ i=>simpa using g2 i (by simpa using hi)
  .cases e
theorem Zq.pick{ts:ZZ}{vs:ZQ}(h:Zq K mg H F ts vs):∀(p:List Nat),(∀i∈p,i<ts.length)->Zq K mg H F (p.map fun i=>ts.getD i .non) (p.map fun i=>vs.getD i .non)
 | [],_=>rfl
 | i::p,g=>by
  have hi:=g i Vt;obtain⟨v,e1,h2⟩:=h.get (V0 hi);refine⟨_,_,rfl, ?_,Zq.pick h p fun j m=>g j (Vf _ m)⟩;show IsT K mg H F (ts.getD i .non) (vs.getD i .non);rw[List.getD_eq_getElem?_getD,List.getD_eq_getElem?_getD,e1,V0 hi];exact h2
end
section
variable{X:Cx}{XF:ZY}{Z:L2.St}{H F:Hp}{s:Shared}
def Shw(X:Cx)(s:Shared)(u:Value)(d:PyData):Prop:=∃as bs,Reads s.heap u d as/\ReadAtMost s.heap d.depth bs/\ReprK X.prog X.w bs s.heap d.depth u d.shown
def D1(X:Cx)(s:Shared)(us:ZM)(ds:List PyData):Prop:=∃as bs,ReadsAll s.heap us ds as/\ReadAtMost s.heap (PyData.depthAll ds) bs/\ReprAllK X.prog X.w bs s.heap (PyData.depthAll ds) us (PyData.shownAll ds)
theorem D1.cons{u:Value}{d:PyData}{us:ZM}{ds:List PyData}(h:Shw X s u d)(h':D1 X s us ds):D1 X s (u::us) (d::ds):=by
 obtain⟨a1,b1,r1,m1,k1⟩:=h;obtain⟨a2,b2,r2,m2,k2⟩:=h';refine⟨_,b1++b2,.cons r1 r2, ?_, ?_⟩
 .simp only[PyData.depthAll];exact(m1.mono (Nat.le_max_left _ _)).append (m2.mono (Nat.le_max_right _ _))
 .simp only[PyData.depthAll,PyData.shownAll];exact .cons ((k1.more fun b hb=>List.mem_append_left _ hb).level_le (Nat.le_max_left _ _)) (k2.more_le (fun b hb=>zc _ hb) (Nat.le_max_right _ _))
theorem D1.nil:D1 X s [] []:=⟨_,[],.nil,(fun _ h=>nomatch h),by simp only[PyData.shownAll];exact .nil⟩
theorem U8{u:Value}{d:PyData}(r:Reads s.heap u d [])(hs:d.showable=true)(hz:d.shown.length<=sizeLine):Shw X s u d:=by
 obtain⟨bs,m,k⟩:=ReprK.of_reads (prog:=X.prog) (w:=X.w) r hs (fun _ h=>nomatch h) hz;exact⟨[],bs,r,m,k⟩
theorem o8{a:Addr}{XM:ZM}{ds:List PyData}(h:IsTup s.heap a XM.toArray)(c:D1 X s XM ds):Shw X s (.ref a) (.tuple ds):=by
 obtain⟨as,bs,r1,m1,k1⟩:=c;obtain⟨o,h1,h2,n,h3⟩:=h;have r:Reads s.heap (.ref a) (.tuple ds) _:=.tuple h1 h2 h3 (by simpa using r1);have cu:a ∉ bs:=not_mem_of_deeper r (by simp only[PyData.depth];omega) m1;refine⟨_,a::bs,r,ReadAtMost.cons r (by simp only[PyData.depth];omega) m1, ?_⟩;simp only[PyData.depth,PyData.shown];exact ReprK.tuple h1 h2 h3 cu (by simpa using k1)
theorem o9{a:Addr}{XM:ZM}{ds:List PyData}(h:s.heap.IsList a XM.toArray)(c:D1 X s XM ds):Shw X s (.ref a) (.list ds):=by
 obtain⟨as,bs,r1,m1,k1⟩:=c;obtain⟨o,h1,h2,n,h3⟩:=h;have r:Reads s.heap (.ref a) (.list ds) _:=.list h1 h2 h3 (by simpa using r1);have cu:a ∉ bs:=not_mem_of_deeper r (by simp only[PyData.depth];omega) m1;refine⟨_,a::bs,r,ReadAtMost.cons r (by simp only[PyData.depth];omega) m1, ?_⟩;simp only[PyData.depth,PyData.shown];cases XM with
 | nil =>
  cases r1;simp only[PyData.shownAll,listText_nil];exact ReprK.listEmpty h1 h2 h3
 | cons x l=>exact ReprK.list h1 h2 h3 cu (by simpa using k1.length_eq) (fun i y e=>k1.item i y (by simpa using e))
def ShwE(X:Cx)(s:Shared)(es:List DictEntry)(dk:List (PyData×PyData)):Prop:=D1 X s (es.map (·.key)) (dk.map (·.1))/\D1 X s (es.map (·.val)) (dk.map (·.2))
theorem iq{a:Addr}{o:Obj}{es:Array DictEntry}{n:Nat}{dk:List (PyData×PyData)}(h1:s.heap.get? a=some o)(h2:o.cls=.type "dict")(h3:o.data=.dict es n)(hy:(a == sysModules)=false)(c:ShwE X s es.toList dk):Shw X s (.ref a) (.dict dk):=by
 obtain⟨⟨a1,b1,r1,m1,k1⟩,a2,b2,r2,m2,k2⟩:=c;have r:Reads s.heap (.ref a) (.dict dk) _:=.dict h1 h2 h3 r1 r2;have hb:ReadAtMost s.heap (PyData.depthKv dk) (b1++b2):=(m1.mono (PyData.depthAll_keys_le dk)).append (m2.mono (PyData.depthAll_vals_le dk));have cu:a ∉ b1++b2:=not_mem_of_deeper r (by simp only[PyData.depth];omega) hb;refine⟨_,a::(b1++b2),r,ReadAtMost.cons r (by simp only[PyData.depth];omega) hb, ?_⟩;simp only[PyData.depth,PyData.shown,PyData.shownKv_eq]
 exact ReprK.dict h1 h2 h3 hy cu (ReprEntriesK.of_two es.toList _ _
  (k1.more_le (fun b hb=>List.mem_append_left _ hb) (PyData.depthAll_keys_le dk)) (k2.more_le (fun b hb=>zc _ hb) (PyData.depthAll_vals_le dk)))
theorem iz{k:Key}{u:Value}(h:(Zg X.prog X.w).is k u=true)(hs:(I8 k).showable=true)(hz:(I8 k).shown.length<=sizeLine):Shw X s u (I8 k):=by
 rcases Zb (show G4 k u=true from h) with ⟨j,t,rfl,rfl⟩ | ⟨y,t,rfl,rfl⟩
 .exact U8 (.int _ _) hs hz
 .exact U8 (.str _ _) hs hz
end
section
variable{X:Cx}{XF:ZY}{Z:L2.St}{H F:Hp}{s:Shared}
mutual
theorem Zq1(I:Inv X XF Z H s)(fh:∀a o,F a=some o->H a=some o):∀(t:T) (v:V) (u:Value) (d:PyData),IsT X.K X.mg H F t v->RelV v u->toPy t=some d->d.showable=true->d.shown.length<=sizeLine->Shw X s u d
 | .non,v,u,d,h,r,e,hs,hz=>by cases e;cases(show v=_ from h);cases r;exact U8 .none hs hz
 | .bl b,v,u,d,h,r,e,hs,hz=>by cases e;cases(show v=_ from h);cases r;exact U8 (.bool b) hs hz
 | .int b,v,u,d,h,r,e,hs,hz=>by cases e;cases(show v=_ from h);obtain⟨t,rfl⟩:=r;exact U8 (.int b t) hs hz
 | .str b,v,u,d,h,r,e,hs,hz=>by cases e;cases(show v=_ from h);obtain⟨t,rfl⟩:=r;exact U8 (.str b t) hs hz
 | .tup ts,v,u,d,h,r,e,hs,hz=>by
  obtain⟨ds,e1,rfl⟩:=Yj.mp (show (Ud ts).map .tuple=some d by unfold toPy at e;exact e);obtain⟨a,vs,rfl,q,_,ar⟩:=h;cases r;obtain⟨XM,rv,tp,_⟩:=I.tuple q;have L6:(tupleText (PyData.shownAll ds)).length<=sizeLine:=by simpa only [PyData.shown] using hz
  exact o8 tp (C3 I fh ts vs XM ds ar rv e1 (by simpa [PyData.showable] using hs) fun t m=>U0 (tupleText_mem_le m) L6)
 | .lst ts,v,u,d,h,r,e,hs,hz=>by
  obtain⟨ds,e1,rfl⟩:=Yj.mp (show (Ud ts).map .list=some d by unfold toPy at e;exact e);obtain⟨a,vs,rfl,q,_,ar⟩:=h;cases r;have q':Rd H a (.lst vs):=q.elim (fun q=>.inl (fh _ _ q)) fun⟨o,q⟩=>.inr ⟨o,fh _ _ q⟩;obtain⟨XM,rv,pl,_⟩:=I.list (.inl q');have L6:(listText (PyData.shownAll ds)).length<=sizeLine:=by simpa only [PyData.shown] using hz
  exact o9 pl.isList (C3 I fh ts vs XM ds ar rv e1 (by simpa [PyData.showable] using hs) fun t m=>U0 (listText_mem_le m) L6)
 | .dct XB,v,u,d,h,r,e,hs,hz=>by
  obtain⟨dk,e1,rfl⟩:=Yj.mp (show (D6 XB).map .dict=some d by unfold toPy at e;exact e);obtain⟨a,ks,rfl,q,_,ar⟩:=h;cases r;have q':Rd H a (.dK ks):=q.elim (fun q=>.inl (fh _ _ q)) fun⟨o,q⟩=>.inr ⟨o,fh _ _ q⟩;obtain⟨_,hy,ws,kv,o,es,ep,h1,h2,h3,_,pr,_⟩:=q'.ok I.hok;have L6:(dictText (PyData.shownKv dk)).length<=sizeLine:=by simpa only [PyData.shown] using hz
  obtain⟨Xi,hs2⟩:=PyData.showableKv_split dk (by simpa [PyData.showable] using hs);exact iq h1 h2.1 h3 hy (kb I fh XB ks ws es.toList dk ar kv pr e1 Xi hs2 (fun t ht=>let ⟨p,hp,hl⟩:=PyData.shownKv_key_le dk t ht;U0 hl (U0 (dictText_mem_le hp) L6)) (fun t ht=>let ⟨p,hp,hl⟩:=PyData.shownKv_val_le dk t ht;U0 hl (U0 (dictText_mem_le hp) L6)))
 | .fn _,v,u,d,h,r,e,hs,hz=>by unfold toPy at e;cases e
theorem C3(I:Inv X XF Z H s)(fh:∀a o,F a=some o->H a=some o):∀(ts:ZZ) (vs:ZQ) (us:ZM) (ds:List PyData),Zq X.K X.mg H F ts vs->Zv vs us->Ud ts=some ds->PyData.showableAll ds=true->(∀t∈PyData.shownAll ds,t.length<=sizeLine)->D1 X s us ds
 | [],vs,us,ds,h,r,e,hs,hz=>by
  unfold Ud at e;cases e;cases(show vs=[] from h);cases r;exact D1.nil
 | t::ts,vs,us,ds,h,r,e,hs,hz=>by
  unfold Ud at e;obtain⟨d,e1,e⟩:=ZO.mp e;obtain⟨ds',e2,rfl⟩:=Yj.mp e;obtain⟨v,vr,rfl,i1,i2⟩:=h;cases r with | cons r1 r2 =>
  have Sw:d.showable=true/\PyData.showableAll ds'=true:=by simpa [PyData.showableAll] using hs
  exact D1.cons (Zq1 I fh t v _ d i1 r1 e1 Sw.1 (hz _ (by simp only[PyData.shownAll];exact Vt ..))) (C3 I fh ts vr _ ds' i2 r2 e2 Sw.2 fun t m=>hz t (by simp only[PyData.shownAll];exact Vf _ m))
theorem kb(I:Inv X XF Z H s)(fh:∀a o,F a=some o->H a=some o):∀(XB:ZX) (ks:List (Key×V)) (ws:List (Key×Value)) (es:List DictEntry) (dk:List (PyData×PyData)),Zt X.K X.mg H F XB ks->KV ks ws->Pairs (Zg X.prog X.w) es ws->D6 XB=some dk ->
  PyData.showableAll (dk.map (·.1))=true->PyData.showableAll (dk.map (·.2))=true->(∀t∈PyData.shownAll (dk.map (·.1)),t.length<=sizeLine)->(∀t∈PyData.shownAll (dk.map (·.2)),t.length<=sizeLine)->ShwE X s es dk
 | [],ks,ws,es,dk,h,r,p,e,_,_,_,_=>by
  unfold D6 at e;cases e;cases(show ks=[] from h);cases r;cases p;exact⟨D1.nil,D1.nil⟩
 | (k,t)::XB,ks,ws,es,dk,h,r,p,e,Xi,hs2,wj,hz2=>by
  unfold D6 at e;obtain⟨d,e1,e⟩:=ZO.mp e;obtain⟨dk',e2,rfl⟩:=Yj.mp e;obtain⟨⟨k2,v⟩,kr,rfl,⟨ek,i1⟩,i2⟩:=h;obtain rfl:k2=k:=ek;cases r with | cons r1 r2 =>
  obtain⟨ek,r1⟩:=r1;cases p with | cons p1 p2 p3 =>
  have ek:k2=_:=ek;rw[<-ek]at p1;rw[Gh]at Xi hs2 wj hz2;have hs1':(I8 k2).showable=true/\PyData.showableAll (dk'.map (·.1))=true:=by simpa [PyData.showableAll] using Xi
  have hs2':d.showable=true/\PyData.showableAll (dk'.map (·.2))=true:=by simpa [PyData.showableAll] using hs2
  obtain⟨c1,c2⟩:=kb I fh XB kr _ _ dk' i2 r2 p3 e2 hs1'.2 hs2'.2 (fun t m=>wj t (by simp only[PyData.shownAll];exact Vf _ m)) (fun t m=>hz2 t (by simp only[PyData.shownAll];exact Vf _ m));refine⟨D1.cons (iz p1 hs1'.1 (wj _ (by simp only[PyData.shownAll];exact Vt ..))) c1,D1.cons ?_ c2⟩;show Shw X s _ d;simp only[p2];exact Zq1 I fh t v _ d i1 r1 e1 hs2'.1 (hz2 _ (by simp only[PyData.shownAll];exact Vt ..))
end
end
section
variable{X:Cx}{XF:ZY}{Z:L2.St}{H F:Hp}{s:Shared}{Q:VK}{x:V}{u:Value}{t:T}
theorem gx{z:Str}(I:Inv X XF Z H s)(fh:∀a o,F a=some o->H a=some o)(un:X.A.units+150<cLine)(gd:X.A.guards=some [])(rx:RelV x u)(s1:Cf X.K X.mg H F t x)(e:rpT t=some z)(q:Q (.str z) H) :
  wpAny (model X.prog X.w) X.A (call (.builtin "repr") [u]) (EP X XF Z Q) X.xe s:=by
 unfold rpT at e;obtain⟨d,e1,e⟩:=ZO.mp e
 split at e
 .rename_i hh
  cases e;obtain⟨hs,hz,hd⟩:=hh;have fin:∀tk:Nat,EP X XF Z Q (.str d.shown s.toks) { s with toks:=tk }:=fun tk=>⟨.str _,H,I.tok _,⟨_,rfl⟩,q⟩;have Su:∀h' u tk,(∀b o,s.heap.get? b=some o->h'.get? b=some o)->∃x t,Value.str d.shown u=.str x t/\EP X XF Z Q (.str d.shown u) { s with heap:=h',toks:=tk }:=fun h' u tk k=>⟨_,u,rfl,.str _,H,I.kept k,⟨u,rfl⟩,q⟩;cases t with
  | non=>cases e1;cases(show x=_ from s1);cases rx;exact P.repr_of_none (fin _)
  | bl b=>cases e1;cases(show x=_ from s1);cases rx;simp only[PyData.shown]at fin;exact P.repr_of_bool (fin _)
  | int i =>
   cases e1;cases(show x=_ from s1);obtain⟨w,rfl⟩:=rx;simp only[PyData.shown]at fin;exact P.repr_of_int (by simpa [PyData.showable] using hs) (fin _)
  | str i =>
   cases e1;cases(show x=_ from s1);obtain⟨w,rfl⟩:=rx;simp only[PyData.shown]at fin hz;exact P.repr_of_str (fin _) hz
  | tup ts =>
   obtain⟨ds,e2,rfl⟩:=Yj.mp (show (Ud ts).map .tuple=some d by unfold toPy at e1;exact e1);obtain⟨a,vs,rfl,q1,_,ar⟩:=s1;cases rx;obtain⟨XM,rv,tp,_⟩:=I.tuple q1;have L6:(tupleText (PyData.shownAll ds)).length<=sizeLine:=by simpa only [PyData.shown] using hz
   have c:=C3 I fh ts vs XM ds ar rv e2 (by simpa [PyData.showable] using hs) fun t m=>U0 (tupleText_mem_le m) L6;obtain⟨as,bs,r1,m1,k1⟩:=c;obtain⟨o,h1,h2,n,h3⟩:=tp;have r:Reads s.heap (.ref a) (.tuple ds) _:=.tuple h1 h2 h3 (by simpa using r1);have cu:a ∉ bs:=not_mem_of_deeper r (by simp only[PyData.depth];omega) m1;simp only[PyData.depth]at hd;simp only[PyData.shown]at Su;exact call_repr_slot (by omega) ⟨o,h1,h2⟩ PySem.F.slot_tuple_repr (call_tuple_reprK h1 h2 h3 cu (by simpa using k1) (g:=[]) gd (fun b _=>Clear.nil b) (by show X.A.units+1+_<_;omega) (fun _ _ e=>e) (fun h' u tk k=>Su h' u tk k) L6)
  | lst ts =>
   obtain⟨ds,e2,rfl⟩:=Yj.mp (show (Ud ts).map .list=some d by unfold toPy at e1;exact e1);obtain⟨a,vs,rfl,q1,_,ar⟩:=s1;cases rx;obtain⟨XM,rv,pl,_⟩:=I.list (.inl q1);have L6:(listText (PyData.shownAll ds)).length<=sizeLine:=by simpa only [PyData.shown] using hz
   have c:=C3 I fh ts vs XM ds ar rv e2 (by simpa [PyData.showable] using hs) fun t m=>U0 (listText_mem_le m) L6;obtain⟨as,bs,r1,m1,k1⟩:=c;obtain⟨o,h1,h2,n,h3⟩:=pl.isList;have r:Reads s.heap (.ref a) (.list ds) _:=.list h1 h2 h3 (by simpa using r1);have cu:a ∉ bs:=not_mem_of_deeper r (by simp only[PyData.depth];omega) m1;simp only[PyData.depth]at hd;simp only[PyData.shown]at Su;refine call_repr_slot (by omega) ⟨o,h1,h2⟩ PySem.F.slot_list_repr.toG ?_;cases XM with
   | nil =>
    cases r1;simp only[PyData.shownAll,listText_nil]at Su;exact call_list_repr_empty ⟨o,h1,h2⟩ h1 h3 (Su s.heap _ _ fun _ _ e=>e)
   | cons y l=>exact call_list_reprK h1 h2 h3 cu (by simpa using k1.length_eq) (fun i y e=>k1.item i y (by simpa using e)) (g:=[]) gd (fun b _=>Clear.nil b) (by show X.A.units+1+_<_;omega) (fun _ _ e=>e) (fun h' u tk k=>Su h' u tk k) L6
  | dct XB =>
   obtain⟨dk,e2,rfl⟩:=Yj.mp (show (D6 XB).map .dict=some d by unfold toPy at e1;exact e1);obtain⟨a,ks,rfl,q1,_,ar⟩:=s1;cases rx;obtain⟨_,hy,ws,kv,o,es,ep,h1,h2,h3,_,pr,_⟩:=q1.ok I.hok;have L6:(dictText (PyData.shownKv dk)).length<=sizeLine:=by simpa only [PyData.shown] using hz
   obtain⟨Xi,hs2⟩:=PyData.showableKv_split dk (by simpa [PyData.showable] using hs);have c:=kb I fh XB ks ws es.toList dk ar kv pr e2 Xi hs2 (fun t ht=>let ⟨p,hp,hl⟩:=PyData.shownKv_key_le dk t ht;U0 hl (U0 (dictText_mem_le hp) L6)) (fun t ht=>let ⟨p,hp,hl⟩:=PyData.shownKv_val_le dk t ht;U0 hl (U0 (dictText_mem_le hp) L6));obtain⟨⟨a1,b1,r1,m1,k1⟩,a2,b2,r2,m2,k2⟩:=c;have r:Reads s.heap (.ref a) (.dict dk) _:=.dict h1 h2.1 h3 r1 r2;have hb:ReadAtMost s.heap (PyData.depthKv dk) (b1++b2):=(m1.mono (PyData.depthAll_keys_le dk)).append (m2.mono (PyData.depthAll_vals_le dk));have cu:a ∉ b1++b2:=not_mem_of_deeper r (by simp only[PyData.depth];omega) hb;simp only[PyData.depth]at hd;simp only[PyData.shown,PyData.shownKv_eq]at Su
   exact call_repr_slot (by omega) ⟨o,h1,h2.1⟩ PySem.F.slot_dict_repr (call_dict_reprK h1 h2.1 h3 hy cu (ReprEntriesK.of_two es.toList _ _
    (k1.more_le (fun b hb=>List.mem_append_left _ hb) (PyData.depthAll_keys_le dk)) (k2.more_le (fun b hb=>zc _ hb) (PyData.depthAll_vals_le dk))) (g:=[]) gd (fun b _=>Clear.nil b) (by show X.A.units+1+_<_;omega) (fun _ _ e=>e) (fun h' u tk k=>Su h' u tk k) (by rw[<-PyData.shownKv_eq];exact L6))
  | fn _=>unfold toPy at e1;cases e1
 .cases e
end
theorem Zqc{Z:Type}{xs:List Z}{i:Int}{x:Z}(h:Jd xs i=some x):∃j,Qr xs.length i=some j/\xs[j]?=some x:=by
 unfold Jd at h;cases e:Qr xs.length i with
 | none=>rw[e]at h;cases h
 | some j=>rw[e]at h;exact⟨j,rfl,h⟩
theorem Zq.at{K:W.Frag}{mg:ZV}{H F:Hp}{ts:ZZ}{vs:ZQ}{i:Int}{t:T}(h:Zq K mg H F ts vs)(e:Jd ts i=some t):∃v,Jd vs i=some v/\IsT K mg H F t v:=by
 obtain⟨j,e1,e2⟩:=Zqc e;obtain⟨v,e3,h2⟩:=h.get e2;exact⟨v,by unfold Jd;rw[<-h.length,e1];exact e3,h2⟩
theorem Zq.cut{K:W.Frag}{mg:ZV}{H F:Hp}{ts:ZZ}{vs:ZQ}(h:Zq K mg H F ts vs)(lo hi:ZR):Zq K mg H F (Zn ts lo hi) (Rp vs lo hi):=by
 unfold Zn Rp;rw[h.length];exact(h.drop _).take _
theorem Zq.rev{K:W.Frag}{mg:ZV}{H F:Hp}:∀{ts:ZZ} {vs:ZQ},Zq K mg H F ts vs->Zq K mg H F ts.reverse vs.reverse
 | [],vs,h=>by cases(show vs=[] from h);rfl
 | t::ts,vs,h=>by
  obtain⟨v,r,rfl,q,w⟩:=h;rw[List.reverse_cons,List.reverse_cons];exact(Zq.rev w).append (Zq.one q)
theorem Zq.bools{K:W.Frag}{mg:ZV}{H F:Hp}:∀{ts:ZZ} {vs:ZQ} {bs:List Bool},Zq K mg H F ts vs->allB ts=some bs->vs=bs.map V.bl
 | [],vs,bs,h,e=>by cases e;exact h
 | t::ts,vs,bs,h,e=>by
  obtain⟨v,r,rfl,q,w⟩:=h;cases t with
  | bl b =>
   obtain⟨bs',e1,rfl⟩:=Yj.mp (show (allB ts).map (b::·)=some bs from e);rw[Zq.bools w e1];cases(show v=.bl b from q)
   rfl
  | _=>cases e
section
variable{X:Cx}{XF:ZY}{Z σ':L2.St}{H F₁ G:Hp}{s:Shared}{Q:VK}{x y:V}{v u:Value}{t t':T}{p:P}{r:Sl}
theorem ix_run{z:T}{value slice:Expr}(I:Inv X XF σ' H s)(un:X.A.units+150<cLine)(rx:RelV x v)(ry:RelV y u)(s1:Cf X.K X.mg H F₁ t x)(s2:Cf X.K X.mg H F₁ t' y)(e:O7 t t'=some z)(q:∀w,IsT X.K X.mg H F₁ z w->Q w H)
  (hs:subscripted slice false v u=operate [v,u] (getItem v u)):wpAny (model X.prog X.w) X.A (subscriptTail value slice v u) (EP X XF σ' Q) X.xe s:=by
 unfold O7 at e
 split at e
 .cases(show y=_ from s2);obtain⟨a,vs,rfl,h1,z1,ar⟩:=s1;obtain⟨w,e1,e2⟩:=ar.at e;exact ix_tup value slice XF s σ' H _ _ v u Q I rx ry ⟨a,vs,_,w,rfl,rfl,h1,e1,q w e2⟩ hs
 .cases(show y=_ from s2);obtain⟨a,vs,rfl,h1,z1,ar⟩:=s1;obtain⟨w,e1,e2⟩:=ar.at e;exact Zxj value slice XF s σ' H _ _ v u Q I rx ry ⟨a,vs,_,w,rfl,rfl,.inl h1,e1,q w e2⟩ hs
 .split at e
  .rename_i hz
   cases(show x=_ from s1);cases(show y=_ from s2);obtain⟨c,e1,rfl⟩:=Yj.mp e;exact ix_str value slice XF s σ' H _ _ v u Q I rx ry ⟨_,_,c,rfl,rfl,hz,e1,q _ rfl⟩ hs
  .cases e
 .obtain⟨a,ks,rfl,h1,z1,ar⟩:=s1;obtain⟨k,e1,e2⟩:=ZO.mp e;cases Qc e1 s2;obtain⟨w,h2,h3⟩:=(Zt.val k ar).1 z e2;cases rx;have g:W7 H a (kV k) (some w):=.inl ⟨ks,k,h1,rfl,h2.symm⟩;exact tail_any (S8 I g) slot_dict_getitem.lookup (jn (by omega) I g ry fun w' s' I' Kh=>⟨w,H,I',Kh,q w h3⟩) hs
 .cases e
theorem o6{lo hi:ZR}{vl vu:Value}{sl:Addr}{z:Str}{tk:Tok}(I:Inv X XF σ' H s)(hs:s.heap.IsSliceOf sl vl vu .none)(pl:IsPart vl lo)(pu:IsPart vu hi)(hz:z.length<=sizeLine)(q:Q (.str (Txt.slice z lo hi)) H) :
  ∃T id,typeLookup (.type T) "__getitem__" = pure (some (.builtin id))/\s.TypeIs (.str z tk) T/\wpAny (model X.prog X.w) X.A (getItem (.str z tk) (.ref sl)) (EP X XF σ' Q) X.xe s:=by
 have q':∀(t':Tok) (k:Nat),EP X XF σ' Q (.str (Txt.slice z lo hi) t') { s with toks:=k }:=fun t' k=>⟨.str _,H,I.tok _,⟨t',rfl⟩,q⟩;refine⟨"str",_,PySem.F.slot_str_getitem.lookup,typeIs_str _ _ _, ?_⟩;cases pl with
 | none=>cases pu with
  | none=>exact wpAny_getItem_str_slice (l:=none) (u:=none) (st:=none) hs rfl (post_val_or_str ⟨U0 (Txt.slice_le z _ _) hz,fun t' k=>q' t' k⟩)
  | int j uj=>exact wpAny_getItem_str_slice (l:=none) (u:=some (j,uj)) (st:=none) hs rfl (post_val_or_str ⟨U0 (Txt.slice_le z _ _) hz,fun t' k=>q' t' k⟩)
 | int i ui=>cases pu with
  | none=>exact wpAny_getItem_str_slice (l:=some (i,ui)) (u:=none) (st:=none) hs rfl (post_val_or_str ⟨U0 (Txt.slice_le z _ _) hz,fun t' k=>q' t' k⟩)
  | int j uj=>exact wpAny_getItem_str_slice (l:=some (i,ui)) (u:=some (j,uj)) (st:=none) hs rfl (post_val_or_str ⟨U0 (Txt.slice_le z _ _) hz,fun t' k=>q' t' k⟩)
theorem kg{lo hi:ZR}{vl vu:Value}{sl:Addr}(I:Inv X XF σ' H s)(rel:Rel X.K X.mg F₁ G p Z H)(rx:RelV x v)(s1:Cf X.K X.mg H F₁ t x)(hs:s.heap.IsSliceOf sl vl vu .none)(pl:IsPart vl lo)(pu:IsPart vu hi)(e:slT t lo hi=some r)(q:Fin X F₁ G p Z H r Q) :
  ∃T id,typeLookup (.type T) "__getitem__" = pure (some (.builtin id))/\s.TypeIs v T/\wpAny (model X.prog X.w) X.A (getItem v (.ref sl)) (EP X XF σ' Q) X.xe s:=by
 unfold slT at e
 split at e
 .cases e;obtain⟨a,vs,rfl,h1,z1,ar⟩:=s1;exact o5 XF s σ' H _ v vl vu lo hi sl Q I rx hs pl pu ⟨a,vs,rfl,h1,fun l H' sm hq=>q.f rel sm ⟨l,_,rfl,hq,U0 (Uo _ _ _) z1,Zq.up sm.up (Le.refl _) _ _ (ar.cut lo hi)⟩⟩
 .cases e;obtain⟨a,vs,rfl,h1,z1,ar⟩:=s1;exact o7 XF s σ' H _ v vl vu lo hi sl Q I rx hs pl pu ⟨a,vs,rfl,.inl h1,fun l hl=>q.l rel hl (U0 (Uo _ _ _) z1) (ar.cut lo hi)⟩
 .split at e
  .rename_i hz
   cases e;cases(show x=_ from s1);obtain⟨_,rfl⟩:=rx;exact o6 I hs pl pu hz (q.h rel rfl)
  .cases e
 .cases e
noncomputable def btV:Pr->Option (Str×Value)
 | .len=>some ("len",.builtin "len")
 | .all=>some ("all",.builtin "all")
 | .any=>some ("any",.builtin "any")
 | .list=>some ("list",.type "list")
 | .tuple=>some ("tuple",.type "tuple")
 | .min=>some ("min",.builtin "min")
 | .max=>some ("max",.builtin "max")
 | .int=>some ("int",.type "int")
 | .abs=>some ("abs",.builtin "abs")
 | .dict=>some ("dict",.type "dict")
 | .sorted=>some ("sorted",.builtin "sorted")
 | .repr=>some ("repr",.builtin "repr")
 | _=>none
theorem Yx{Z U:Type}{R:Z->U->Prop}{a:Z}{bs:List U}(h:Paired R [a] bs):∃b,bs=[b]/\R a b:=by
 cases h with
 | cons h t=>cases t;exact⟨_,rfl,h⟩
theorem Xv{Z U:Type}{R:Z->U->Prop}{a a':Z}{bs:List U}(h:Paired R [a,a'] bs):∃b b',bs=[b,b']/\R a b/\R a' b':=by
 cases h with
 | cons h t=>obtain⟨b,rfl,h2⟩:=Yx t;exact⟨_,_,rfl,h,h2⟩
theorem bt_run{bq:Pr}{nm:Str}{fv:Value}{ts:ZZ}{xs:ZQ}{us:ZM}(hb:btV bq=some (nm,fv))(hc:X.calm=true)(un:X.A.units+150<cLine)(gd:X.A.guards=some [])(I:Inv X XF σ' H s)(rel:Rel X.K X.mg F₁ G p Z H)(rs:Zv xs us)(se:Paired (Cf X.K X.mg H F₁) ts xs)(e:K3 bq ts=some r)(q:Fin X F₁ G p Z H r Q) :
  wpAny (model X.prog X.w) X.A (call fv us) (EP X XF σ' Q) X.xe s:=by
 unfold K3 at e
 split at e<;>first | cases hb | skip
 .unfold pLen at e
  split at e
  rotate_left
  .cases e
  obtain⟨n,e1,rfl⟩:=Yj.mp e;obtain⟨x,rfl,s1⟩:=Yx se;unfold Zz7 at e1
  split at e1
  .cases e1;obtain⟨a,vs,rfl,h1,z1,ar⟩:=s1;exact N4 XF s σ' H _ us Q I rs ⟨a,vs,rfl,.inr h1,q.h rel (by rw[ar.length];rfl)⟩
  .cases e1;obtain⟨a,vs,rfl,h1,z1,ar⟩:=s1;exact N4 XF s σ' H _ us Q I rs ⟨a,vs,rfl,.inl (.inl h1),q.h rel (by rw[ar.length];rfl)⟩
  .cases e1;obtain⟨a,vs,rfl,h1,z1,ar⟩:=s1;obtain⟨u,rfl,rx⟩:=vals1 rs;cases rx;exact d_len I h1 fun t s' I'=>⟨.int vs.length,H,I',⟨t,rfl⟩,q.h rel (by rw[ar.length];rfl)⟩
  .split at e1
   .rename_i hz
    cases e1;cases(show x=_ from s1);exact rh XF s σ' H _ us Q I rs ⟨_,_,rfl,⟨hz,rfl⟩,q.h rel rfl⟩
   .cases e1
  .cases e1
 .unfold pAll at e
  split at e
  rotate_left
  .cases e
  obtain⟨bs,e1,rfl⟩:=Yj.mp e;obtain⟨x,rfl,a,vs,rfl,h1,z1,ar⟩:=Yx se;exact ja hc XF s σ' H _ us Q I rs ⟨a,bs,rfl,.inl (by rw[<-ar.bools e1];exact h1),q.h rel rfl⟩
 .unfold Zjq at e
  split at e
  .cases e;obtain⟨x,rfl,a,vs,rfl,h1,z1,ar⟩:=Yx se;exact N0 XF s σ' H _ us Q I rs ⟨a,vs,rfl,.inl (.inl h1),fun l hl=>q.l rel hl z1 ar⟩
  .cases e;obtain⟨x,rfl,a,vs,rfl,h1,z1,ar⟩:=Yx se;exact N0 XF s σ' H _ us Q I rs ⟨a,vs,rfl,.inr h1,fun l hl=>q.l rel hl z1 ar⟩
  .cases e;obtain⟨x,rfl,a,ks,rfl,h1,z1,ar⟩:=Yx se;exact SRT.Hh hc XF s σ' H _ us Q I rs ⟨a,ks,rfl,h1,fun l hl=>q.l rel hl (by rw[Z4];exact z1) ar.keyT⟩
  .cases e
 .unfold Xk at e
  split at e
  .obtain⟨ws,e1,rfl⟩:=Yj.mp e;obtain⟨x,rfl,a,vs,rfl,h1,z1,ar⟩:=Yx se;unfold xk at e1
   split at e1
   .rename_i hs eh
    split at e1
    .rename_i hn
     cases e1;obtain⟨g1,g2⟩:=ar.heads eh;have vl:=ar.length;by_cases h2:vs.length<2
     .have ew:(SRT.C0 (hs.zip _)).map (·.2)=_:=SRT.ya (d:=T.non) g1 (by omega);rw[ew]at q;exact SRT.Gv XF s σ' H _ us Q I rs ⟨a,vs,vs,rfl,.inl (.inl h1),SRT.Kc h2,fun l hl=>q.l rel hl z1 ar⟩
     .refine SRT.Q7 XF s σ' H _ us Q I rs ⟨a,vs,hs,rfl,.inl h1,by omega,g2,hn.1,by omega,by omega,fun l p hl op=>?_⟩;rw[<-SRT.m9 (d:=T.non) g1 op]at q;refine q.l rel hl ?_ (ar.pick _ fun i m=>by have:=List.mem_range.mp (op.1.mem_iff.mp m);omega);rw[Z4,op.1.length_eq,XJ];have:=sizeLine_eq;omega
    .cases e1
   .obtain⟨ys,k1,k2,k3⟩:=Kt ar e1;exact SRT.Gv XF s σ' H _ us Q I rs ⟨a,vs,ys,rfl,.inl (.inl h1),k1,fun l hl=>q.l rel hl (by have:=sizeLine_eq;omega) k2⟩
  .obtain⟨ws,e1,rfl⟩:=Yj.mp e;obtain⟨x,rfl,a,vs,rfl,h1,z1,ar⟩:=Yx se;obtain⟨ys,k1,k2,k3⟩:=Kt ar e1;exact SRT.Gv XF s σ' H _ us Q I rs ⟨a,vs,ys,rfl,.inr h1,k1,fun l hl=>q.l rel hl (by have:=sizeLine_eq;omega) k2⟩
  .obtain⟨ws,e1,rfl⟩:=Yj.mp e;obtain⟨x,rfl,a,ks,rfl,h1,z1,ar⟩:=Yx se;obtain⟨ys,k1,k2,k3⟩:=Kt ar.keyT e1;exact SRT.Q9 hc XF s σ' H _ us Q I rs ⟨a,ks,ys,rfl,h1,k1,fun l hl=>q.l rel hl (by have:=sizeLine_eq;omega) k2⟩
  .cases e
 .unfold m7 at e
  split at e
  .cases e;obtain⟨x,rfl,a,vs,rfl,h1,z1,ar⟩:=Yx se;exact G6 XF s σ' H _ us Q I rs ⟨a,vs,rfl,.inl (.inl h1),fun l H' sm hq=>q.f rel sm ⟨l,vs,rfl,hq,z1,Zq.up sm.up (Le.refl _) _ _ ar⟩⟩
  .cases e;obtain⟨x,rfl,a,vs,rfl,h1,z1,ar⟩:=Yx se;exact G6 XF s σ' H _ us Q I rs ⟨a,vs,rfl,.inr h1,fun l H' sm hq=>q.f rel sm ⟨l,vs,rfl,hq,z1,Zq.up sm.up (Le.refl _) _ _ ar⟩⟩
  .cases e
 .unfold pMin at e
  split at e
  rotate_left
  .cases e
  cases e;obtain⟨x,y,rfl,s1,s2⟩:=Xv se;cases(show x=_ from s1);cases(show y=_ from s2);exact jh hc XF s σ' H _ us Q I rs ⟨_,_,rfl,q.h rel rfl⟩
 .unfold pMax at e
  split at e
  rotate_left
  .cases e
  cases e;obtain⟨x,y,rfl,s1,s2⟩:=Xv se;cases(show x=_ from s1);cases(show y=_ from s2);exact ju hc XF s σ' H _ us Q I rs ⟨_,_,rfl,q.h rel rfl⟩
 .unfold pInt at e
  split at e
  .cases e;obtain⟨x,rfl,s1⟩:=Yx se;cases(show x=_ from s1);exact Fj XF s σ' H _ us Q I rs (.inl ⟨_,rfl,q.h rel rfl⟩)
  .cases e;obtain⟨x,rfl,s1⟩:=Yx se;cases(show x=_ from s1);exact Fj XF s σ' H _ us Q I rs (.inr ⟨_,rfl,q.h rel rfl⟩)
  .cases e
 .unfold Zjj at e
  split at e
  .cases e;obtain⟨x,rfl,a,ks,rfl,h1,z1,ar⟩:=Yx se;exact Eg XF s σ' H _ us Q I rs ⟨a,ks,rfl,h1,fun l hl=>let ⟨r1,r2⟩:=rel.newD hl z1 ar;q _ _ _ (Le.refl _) (Zd.lay hl).up r1 r2⟩
  .obtain⟨XB,e1,rfl⟩:=Yj.mp e;obtain⟨x,rfl,a,vs,rfl,h1,z1,ar⟩:=Yx se;obtain⟨ks,k1,k2,k3⟩:=ar.pairs e1;refine T8 hc XF s σ' H _ us Q I rs ⟨a,vs,ks,rfl,.inl h1,k2,k3,fun l hl=>?_⟩
   have kl:(L7 ks).length<=sizeLine:=by
    have:=B0 ks [];unfold L7;simp only[List.length_nil,Nat.zero_add]at this;omega
   obtain⟨r1,r2⟩:=rel.newD hl kl (Zt.fold k1 (show Zt X.K X.mg H F₁ [] [] from rfl));exact q _ _ _ (Le.refl _) (Zd.lay hl).up r1 r2
  .cases e
 .unfold Zjx at e
  split at e
  rotate_left
  .cases e
  obtain⟨z,e1,rfl⟩:=Yj.mp e;obtain⟨x,rfl,s1⟩:=Yx se;obtain⟨u,rfl,rx⟩:=vals1 rs;exact gx I rel.b.f un gd rx s1 e1 (q.h rel rfl)
 .cases e
end
noncomputable def kdS:Kd->String
 | .int => "int"
 | .bool => "bool"
 | .str => "str"
 | .tuple => "tuple"
 | .list => "list"
 | .dict => "dict"
section
variable{X:Cx}{XF:ZY}{Z σ':L2.St}{H F₁ G:Hp}{s:Shared}{Q:VK}{x y:V}{v u:Value}{t t':T}{p:P}{r:Sl}
theorem Zxk{n:Kd}{b:Bool}(I:Inv X XF σ' H s)(rx:RelV x v)(s1:Cf X.K X.mg H F₁ t x)(e:isiT n t=some b)(q:Q (.bl b) H):wpAny (model X.prog X.w) X.A (call (.builtin "isinstance") [v,.type (kdS n)]) (EP X XF σ' Q) X.xe s:=by
 have fin:∀tk,EP X XF σ' Q (.bool b) { s with toks:=tk }:=fun tk=>⟨.bl _,H,I.tok _,rfl,q⟩;cases t with
 | non=>cases(show x=_ from s1);exact V6 I rx .non (by cases n<;>cases e<;>rfl) fin
 | bl k=>cases(show x=_ from s1);exact V6 I rx (.bl k) (by cases n<;>cases e<;>rfl) fin
 | int k=>cases(show x=_ from s1);exact V6 I rx (.int k) (by cases n<;>cases e<;>rfl) fin
 | str k=>cases(show x=_ from s1);exact V6 I rx (.str k) (by cases n<;>cases e<;>rfl) fin
 | tup ts =>
  obtain⟨a,vs,rfl,hq,_⟩:=s1;cases rx;exact Zxy I hq (by cases n<;>cases e<;>rfl) fin
 | lst ts =>
  obtain⟨a,vs,rfl,hq | ⟨o,hq⟩,_⟩:=s1
  .exact V6 I rx (.lst hq) (by cases n<;>cases e<;>rfl) fin
  .exact V6 I rx (.frz hq) (by cases n<;>cases e<;>rfl) fin
 | dct ts =>
  obtain⟨a,ks,rfl,hq,_⟩:=s1;cases rx;obtain⟨_,_,vs,_,o,es,ep,h1,h2,_⟩:=hq.ok I.hok;exact W.kia_one W.kitx_dict I.kIn ⟨o,h1,h2.1⟩ (by cases n<;>cases e<;>rfl) (fun z=>nomatch z) fin
 | fn _=>cases n<;>cases e
def rO(X:Cx)(f:Value->Value->Sem Value):R2:=fun x y H Q=>∀XF s Z v u,Inv X XF Z H s->RelV x v->RelV y u->wpAny (model X.prog X.w) X.A (f v u) (EP X XF Z Q) X.xe s
theorem opr{f:Value->Value->Sem Value}:Jb X f (rO X f):=fun XF s Z _ _ _ v u _ I rx ry h=>h XF s Z v u I rx ry
def rC(X:Cx)(f:Value):ZQ->Hp->VK->Prop:=fun xs H Q=>∀XF s Z us,Inv X XF Z H s->Zv xs us->wpAny (model X.prog X.w) X.A (call f us) (EP X XF Z Q) X.xe s
theorem Ek{f:Value}:Ye X f (rC X f):=fun XF s Z _ _ us _ I rs h=>h XF s Z us I rs
def rX(X:Cx):R2:=fun x y H Q=>∀value slice XF s Z v u,Inv X XF Z H s->RelV x v->RelV y u->subscripted slice false v u=operate [v,u] (getItem v u)->wpAny (model X.prog X.w) X.A (subscriptTail value slice v u) (EP X XF Z Q) X.xe s
theorem ixr:IxR X (rX X):=fun value slice XF s Z _ _ _ v u _ I rx ry h hs=>h value slice XF s Z v u I rx ry hs
def rL(X:Cx):V->ZR->ZR->Hp->VK->Prop:=fun x lo hi H Q=>∀XF s Z v vl vu sl,Inv X XF Z H s->RelV x v->s.heap.IsSliceOf sl vl vu .none->IsPart vl lo->IsPart vu hi ->
 ∃T id,typeLookup (.type T) "__getitem__" = pure (some (.builtin id))/\s.TypeIs v T/\wpAny (model X.prog X.w) X.A (getItem v (.ref sl)) (EP X XF Z Q) X.xe s
theorem slr:SlR X (rL X):=fun XF s Z _ _ v vl vu _ _ sl _ I rx hs pl pu h=>h XF s Z v vl vu sl I rx hs pl pu
theorem inl_of{us:List Key}{zs:ZL}(h:∀x,x∈us->x∈zs.map Sum.inl):∃z6:ZL,us=z6.map Sum.inl:=by
 induction us with
 | nil=>exact⟨[],rfl⟩
 | cons k r ih =>
  obtain⟨r',rfl⟩:=ih fun x m=>h x (Vf _ m);obtain⟨i,_,rfl⟩:=Gr.mp (h k Vt);exact⟨i::r',rfl⟩
theorem inr_of{us:List Key}{zs:ZD}(h:∀x,x∈us->x∈zs.map Sum.inr):∃z6:ZD,us=z6.map Sum.inr:=by
 induction us with
 | nil=>exact⟨[],rfl⟩
 | cons k r ih =>
  obtain⟨r',rfl⟩:=ih fun x m=>h x (Vf _ m);obtain⟨i,_,rfl⟩:=Gr.mp (h k Vt);exact⟨i::r',rfl⟩
theorem Ow{ts us:ZZ}{a:Addr}{vs:ZQ}(hc:X.calm=true)(h1:Vi X.K H a vs\/Yu X.K H a vs)(ar:Zq X.K X.mg H F₁ ts vs)(rel:Rel X.K X.mg F₁ G p Z H)(e:Oj ts=some us)(q:Fin X F₁ G p Z H (.o (.lst us)) Q) :
  rC X (.type "set") [.ref a] H fun v H1=>rC X (.builtin "sorted") [v] H1 Q:=by
 intro XF s σ' ws I rs;unfold Oj at e
 split at e
 .rename_i hz
  split at e
  .rename_i zs e1
   cases e;have e2:=ar.ints e1;have hl:zs.length<64:=by rw[ar.length,e2,Z4]at hz;exact hz
   subst e2;have ek:zs.map V.int=(zs.map (Sum.inl:Int->Key)).map kV:=by rw[List.map_map];rfl
   rw[ek]at h1;refine Fq hc XF s σ' H _ ws _ I rs ⟨a,zs.map Sum.inl,rfl,h1,by rw[Z4];unfold scanBound;omega,fun l us hl' nd mem len=>?_⟩;obtain⟨z6,rfl⟩:=inl_of fun x m=>(mem x).mp m;have nd':z6.Nodup:=(List.pairwise_map.mp nd).imp fun h z=>h (by rw[z])
   have mem':∀x,x∈z6↔x∈zs:=fun x=>by
    have:=mem (.inl x);rw[Gr,Gr]at this;exact⟨fun m=>let ⟨y,h,e⟩:=this.mp ⟨x,m,rfl⟩;by cases e;exact h,fun m=>let ⟨y,h,e⟩:=this.mpr ⟨x,m,rfl⟩;by cases e;exact h⟩
   rw[Z4,Z4]at len;intro XF s σ' ws I rs;refine Pz hc XF s σ' _ _ ws _ I rs ⟨l,z6,rfl,Zw,by omega,fun l2 ns h2 pm pw=>?_⟩;have en:ns=SRT.Bb (SRT.Jm zs):=SRT.A9 (pm.trans (SRT.Rw nd' mem')) pw;subst en;have q':Fin X F₁ G p Z (upd H l (Wq X.prog X.w l (z6.map Sum.inl))) (.o (.lst ((SRT.Bb (SRT.Jm zs)).map T.int))) Q:=fun F3 H3 v l3 u3=>q F3 H3 v l3 ((Zd.lay hl').up.trans u3);refine q'.l (rel.same (Zd.lay hl')) h2 ?_ (R9 _);rw[Z4,(SRT.V5 _).length_eq];have:=SRT.Nk (l:=zs);have:=sizeLine_eq;omega
  .obtain⟨zs,e1,rfl⟩:=Yj.mp e;have e2:=ar.strs e1;have hl:zs.length<64:=by rw[ar.length,e2,Z4]at hz;exact hz
   subst e2;have ek:zs.map V.str=(zs.map (Sum.inr:Str->Key)).map kV:=by rw[List.map_map];rfl
   rw[ek]at h1;refine Fq hc XF s σ' H _ ws _ I rs ⟨a,zs.map Sum.inr,rfl,h1,by rw[Z4];unfold scanBound;omega,fun l us hl' nd mem len=>?_⟩;obtain⟨z6,rfl⟩:=inr_of fun x m=>(mem x).mp m;have nd':z6.Nodup:=(List.pairwise_map.mp nd).imp fun h z=>h (by rw[z])
   have mem':∀x,x∈z6↔x∈zs:=fun x=>by
    have:=mem (.inr x);rw[Gr,Gr]at this;exact⟨fun m=>let ⟨y,h,e⟩:=this.mp ⟨x,m,rfl⟩;by cases e;exact h,fun m=>let ⟨y,h,e⟩:=this.mpr ⟨x,m,rfl⟩;by cases e;exact h⟩
   rw[Z4,Z4]at len;intro XF s σ' ws I rs;refine Q8 hc XF s σ' _ _ ws _ I rs ⟨l,z6,rfl,Zw,by omega,fun l2 ns h2 pm pw=>?_⟩;have en:ns=SRT.Yq (SRT.Jm zs):=SRT.A8 (pm.trans (SRT.Rw nd' mem')) pw;subst en;have q':Fin X F₁ G p Z (upd H l (Wq X.prog X.w l (z6.map Sum.inr))) (.o (.lst ((SRT.Yq (SRT.Jm zs)).map T.str))) Q:=fun F3 H3 v l3 u3=>q F3 H3 v l3 ((Zd.lay hl').up.trans u3);refine q'.l (rel.same (Zd.lay hl')) h2 ?_ (R8 _);rw[Z4,(SRT.Z3 _).length_eq];have:=SRT.Nk (l:=zs);have:=sizeLine_eq;omega
 .cases e
end
noncomputable def vis(sc:ZK)(x:Str):Bool:=match sc.lookup x with
 | some .local=>true
 | some .cell=>true
 | some .free=>true
 | _=>false
noncomputable def Wy(sc:ZK)(x:Str):Bool:=sc.lookup x == some .globalImplicit && !(x == ("__debug__" : Str))
noncomputable def U9(N:ZD)(sc:ZK)(i:Nat)(x:Str):Bool:=N[i]? == some x && vis sc x && !(x == ("__debug__" : Str)) && !(x == ("__classdict__" : Str))
def Uv:Expr->Bool
 | .Slice _ _ _ _=>false
 | _=>true
inductive Shp where
 | name(y:Str) | bin(a:Expr)(op:Operator)(b:Expr) | cmp(a:Expr)(ops:List CmpOp)(bs:ZC) | un(op:UnaryOp)(a:Expr) | sub(a b:Expr) | dct(ks:List (Option Expr))(vs:ZC)
 | callN (f:Str) (xs:ZC) | callA (o:Expr) (m:Str) (ap:Pos) (xs:ZC) (cp:Pos) | tup (xs:ZC) | lst (xs:ZC) | boo (o:BoolOp) (xs:ZC) (p:Pos) | ife (c a b:Expr) | lc (e:Expr) (g:List Comprehension) (s:Scope) | slc (l h s:Option Expr) | non
noncomputable def shpC:Expr->ZC->List Keyword->Pos->Shp
 | .Name f _,xs,[],_=>.callN f xs
 | .Attribute o m ap,xs,[],cp=>.callA o m ap xs cp
 | _,_,_,_=>.non
noncomputable def Lg:Expr->Shp
 | .Name y _=>.name y
 | .BinOp a op b _=>.bin a op b
 | .Compare a ops bs _=>.cmp a ops bs
 | .UnaryOp op a _=>.un op a
 | .Subscript a b _=>.sub a b
 | .Dict ks vs _=>.dct ks vs
 | .Call f xs ks cp=>shpC f xs ks cp
 | .Tuple xs _ _=>.tup xs
 | .List xs _=>.lst xs
 | .BoolOp o xs p=>.boo o xs p
 | .IfExp c a b _=>.ife c a b
 | .ListComp e g s _=>.lc e g s
 | .Slice l h s _=>.slc l h s
 | _=>.non
def ShpI:Shp->Expr->Prop
 | .name y,x=>∃p,x=.Name y p
 | .bin a op b,x=>∃p,x=.BinOp a op b p
 | .cmp a ops bs,x=>∃p,x=.Compare a ops bs p
 | .un op a,x=>∃p,x=.UnaryOp op a p
 | .sub a b,x=>∃p,x=.Subscript a b p
 | .dct ks vs,x=>∃p,x=.Dict ks vs p
 | .callN f xs,x=>∃q p,x=.Call (.Name f q) xs [] p
 | .callA o m ap xs cp,x=>x=.Call (.Attribute o m ap) xs [] cp
 | .tup xs,x=>∃j p,x=.Tuple xs j p
 | .lst xs,x=>∃p,x=.List xs p
 | .boo o xs p,x=>x=.BoolOp o xs p
 | .ife c a b,x=>∃p,x=.IfExp c a b p
 | .lc e g s,x=>∃p,x=.ListComp e g s p
 | .slc l h s,x=>∃p,x=.Slice l h s p
 | .non,_=>True
theorem ij(x:Expr):ShpI (Lg x) x:=by
 cases x
 case Call f xs ks cp =>
  cases f
  case Name=>cases ks with
   | nil=>exact⟨_,_,rfl⟩
   | cons _ _=>trivial
  case Attribute=>cases ks with
   | nil=>rfl
   | cons _ _=>trivial
  all_goals exact True.intro
 case BoolOp=>rfl
 case Tuple=>exact⟨_,_,rfl⟩
 all_goals first | exact⟨_,rfl⟩ | exact True.intro
theorem Yb{x:Expr}{s:Shp}(e:Lg x=s):ShpI s x:=e ▸ ij x
noncomputable def vOp(o:Op)(x:Expr):Option (ZC):=match Lg x with
 | .bin a op b=>if op=opOf o then some [a,b] else none
 | _=>none
theorem vOp_ex{o:Op}{x:Expr}{xs:ZC}(h:vOp o x=some xs):∃a op b p,x=.BinOp a op b p/\(if op=opOf o then some [a,b] else none)=some xs:=by
 unfold vOp at h
 split at h
 .rename_i e
  obtain⟨p,rfl⟩:=Yb e;exact⟨_,_,_,p,rfl,h⟩
 .cases h
noncomputable def u0(x:Expr):Option (Expr×List CmpOp×ZC):=match Lg x with
 | .cmp a ops bs=>some (a,ops,bs)
 | _=>none
theorem Aa{x a:Expr}{ops:List CmpOp}{bs:ZC}(h:u0 x=some (a,ops,bs)):∃p,x=.Compare a ops bs p:=by
 unfold u0 at h
 split at h
 .rename_i e
  cases h;exact Yb e
 .cases h
noncomputable def vCm(c:Cm)(x:Expr):Option (ZC):=match u0 x with
 | some (a,[op],[b])=>if op=De c/\behindInMarks op b=false then some [a,b] else none
 | _=>none
theorem yq{c:Cm}{x:Expr}{xs:ZC}(h:vCm c x=some xs):∃a op b p,x=.Compare a [op] [b] p/\(if op=De c/\behindInMarks op b=false then some [a,b] else none)=some xs:=by
 unfold vCm at h
 split at h
 .rename_i e
  obtain⟨p,rfl⟩:=Aa e;exact⟨_,_,_,p,rfl,h⟩
 .cases h
noncomputable def vC2(c:Cm)(d:Cm)(x:Expr):Option (ZC):=match u0 x with
 | some (a,[op,E3],[b,e])=>if op=De c/\E3=De d/\lastMarks [op,E3] [b,e]=false then some [a,b,e] else none
 | _=>none
theorem yj{c d:Cm}{x:Expr}{xs:ZC}(h:vC2 c d x=some xs):∃a op E3 b e p,x=.Compare a [op,E3] [b,e] p/\(if op=De c/\E3=De d/\lastMarks [op,E3] [b,e]=false then some [a,b,e] else none)=some xs:=by
 unfold vC2 at h
 split at h
 .rename_i e
  obtain⟨p,rfl⟩:=Aa e;exact⟨_,_,_,_,_,p,rfl,h⟩
 .cases h
noncomputable def vNeg(x:Expr):Option (ZC):=match Lg x with
 | .un op a=>if op=.USub then some [a] else none
 | _=>none
theorem uo{x:Expr}{xs:ZC}(h:vNeg x=some xs):∃a p,x=.UnaryOp .USub a p/\some [a]=some xs:=by
 unfold vNeg at h
 split at h
 .rename_i e
  obtain⟨p,rfl⟩:=Yb e
  split at h
  .rename_i z;subst z;exact⟨_,p,rfl,h⟩
  .cases h
 .cases h
noncomputable def uh(x:Expr):Option (Expr×Expr):=match Lg x with
 | .sub a b=>some (a,b)
 | _=>none
theorem Au{x a b:Expr}(h:uh x=some (a,b)):∃p,x=.Subscript a b p:=by
 unfold uh at h
 split at h
 .rename_i e
  cases h;exact Yb e
 .cases h
noncomputable def vIx(x:Expr):Option (ZC):=match uh x with
 | some (a,b)=>if Uv b=true then some [a,b] else none
 | none=>none
theorem vIx_ex{x:Expr}{xs:ZC}(h:vIx x=some xs):∃a b p,x=.Subscript a b p/\(if Uv b=true then some [a,b] else none)=some xs:=by
 unfold vIx at h
 split at h
 .rename_i e
  obtain⟨p,rfl⟩:=Au e;exact⟨_,_,p,rfl,h⟩
 .cases h
noncomputable def yx(x:Expr):Option (Expr×Option Expr×Option Expr×Option Expr):=match uh x with
 | some (a,b)=>(match Lg b with
  | .slc l h s=>some (a,l,h,s)
  | _=>none)
 | none=>none
theorem Fh{x a:Expr}{l hh s:Option Expr}(h:yx x=some (a,l,hh,s)):∃q p,x=.Subscript a (.Slice l hh s q) p:=by
 unfold yx at h
 split at h
 .rename_i e
  obtain⟨p,rfl⟩:=Au e
  split at h
  .rename_i e'
   cases h;obtain⟨q,rfl⟩:=Yb e';exact⟨q,p,rfl⟩
  .cases h
 .cases h
noncomputable def vi(x:Expr):Option (ZC):=match yx x with
 | some (a,some l,none,none)=>some [a,l]
 | _=>none
theorem vo{x:Expr}{xs:ZC}(h:vi x=some xs):∃a l q p,x=.Subscript a (.Slice (some l) none none q) p/\some [a,l]=some xs:=by
 unfold vi at h
 split at h
 .rename_i e
  obtain⟨q,p,rfl⟩:=Fh e;exact⟨_,_,q,p,rfl,h⟩
 .cases h
noncomputable def v5(x:Expr):Option (ZC):=match yx x with
 | some (a,none,some l,none)=>some [a,l]
 | _=>none
theorem v3{x:Expr}{xs:ZC}(h:v5 x=some xs):∃a l q p,x=.Subscript a (.Slice none (some l) none q) p/\some [a,l]=some xs:=by
 unfold v5 at h
 split at h
 .rename_i e
  obtain⟨q,p,rfl⟩:=Fh e;exact⟨_,_,q,p,rfl,h⟩
 .cases h
noncomputable def v9(x:Expr):Option (ZC):=match Lg x with
 | .dct [] []=>some []
 | _=>none
theorem v8{x:Expr}{xs:ZC}(h:v9 x=some xs):∃p,x=.Dict [] [] p/\some ([]:ZC)=some xs:=by
 unfold v9 at h
 split at h
 .rename_i e
  obtain⟨p,rfl⟩:=Yb e;exact⟨p,rfl,h⟩
 .cases h
noncomputable def wq:Expr->Bool
 | .Constant (.int i) _ _=>decide (i=1)
 | _=>false
theorem is1_ex{x:Expr}(h:wq x=true):∃k p,x=.Constant (.int 1) k p:=by
 cases x<;>first | (cases h;done) | skip
 rename_i c k p
 cases c<;>first | (cases h;done) | skip
 cases Pa h;exact⟨_,_,rfl⟩
noncomputable def vRev(x:Expr):Option (ZC):=match yx x with
 | some (a,none,none,some s)=>(match Lg s with
  | .un op b=>if op=.USub/\wq b=true then some [a] else none
  | _=>none)
 | _=>none
theorem ua{x:Expr}{xs:ZC}(h:vRev x=some xs):∃a k p1 p2 q p,x=.Subscript a (.Slice none none (some (.UnaryOp .USub (.Constant (.int 1) k p1) p2)) q) p/\some [a]=some xs:=by
 unfold vRev at h
 split at h
 .rename_i e
  obtain⟨q,p,rfl⟩:=Fh e
  split at h
  .rename_i e'
   obtain⟨p2,rfl⟩:=Yb e'
   split at h
   .rename_i z
    obtain⟨rfl,z⟩:=z;obtain⟨k,p1,rfl⟩:=is1_ex z;exact⟨_,k,p1,p2,q,p,rfl,h⟩
   .cases h
  .cases h
 .cases h
noncomputable def Kw(x:Expr):Option (Str×ZC):=match Lg x with
 | .callN f xs=>some (f,xs)
 | _=>none
theorem M6{x:Expr}{f:Str}{xs:ZC}(h:Kw x=some (f,xs)):∃q p,x=.Call (.Name f q) xs [] p:=by
 unfold Kw at h
 split at h
 .rename_i e
  cases h;exact Yb e
 .cases h
noncomputable def v7(x:Expr):Option Str:=match Lg x with
 | .name y=>some y
 | _=>none
theorem Fs{x:Expr}{y:Str}(h:v7 x=some y):∃p,x=.Name y p:=by
 unfold v7 at h
 split at h
 .rename_i e
  cases h;exact Yb e
 .cases h
noncomputable def vIsi(sc:ZK)(n:Kd)(x:Expr):Option (ZC):=match Kw x with
 | some (f,[a,k])=>(match v7 k with
  | some k=>if f = "isinstance" /\ Wy sc f=true/\k=kdS n/\Wy sc k=true then some [a] else none
  | none=>none)
 | _=>none
theorem ue{sc:ZK}{n:Kd}{x:Expr}{xs:ZC}(h:vIsi sc n x=some xs):∃f q a k q' p,x=.Call (.Name f q) [a,.Name k q'] [] p/\(if f = "isinstance" /\ Wy sc f=true/\k=kdS n/\Wy sc k=true then some [a] else none)=some xs:=by
 unfold vIsi at h
 split at h
 .rename_i e
  obtain⟨q,p,rfl⟩:=M6 e
  split at h
  .rename_i e'
   obtain⟨q',rfl⟩:=Fs e';exact⟨_,q,_,_,q',p,rfl,h⟩
  .cases h
 .cases h
noncomputable def va(sc:ZK)(x:Expr):Option (ZC):=match Kw x with
 | some (f,[y])=>(match Kw y with
  | some (g,[a])=>if f = "sorted" /\ Wy sc f=true/\g = "set" /\ Wy sc g=true then some [a] else none
  | _=>none)
 | _=>none
theorem vp{sc:ZK}{x:Expr}{xs:ZC}(h:va sc x=some xs):∃f q g q' a p' p,x=.Call (.Name f q) [.Call (.Name g q') [a] [] p'] [] p/\(if f = "sorted" /\ Wy sc f=true/\g = "set" /\ Wy sc g=true then some [a] else none)=some xs:=by
 unfold va at h
 split at h
 .rename_i e
  obtain⟨q,p,rfl⟩:=M6 e
  split at h
  .rename_i e'
   obtain⟨q',p',rfl⟩:=M6 e';exact⟨_,q,_,q',_,p',p,rfl,h⟩
  .cases h
 .cases h
noncomputable def vBt(sc:ZK)(q:Pr)(x:Expr):Option (ZC):=match Kw x with
 | some (f,a::r)=>(match btV q with
  | some (n,_)=>if f=n/\Wy sc f=true then some (a::r) else none
  | none=>none)
 | _=>none
theorem vBt_ex{sc:ZK}{q:Pr}{x:Expr}{xs:ZC}(h:vBt sc q x=some xs):∃f p0 a r p,x=.Call (.Name f p0) (a::r) [] p/\(match btV q with
  | some (n,_)=>if f=n/\Wy sc f=true then some (a::r) else none
  | none=>none)=some xs:=by
 unfold vBt at h
 split at h
 .rename_i e
  obtain⟨p0,p,rfl⟩:=M6 e;exact⟨_,p0,_,_,p,rfl,h⟩
 .cases h
noncomputable def view(sc:ZK):Pr->Expr->Option (ZC)
 | .op o=>vOp o
 | .cm c=>vCm c
 | .c2 c d=>vC2 c d
 | .neg=>vNeg
 | .ix=>vIx
 | .sl true false=>vi
 | .sl false true=>v5
 | .dnew=>v9
 | .rev=>vRev
 | .isi n=>vIsi sc n
 | .sset=>va sc
 | q=>vBt sc q
noncomputable def Jy:ZD:=["len","all","any","list","tuple","min","max","int","abs","dict","isinstance","sorted","set","range","zip","enumerate","sum","repr","str","bool"]
structure Ctx(X:Cx)(w:W)(k:Nat)(N:ZD)(sc:ZK):Prop where
 nN:X.N=N
 nd:N.Nodup
 nm:∀x c,sc.lookup x=some c->X.env.scope.names.lookup x=some c\/(c=.free/\X.env.scope.names.lookup x=some .cell)
 calm:X.calm=true
 room:U4 k X.A
 bn:∀x∈Jy,X.mg x=none
 fn:∀f as r,w.C f as=some r->∃ps,as.length=ps.length/\Fn X.prog X.w X.K X.mg X.base k f ps (spC X.K X.mg ps.length (w.C f))
 gl:∀x t,w.gl x=some t->∃v u,X.mg x=some u/\RelV v u/\∀H F,IsT X.K X.mg H F t v
 xe:X.xe=pj
 cl:∀x,sc.lookup x=some .cell->X.fn x=true
section
variable{X:Cx}{w:W}{k:Nat}{N:ZD}{sc:ZK}
theorem Ctx.un(c:Ctx X w k N sc):X.A.units+150<cLine:=by have:=c.room.un;omega
theorem Ctx.gl'(c:Ctx X w k N sc){x:Str}(h:Wy sc x=true):Gl X x/\(x == ("__debug__" : Str))=false:=by
 unfold Wy at h;rw[Y8,beq_iff_eq]at h;rcases c.nm x _ h.1 with e | ⟨z,_⟩
 .exact⟨e,by simpa using h.2⟩
 .cases z
theorem Ctx.vis(c:Ctx X w k N sc){x:Str}(h:PV.vis sc x=true):Vis X.env.scope x:=by
 unfold PV.vis at h
 split at h
 .rename_i e
  rcases c.nm x _ e with e | ⟨z,_⟩
  .exact .inl e
  .cases z
 .rename_i e
  rcases c.nm x _ e with e | ⟨z,_⟩
  .exact .inr (.inl e)
  .cases z
 .rename_i e
  rcases c.nm x _ e with e | ⟨_,e⟩
  .exact .inr (.inr e)
  .exact .inr (.inl e)
 .cases h
theorem Ctx.var(c:Ctx X w k N sc){i:Nat}{x:Str}{pos:Pos}(h:U9 N sc i x=true):PE X (.Name x pos) (tVar i):=by
 unfold U9 at h;simp only[Y8,beq_iff_eq]at h;obtain⟨⟨⟨h1,h2⟩,h3⟩,h4⟩:=h;exact pe_var (by rw[c.nN];exact h1) (c.vis h2) (by simpa using h3) (by simpa using h4)
theorem X4{q:Pr}{es:E}{p p':P}{r:Sl}(e:ev w (.pr q es) p=some (r,p')):∃as ts,J0 w true es p=some (as,p')/\looks p' as=some ts/\K3 q ts=some r:=by
 replace e:=(ev_prQ _ _).symm.trans e
 obtain⟨a,e1,e⟩:=ZO.mp e;obtain⟨ts,e2,e⟩:=ZO.mp e;obtain⟨s,e3,e⟩:=Yj.mp e;cases e;exact⟨a.1,ts,e1,e2,e3⟩
mutual
def rm:E->Bool
 | .k _=>true
 | .g _=>true
 | .v _=>true
 | .pr _ es=>Tn es
 | _=>false
def Tn:E->Bool
 | .nil=>true
 | .cons a r=>rm a && Tn r
 | _=>false
end
mutual
theorem calm_h:∀(a:E) {p p':P} {a':A},rm a=true->Sg true a p (toT (ev w a p))=some (a',p')->p'=p
 | .v i,p,p',a',_,e=>by
  unfold Sg at e;dsimp only at e;rw[if_pos rfl]at e
  split at e
  .cases e;rfl
  .cases e
 | .k t,p,p',a',_,e=>by cases e;rfl
 | .g x,p,p',a',_,e=>by
  have e:(toT ((w.gl x).map fun t=>(Sl.f t,p))).map (fun q=>(A.t q.1,q.2))=some (a',p'):=e;cases q:w.gl x with
  | none=>rw[q]at e;cases e
  | some t=>rw[q]at e;cases e;rfl
 | .pr q es,p,p',a',h,e=>by
  have e:(toT (ev w (.pr q es) p)).map (fun q=>(A.t q.1,q.2))=some (a',p'):=e;obtain⟨z,e1,e2⟩:=Yj.mp e;cases e2;unfold toT at e1;obtain⟨y,e3,e4⟩:=ZO.mp e1;obtain⟨t,e5,e6⟩:=Yj.mp e4;cases e6;obtain⟨as,ts,e7,_,_⟩:=X4 (r:=y.1) (p':=y.2) e3;exact Q6 es h e7
 | .mv _,_,_,_,h,_=>by cases h
 | .io _,_,_,_,h,_=>by cases h
 | .nil,_,_,_,h,_=>by cases h
 | .cons _ _,_,_,_,h,_=>by cases h
 | .tup _,_,_,_,h,_=>by cases h
 | .lst _,_,_,_,h,_=>by cases h
 | .and _ _,_,_,_,h,_=>by cases h
 | .or _ _,_,_,_,h,_=>by cases h
 | .not _,_,_,_,h,_=>by cases h
 | .ite _ _ _,_,_,_,h,_=>by cases h
 | .call _ _,_,_,_,h,_=>by cases h
 | .cal _ _,_,_,_,h,_=>by cases h
 | .mt _ _ _,_,_,_,h,_=>by cases h
 | .comp _ _ _ _ _ _,_,_,_,h,_=>by cases h
 | .itr _ _,_,_,_,h,_=>by cases h
 | .tmp _,_,_,_,h,_=>by cases h
theorem Q6:∀(es:E) {p p':P} {as:List A},Tn es=true->J0 w true es p=some (as,p')->p'=p
 | .nil,p,p',as,_,e=>(Ur e).2
 | .cons a r,p,p',as,h,e=>by
  obtain⟨a',p1,as',e1,e2,rfl⟩:=Yf e;have h:(rm a && Tn r)=true:=h;rw[Y8]at h;exact(Q6 r h.2 e2).trans (calm_h a h.1 e1)
 | .v _,_,_,_,h,_=>by cases h
 | .k _,_,_,_,h,_=>by cases h
 | .g _,_,_,_,h,_=>by cases h
 | .pr _ _,_,_,_,h,_=>by cases h
 | .mv _,_,_,_,h,_=>by cases h
 | .io _,_,_,_,h,_=>by cases h
 | .tup _,_,_,_,h,_=>by cases h
 | .lst _,_,_,_,h,_=>by cases h
 | .and _ _,_,_,_,h,_=>by cases h
 | .or _ _,_,_,_,h,_=>by cases h
 | .not _,_,_,_,h,_=>by cases h
 | .ite _ _ _,_,_,_,h,_=>by cases h
 | .call _ _,_,_,_,h,_=>by cases h
 | .cal _ _,_,_,_,h,_=>by cases h
 | .mt _ _ _,_,_,_,h,_=>by cases h
 | .comp _ _ _ _ _ _,_,_,_,h,_=>by cases h
 | .itr _ _,_,_,_,h,_=>by cases h
 | .tmp _,_,_,_,h,_=>by cases h
end
noncomputable def quiet:Pr->E->Bool
 | .c2 _ _,.cons _ (.cons _ r)=>Tn r
 | .sl true true,.cons _ (.cons _ r)=>Tn r
 | .get1,.cons _ r=>Tn r
 | .get2,.cons _ r=>Tn r
 | .c2 _ _,_=>false
 | .sl true true,_=>false
 | .get1,_=>false
 | .get2,_=>false
 | _,_=>true
theorem bf{b:Expr}(h:Uv b=true):zm b:=fun o i=>by cases b<;>first | rfl | cases h
theorem Zqm(n:Kd):bootBuiltins (kdS n:Str)=some (.type (kdS n)):=by cases n<;>decide +kernel
theorem Zxq(n:Kd):(kdS n:Str) ≠ "__name__" := by cases n<;>decide +kernel
theorem Zqb{q:Pr}{n:Str}{fv:Value}(h:btV q=some (n,fv)):bootBuiltins n=some fv/\n ≠ "__name__" /\ n∈Jy/\((∃i,fv=.builtin i)\/∃t,fv=.type t):=by
 cases q<;>cases h
 all_goals exact⟨by decide +kernel,by decide +kernel,by decide +kernel,by first | exact .inl ⟨_,rfl⟩ | exact .inr ⟨_,rfl⟩⟩
theorem few_of{es:ZC}{env:Env}{cpos:Pos}(h:∀e∈es,noStar e=true)(hl:es.length<30):((backTo cpos (starEach es env)).all (fun x=>!x.1) && (backToKw cpos (keywordEach [] env)).all (fun x=>x.1.isSome)
  && decide (es.length+([]:List Keyword).length+(if ([]:List Keyword).isEmpty then 0 else 1)<30))=true:=by
 have h1:(backTo cpos (starEach es env)).all (fun x=>!x.1)=true:=by
  rw[List.all_eq_not_any_not];have:=Y6 es env cpos h;simp only[Bool.not_not];rw[this];rfl
 rw[h1];show (true && true && decide (es.length+0+0<30))=true;rw[Mi (by omega)]
 rfl
theorem bg(c:Ctx X w k N sc){q:Pr}{es:E}{x:Expr}{xs:ZC}(hv:view sc q x=some xs)(hs:Hs X w true es xs)(h3:quiet q es=true):PE X x (LE X.K X.mg w (.pr q es)):=by
 intro XF s Z H Q I h;obtain⟨F,G,p,r,p',rel,e,kq⟩:=h;obtain⟨as,ts,e1,e2,e3⟩:=X4 e;have un:=c.un;have kf:∀{F2 H2:Hp},Le F F2->Up X.K H H2->Fin X F2 G p' Z H2 r Q:=fun l u F3 H3 v l3 u3=>kq F3 H3 v (l.trans l3) (u.trans u3);unfold view at hv
 split at hv
 .replace hv:=vOp_ex hv
  obtain⟨a,op,b,pp,rfl,hv⟩:=hv
  split at hv
  .rename_i ho
   cases hv;subst ho;cases hs with | cons ha _ t=>cases t with | cons hb _ t=>cases t with | nil =>
   refine pe_op opr ha hb XF s Z H Q I (Ld e1 e2 rel fun F2 H2 x y t1 t2 et l u Zs s1 s2=>?_);subst et;exact fun XF s σ' v u' I rx ry=>op_run _ I Zs rx ry s1 s2 e3 (kf l u)
  .cases hv
 .replace hv:=yq hv
  obtain⟨a,op,b,pp,rfl,hv⟩:=hv
  split at hv
  .rename_i ho
   cases hv;obtain⟨ho,hm⟩:=ho;subst ho;cases hs with | cons ha _ t=>cases t with | cons hb _ t=>cases t with | nil =>
   refine Zzg opr ha hb hm XF s Z H Q I (Ld e1 e2 rel fun F2 H2 x y t1 t2 et l u Zs s1 s2=>?_);subst et;obtain⟨b,e4,rfl⟩:=Yj.mp e3;exact fun XF s σ' v u' I rx ry=>B6 _ I Zs.b.f un rx ry s1 s2 e4 ((kf l u).h Zs rfl)
  .cases hv
 .replace hv:=yj hv
  obtain⟨a,op,E3,b,e0,pp,rfl,hv⟩:=hv
  split at hv
  .rename_i ho
   cases hv;obtain⟨ho,Wn,hm⟩:=ho;subst ho Wn;cases hs with | cons ha _ t=>cases t with | cons hb _ t=>cases t with | cons hc _ t=>cases t with | nil =>
   obtain⟨a',p1,as1,q1,q2,rfl⟩:=Yf e1;obtain⟨b',p2,as2,q3,q4,rfl⟩:=Yf q2;obtain⟨c',p3,as3,q5,q6,rfl⟩:=Yf q4;obtain⟨rfl,rfl⟩:=Ur q6;obtain⟨t1,r1,l1,l2,rfl⟩:=Z8 e2;obtain⟨t2,r2,l3,l4,rfl⟩:=Z8 l2;obtain⟨t3,r3,l5,l6,rfl⟩:=Z8 l4;cases l6;have ep:=Q6 _ h3 q4;subst ep;obtain⟨b1,c1,e3⟩:=ZO.mp e3;refine b7 opr opr ha hb hc hm XF s Z H Q I ⟨F,G,p,a',p1,rel,q1,fun F1 H1 x le1 u1 rl1 Mv=>⟨F1,G,p1,b',_,rl1,q3,fun F2 H2 y pb u2 gz Pg=>?_⟩⟩;have s1:=gz.look l1 (Ar.up u2 pb Mv);have s2:=gz.look l3 Pg;refine fun XF s σ' v u' I rx ry=>B6 _ I gz.b.f un rx ry s1 s2 c1 ⟨b1,rfl, ?_⟩;cases b1 with
   | false=>cases e3;exact(kf (le1.trans pb) (u1.trans u2)).h gz rfl
   | true =>
    obtain⟨b2,c2,rfl⟩:=Yj.mp e3;refine⟨F2,G,_,c',_,gz,q5,fun F3 H3 z le3 u3 iu ar3=>?_⟩;exact fun XF s σ' v u' I rx ry=>B6 _ I iu.b.f un rx ry (iu.look l3 (Ar.up u3 le3 Pg)) (iu.look l5 ar3) c2 ((kf ((le1.trans pb).trans le3) ((u1.trans u2).trans u3)).h iu rfl)
  .cases hv
 .replace hv:=uo hv
  obtain⟨a,pp,rfl,hv⟩:=hv;cases hv;cases hs with | cons ha _ t=>cases t with | nil =>
  refine Zq9 yw ha XF s Z H Q I (Io e1 e2 rel fun F2 H2 x t1 et l u Zs s1=>?_);subst et;cases t1<;>cases e3
  cases(show x=_ from s1);exact⟨_,rfl,(kf l u).h Zs rfl⟩
 .replace hv:=vIx_ex hv
  obtain⟨a,b,pp,rfl,hv⟩:=hv
  split at hv
  .rename_i hn
   cases hv;cases hs with | cons ha _ t=>cases t with | cons hb _ t=>cases t with | nil =>
   refine pe_ix ixr ha hb (bf hn) XF s Z H Q I (Ld e1 e2 rel fun F2 H2 x y t1 t2 et l u Zs s1 s2=>?_);subst et;obtain⟨z,e4,rfl⟩:=Yj.mp e3;exact fun value slice XF s σ' v u' I rx ry hs=>ix_run I un rx ry s1 s2 e4 (fun v h=>(kf l u).h Zs h) hs
  .cases hv
 .replace hv:=vo hv
  obtain⟨a,l,qq,pp,rfl,hv⟩:=hv;cases hv;cases hs with | cons ha _ t=>cases t with | cons hb _ t=>cases t with | nil =>
  refine Oa slr ha (Xx hb) Xq XF s Z H Q I (Ld e1 e2 rel fun F2 H2 x y t1 t2 et l u Zs s1 s2=>?_);subst et;obtain⟨i,e4,e5⟩:=ZO.mp e3;cases t2<;>cases e4
  cases(show y=_ from s2);exact⟨_,rfl,fun XF s σ' v vl vu sl I rx hs pl pu=>kg I Zs rx s1 hs pl pu e5 (kf l u)⟩
 .replace hv:=v3 hv
  obtain⟨a,l,qq,pp,rfl,hv⟩:=hv;cases hv;cases hs with | cons ha _ t=>cases t with | cons hb _ t=>cases t with | nil =>
  refine Oa slr ha Xq (Xx hb) XF s Z H Q I (Ld e1 e2 rel fun F2 H2 x y t1 t2 et l u Zs s1 s2=>?_);subst et;obtain⟨i,e4,e5⟩:=ZO.mp e3;cases t2<;>cases e4
  cases(show y=_ from s2);exact⟨_,rfl,fun XF s σ' v vl vu sl I rx hs pl pu=>kg I Zs rx s1 hs pl pu e5 (kf l u)⟩
 .replace hv:=v8 hv
  obtain⟨pp,rfl,hv⟩:=hv;cases hv;cases hs;obtain⟨rfl,rfl⟩:=Ur e1;cases e2;cases e3;exact bo XF s Z H Q I fun l hl=>let ⟨r1,r2⟩:=rel.newD (ts:=[]) (vs:=[]) hl (Ma _) rfl;kq F _ _ (Le.refl _) (Zd.lay hl).up r1 r2
 .replace hv:=ua hv
  obtain⟨a,k0,p1,p2,qq,pp,rfl,hv⟩:=hv;cases hv;cases hs with | cons ha _ t=>cases t with | nil =>
  refine Zzv ha (Zq9 yw bu) XF s Z H Q I (Io e1 e2 rel fun F2 H2 x t1 et l u Zs s1=>?_);subst et;cases t1<;>cases e3
  obtain⟨a,vs,rfl,h1,z1,ar⟩:=s1;exact⟨a,vs,rfl,h1,fun l' hl=>(kf l u).f Zs (Zd.lay hl) ⟨l',_,rfl,Yu.of Zw,by rw[List.length_reverse];exact z1,Zq.up (Zd.lay hl).up (Le.refl _) _ _ ar.rev⟩⟩
 .rename_i n
  replace hv:=ue hv
  obtain⟨f,qq,a,k',q1,pp,rfl,hv⟩:=hv
  split at hv
  .rename_i ho
   cases hv;obtain⟨hf,g1,hk,g2⟩:=ho;subst hf hk;cases hs with | cons ha sa t=>cases t with | nil =>
   obtain⟨gg1,gd1⟩:=c.gl' g1;obtain⟨gg2,gd2⟩:=c.gl' g2;refine C9 Ek gg1 (c.bn _ (by decide +kernel)) (show bootBuiltins "isinstance" = some (.builtin "isinstance") by decide +kernel) (Nx ha (Nx (mw gg2 (c.bn _ (by cases n<;>decide +kernel)) (Zqm n) (Zxq n) gd2) Qk rfl) (Ys sa)) (by decide +kernel) gd1 (Ys sa) rfl XF s Z H Q I (Io e1 e2 rel fun F2 H2 x t1 et l u Zs s1=>?_);subst et;obtain⟨b,e4,rfl⟩:=Yj.mp e3;intro XF s σ' us I rs;obtain⟨v1,v2,rfl,r1,r2⟩:=vals2 rs;cases r2;exact Zxk I r1 s1 e4 ((kf l u).h Zs rfl)
  .cases hv
 .replace hv:=vp hv
  obtain⟨f,qq,g,q1,a,p1,pp,rfl,hv⟩:=hv
  split at hv
  .rename_i ho
   cases hv;obtain⟨hf,g1,hk,g2⟩:=ho;subst hf hk;cases hs with | cons ha sa t=>cases t with | nil =>
   obtain⟨gg1,gd1⟩:=c.gl' g1;obtain⟨gg2,gd2⟩:=c.gl' g2;refine C9 Ek gg1 (c.bn _ (by decide +kernel)) (show bootBuiltins "sorted" = some (.builtin "sorted") by decide +kernel) (Nx (Ll Ek gg2 (c.bn _ (by decide +kernel)) (show bootBuiltins "set" = some (.type "set") by decide +kernel) (Nx ha Qk (Ys sa)) (by decide +kernel) gd2 (Ys sa) rfl) Qk rfl) (by decide +kernel) gd1 rfl rfl XF s Z H Q I (Io e1 e2 rel fun F2 H2 x t1 et l u Zs s1=>?_);subst et;have fin:=kf l u;cases t1<;>first | cases e3 | skip
   .obtain⟨ws,e4,rfl⟩:=Yj.mp e3;obtain⟨a,vs,rfl,h1,z1,ar⟩:=s1;exact Ow c.calm (.inr h1) ar Zs e4 fin
   .obtain⟨ws,e4,rfl⟩:=Yj.mp e3;obtain⟨a,vs,rfl,h1,z1,ar⟩:=s1;exact Ow c.calm (.inl (.inl h1)) ar Zs e4 fin
  .cases hv
 .replace hv:=vBt_ex hv
  obtain⟨f,p0,a,r',pp,rfl,hv⟩:=hv
  split at hv
  .rename_i n fv hb
   split at hv
   .rename_i ho
    cases hv;obtain⟨hf,g1⟩:=ho;subst hf;obtain⟨b1,b2,b3,b4⟩:=Zqb hb;obtain⟨gg,gd⟩:=c.gl' g1;have Bo:=hs.star;have fin:LA X.K X.mg w true es Z H fun vs H1=>rC X fv vs H1 Q:=readN e1 e2 rel fun F2 H2 vs l u Zs se=>fun XF s σ' us I rs=>bt_run hb c.calm un c.room.gd I Zs rs se e3 (kf l u);rcases b4 with ⟨i,rfl⟩ | ⟨i,rfl⟩
    .exact C9 Ek gg (c.bn _ b3) b1 hs.pa b2 gd (Ys (Bo _ Vt)) (Y6 _ _ _ fun e m=>Bo e (Vf _ m)) XF s Z H Q I fin
    .exact Ll Ek gg (c.bn _ b3) b1 hs.pa b2 gd (Ys (Bo _ Vt)) (Y6 _ _ _ fun e m=>Bo e (Vf _ m)) XF s Z H Q I fin
   .cases hv
  .cases hv
end
noncomputable def conK(t:T)(c:PySem.Const):Bool:=match t with
 | .int i=>(match c with
  | .int j=>i == j
  | _=>false)
 | .str a=>(match c with
  | .str b=>a == b
  | _=>false)
 | .bl a=>(match c with
  | .bool b=>a == b
  | _=>false)
 | .non=>(match c with
  | .none=>true
  | _=>false)
 | _=>false
def repK(t:T)(x:Expr):Bool:=match x with
 | .Constant c _ _=>conK t c
 | _=>false
def isIo:E->Bool
 | .io _=>true
 | _=>false
def U3:E->Bool
 | .cons a r=>!isIo a && U3 r
 | _=>true
section
variable{X:Cx}{w:W}{k:Nat}{N:ZD}{sc:ZK}
theorem snd_k{t:T}{x:Expr}(h:repK t x=true):PE X x (LE X.K X.mg w (.k t)):=by
 have fin:∀{v:V},(∀H F,IsT X.K X.mg H F t v)->∀Z H Q,LE X.K X.mg w (.k t) Z H Q->tC v Z H Q:=fun hv Z H Q ⟨F,G,p,r,p',rel,e,kq⟩=>by
  cases e;exact kq F H _ (Le.refl F) (Up.refl H) rel (hv H F)
 cases x with
 | Constant c q pos =>
  replace h:conK t c=true:=h
  cases t with
  | int i=>cases c with
   | int j=>cases eq_of_beq (show (i == j)=true from h);exact PE.imp bu (fin fun _ _=>rfl)
   | _=>cases(show false=true from h)
  | str i=>cases c with
   | str j=>cases eq_of_beq (show (i == j)=true from h);exact PE.imp pe_str (fin fun _ _=>rfl)
   | _=>cases(show false=true from h)
  | bl i=>cases c with
   | bool j=>cases eq_of_beq (show (i == j)=true from h);exact PE.imp pe_bl (fin fun _ _=>rfl)
   | _=>cases(show false=true from h)
  | non=>cases c with
   | none=>exact PE.imp pe_non (fin fun _ _=>rfl)
   | _=>cases(show false=true from h)
  | _=>cases(show false=true from h)
 | _=>cases(show false=true from h)
theorem snd_g(c:Ctx X w k N sc){x y:Str}{pos:Pos}(h:(x == y && Wy sc y)=true):PE X (.Name y pos) (LE X.K X.mg w (.g x)):=by
 rw[Y8,beq_iff_eq]at h;obtain⟨rfl,h⟩:=h;obtain⟨g1,g2⟩:=c.gl' h;intro XF s Z H Q I ⟨F,G,p,r,p',rel,e,kq⟩
 replace e:=(ev_gQ _).symm.trans e
 obtain⟨t,e1,e2⟩:=Yj.mp e;cases e2;obtain⟨v,u,h1,h2,h3⟩:=c.gl x t e1;exact Zzy g1 h1 h2 g2 XF s Z H Q I (kq F H v (Le.refl F) (Up.refl H) rel (h3 H F))
theorem Iu{F G H:Hp}{p p':P}{Z:L2.St}{i:Nat}{t:T}(rel:Rel X.K X.mg F G p Z H)(e:read p i=some (t,p')):∃F' v,Le F F'/\Rel X.K X.mg F' G p' Z H/\Z[i]?=some (some v)/\IsT X.K X.mg H F' t v:=by
 unfold read at e
 split at e
 .rename_i u q
  cases e;obtain⟨v,h1,h2⟩:=rel.fz i _ q;exact⟨F,v,Le.refl F,rel,h1,h2⟩
 .rename_i u q
  cases e;exact rel.freezeAt q
 .cases e
theorem snd_v(c:Ctx X w k N sc){i:Nat}{y:Str}{pos:Pos}(h:U9 N sc i y=true):PE X (.Name y pos) (LE X.K X.mg w (.v i)):=by
 intro XF s Z H Q I ⟨F,G,p,r,p',rel,e,kq⟩
 replace e:=(ev_vQ _).symm.trans e
 obtain⟨q,e1,e2⟩:=Yj.mp e;cases e2;obtain⟨F',v,l,Yz,hv,ht⟩:=Iu rel e1;exact c.var h XF s Z H Q I ⟨v,hv,kq F' H v l (Up.refl H) Yz ht⟩
theorem snd_mv(c:Ctx X w k N sc){i:Nat}{y:Str}{pos:Pos}(h:U9 N sc i y=true):PE X (.Name y pos) (LE X.K X.mg w (.mv i)):=by
 intro XF s Z H Q I ⟨F,G,p,r,p',rel,e,kq⟩
 replace e:=(ev_mvQ _).symm.trans e
 split at e
 .rename_i t q
  cases e;obtain⟨a,h1,h2,h3,h4⟩:=rel.ow i t q;refine c.var h XF s Z H Q I ⟨.ref a,h1,kq F H _ (Le.refl F) (Up.refl H) (rel.drop i) ⟨a,rfl,h2,h3,h4,fun j u e z=>?_⟩⟩;rcases Zu e with ⟨_,y⟩ | ⟨n,e⟩
  .cases y
  .exact n (rel.ap j i u t a e q z h1)
 .rename_i t q
  cases e;obtain⟨v,h1,h2⟩:=rel.fz i t q;exact c.var h XF s Z H Q I ⟨v,h1,kq F H _ (Le.refl F) (Up.refl H) rel h2⟩
 .cases e
theorem snd_hd{m:Bool}{a:E}{x:Expr}(hio:∀i,a≠.io i)(hv:∀i,a≠.v i)(h:PE X x (LE X.K X.mg w a)):PE X x (LH X.K X.mg w m a):=by
 intro XF s Z H Q I ⟨F,G,p,a',p',rel,e,kq⟩
 have e:(toT (ev w a p)).map (fun q=>(A.t q.1,q.2))=some (a',p'):=by
  unfold Sg at e
  split at e
  .exact absurd rfl (hio _)
  .exact absurd rfl (hv _)
  .exact e
 obtain⟨z,e1,e2⟩:=Yj.mp e;cases e2;unfold toT at e1;obtain⟨y,e3,e4⟩:=ZO.mp e1;obtain⟨t,e5,e6⟩:=Yj.mp e4;cases e6;refine h XF s Z H Q I ⟨F,G,p,y.1,y.2,rel,e3,fun F1 H1 v l1 u1 Zr rs=>?_⟩;obtain⟨F2,l2,Zs,ht⟩:=Zr.thaw e5 rs;exact kq F2 H1 v (l1.trans l2) u1 Zs ht
theorem snd_hv(c:Ctx X w k N sc){m:Bool}{i:Nat}{y:Str}{pos:Pos}(h:U9 N sc i y=true):PE X (.Name y pos) (LH X.K X.mg w m (.v i)):=by
 intro XF s Z H Q I ⟨F,G,p,a',p',rel,e,kq⟩;unfold Sg at e;dsimp only at e
 split at e
 .split at e
  .rename_i hd
   cases e;unfold done at hd
   split at hd
   .rename_i t q
    obtain⟨v,h1,h2⟩:=rel.fz i t q;exact c.var h XF s Z H Q I ⟨v,h1,kq F H v (Le.refl F) (Up.refl H) rel h1⟩
   .rename_i t q
    obtain⟨a,h1,_⟩:=rel.ow i t q;exact c.var h XF s Z H Q I ⟨_,h1,kq F H _ (Le.refl F) (Up.refl H) rel h1⟩
   .cases hd
  .cases e
 .obtain⟨q,e1,e2⟩:=Yj.mp e;cases e2;obtain⟨F',v,l,Yz,hv,ht⟩:=Iu rel e1;exact c.var h XF s Z H Q I ⟨v,hv,kq F' H v l (Up.refl H) Yz ht⟩
theorem Ry:∀(es:E) {xs:ZC},Hs X w false es xs->∀{p p':P} {as:List A},J0 w false es p=some (as,p')->U3 es=true->∀a∈as,∃t,a=A.t t
 | _,_,.nil,p,p',as,e,_,a,m=>by rw[(Ur e).1]at m;exact absurd m V4
 | .cons b r,_,.cons _ _ t,p,p',as,e,h,a,m=>by
  obtain⟨a',p1,as',e1,e2,rfl⟩:=Yf e;have h:(!isIo b && U3 r)=true:=h;rw[Y8]at h;rcases Y3.mp m with rfl | m
  .have key:∀x,Sg false b p x=some (a,p1)->isIo b=false->∃t,a=A.t t:=fun x e h=>by
    unfold Sg at e
    split at e
    .cases h
    .obtain⟨q,_,e3⟩:=Yj.mp (show (read p _).map _=_ from e);cases e3;exact⟨_,rfl⟩
    .obtain⟨q,_,e3⟩:=Yj.mp e;cases e3;exact⟨_,rfl⟩
   exact key _ e1 (by simpa using h.1)
  .exact Ry r t e2 h.2 a m
theorem oy{es:E}{xs:ZC}{j:Nat}{pos:Pos}(hs:Hs X w false es xs)(hn:U3 es=true):PE X (.Tuple xs j pos) (LE X.K X.mg w (.tup es)):=by
 intro XF s Z H Q I ⟨F,G,p,r,p',rel,e,kq⟩
 replace e:=(Zx1 _).symm.trans e
 obtain⟨a,e1,e⟩:=ZO.mp e;obtain⟨ts,e2,e⟩:=ZO.mp e
 split at e
 .rename_i hz
  cases e;have nt:=Ry es hs e1 hn;refine pe_tup hs.pa XF s Z H Q I ⟨F,G,p,a.1,a.2,rel,e1,fun F1 H1 vs l1 u1 Zr ar=>?_⟩;have at':=N7 nt e2 ar;refine⟨by rw[<-at'.length];exact hz,fun q hq=>kq F1 _ _ l1 (u1.trans (Zd.lay hq).up) (Zr.same (Zd.lay hq)) ⟨q,vs,rfl,Yu.of Zw,by rw[<-at'.length];exact hz,Zq.up (Zd.lay hq).up (Le.refl _) _ _ at'⟩⟩
 .cases e
theorem oh{es:E}{xs:ZC}{pos:Pos}(hs:Hs X w false es xs)(hn:U3 es=true):PE X (.List xs pos) (LE X.K X.mg w (.lst es)):=by
 intro XF s Z H Q I ⟨F,G,p,r,p',rel,e,kq⟩
 replace e:=(Zx3 _).symm.trans e
 obtain⟨a,e1,e⟩:=ZO.mp e;obtain⟨ts,e2,e⟩:=ZO.mp e
 split at e
 .rename_i hz
  cases e;have nt:=Ry es hs e1 hn;refine pe_lst hs.pa XF s Z H Q I ⟨F,G,p,a.1,a.2,rel,e1,fun F1 H1 vs l1 u1 Zr ar=>?_⟩;have at':=N7 nt e2 ar;have z:vs.length<=sizeLine:=by rw[<-at'.length];exact hz
  exact⟨z,fun q hq=>let ⟨r1,r2⟩:=Zr.newL hq z at';kq F1 _ _ l1 (u1.trans (Zd.lay hq).up) r1 r2⟩
 .cases e
theorem Zjv{e:E}{Z:L2.St}{H:Hp}{R:Bool->Hp->Prop}(h:LB X.K X.mg w e Z H R):LE X.K X.mg w e Z H fun v H'=>∃b,v=.bl b/\R b H':=by
 obtain⟨F,G,p,b,p',rel,e,kq⟩:=h;unfold Dy at e;obtain⟨y,e1,e2⟩:=ZO.mp e
 split at e2
 .rename_i b' q
  cases e2;refine⟨F,G,p,y.1,y.2,rel,e1,fun F' H' v l u Yz rs=>?_⟩;rw[q]at rs;exact⟨_,rs,kq F' H' l u Yz⟩
 .cases e2
theorem y8{e:E}{x:Expr}(h:PE X x (LE X.K X.mg w e))(he:∀whole,isTrue x X.env whole=(do let v <-whole;standAt x.pos;holding [v] (truthy v))):PT X x (LB X.K X.mg w e):=fun XF s Z H R I q=>by
 refine pt_val h he XF s Z H R I ?_;obtain⟨F,G,p,r,p',rel,e,kq⟩:=Zjv q;exact⟨F,G,p,r,p',rel,e,fun F' H' v l u Yz rs=>let ⟨b,e1,h1⟩:=kq F' H' v l u Yz rs;⟨b,e1,h1⟩⟩
theorem Bk{o:Option (Sl×P)}{b:Bool}{p:P}(h:Dy o=some (b,p)):o=some (.f (.bl b),p):=by
 unfold Dy at h;obtain⟨y,e1,e2⟩:=ZO.mp h
 split at e2
 .rename_i b' q
  cases e2;rw[e1, <-q]
 .cases e2
theorem snd_and{a b:E}{x y:Expr}{r:ZC}{pos:Pos}(ha:PE X x (LE X.K X.mg w a))(hb:PE X (.BoolOp .And (y::r) pos) (LE X.K X.mg w b)):PE X (.BoolOp .And (x::y::r) pos) (LE X.K X.mg w (.and a b)):=by
 intro XF s Z H Q I ⟨F,G,p,r',p',rel,e,kq⟩
 replace e:=(X6 _ _).symm.trans e
 obtain⟨q,e1,e2⟩:=ZO.mp e;refine pe_and ha hb XF s Z H Q I ⟨F,G,p,_,_,rel,Bk e1,fun F' H' v l u Yz rs=>⟨q.1,rs, ?_⟩⟩
 split
 .rename_i hq
  rw[if_pos hq]at e2;exact⟨F',G,q.2,r',p',Yz,e2,fun F2 H2 v l2 u2=>kq F2 H2 v (l.trans l2) (u.trans u2)⟩
 .rename_i hq
  rw[if_neg hq]at e2;cases e2;exact kq F' H' _ l u Yz rfl
theorem snd_or{a b:E}{x y:Expr}{r:ZC}{pos:Pos}(ha:PE X x (LE X.K X.mg w a))(hb:PE X (.BoolOp .Or (y::r) pos) (LE X.K X.mg w b)):PE X (.BoolOp .Or (x::y::r) pos) (LE X.K X.mg w (.or a b)):=by
 intro XF s Z H Q I ⟨F,G,p,r',p',rel,e,kq⟩
 replace e:=(n8 _ _).symm.trans e
 obtain⟨q,e1,e2⟩:=ZO.mp e;refine pe_or ha hb XF s Z H Q I ⟨F,G,p,_,_,rel,Bk e1,fun F' H' v l u Yz rs=>⟨q.1,rs, ?_⟩⟩
 split
 .rename_i hq
  rw[if_pos hq]at e2;cases e2;exact kq F' H' _ l u Yz rfl
 .rename_i hq
  rw[if_neg hq]at e2;exact⟨F',G,q.2,r',p',Yz,e2,fun F2 H2 v l2 u2=>kq F2 H2 v (l.trans l2) (u.trans u2)⟩
theorem om{a:E}{x:Expr}{pos:Pos}(ha:PE X x (LE X.K X.mg w a)):PE X (.UnaryOp .Not x pos) (LE X.K X.mg w (.not a)):=by
 intro XF s Z H Q I ⟨F,G,p,r',p',rel,e,kq⟩
 replace e:=(X5 _).symm.trans e
 obtain⟨q,e1,e2⟩:=Yj.mp e;cases e2;exact pe_not ha XF s Z H Q I ⟨F,G,p,_,_,rel,Bk e1,fun F' H' v l u Yz rs=>⟨q.1,rs,kq F' H' _ l u Yz rfl⟩⟩
theorem oa{a b c:E}{x y z:Expr}{pos:Pos}(hc:PT X z (LB X.K X.mg w c))(ha:PE X x (LE X.K X.mg w a))(hb:PE X y (LE X.K X.mg w b)):PE X (.IfExp z x y pos) (LE X.K X.mg w (.ite c a b)):=by
 intro XF s Z H Q I ⟨F,G,p,r',p',rel,e,kq⟩
 replace e:=(Zx5 _ _ _).symm.trans e
 obtain⟨q,e1,e2⟩:=ZO.mp e;refine ba hc ha hb XF s Z H Q I ⟨F,G,p,q.1,q.2,rel,e1,fun F' H' l u Yz=>?_⟩;show if q.1=true then LE X.K X.mg w a Z H' Q else LE X.K X.mg w b Z H' Q
 split
 .rename_i hq
  rw[if_pos hq]at e2;exact⟨F',G,q.2,r',p',Yz,e2,fun F2 H2 v l2 u2=>kq F2 H2 v (l.trans l2) (u.trans u2)⟩
 .rename_i hq
  rw[if_neg hq]at e2;exact⟨F',G,q.2,r',p',Yz,e2,fun F2 H2 v l2 u2=>kq F2 H2 v (l.trans l2) (u.trans u2)⟩
theorem ao{a b:E}{x y:Expr}{r:ZC}{pos:Pos}(ha:PT X x (LB X.K X.mg w a))(hb:PW X (.BoolOp .And (y::r) pos) (LB X.K X.mg w b)):PW X (.BoolOp .And (x::y::r) pos) (LB X.K X.mg w (.and a b)):=by
 intro wh XF s Z H Q I ⟨F,G,p,c,p',rel,e,kq⟩;have e:=Bk e
 replace e:=(X6 _ _).symm.trans e
 obtain⟨q,e1,e2⟩:=ZO.mp e;refine pw_and ha hb wh XF s Z H Q I ⟨F,G,p,q.1,q.2,rel,e1,fun F' H' l u Yz=>?_⟩;show if q.1=true then LB X.K X.mg w b Z H' Q else Q false H'
 split
 .rename_i hq
  rw[if_pos hq]at e2;exact⟨F',G,q.2,c,p',Yz,by unfold Dy;rw[e2];rfl,fun F2 H2 l2 u2=>kq F2 H2 (l.trans l2) (u.trans u2)⟩
 .rename_i hq
  rw[if_neg hq]at e2;cases e2;exact kq F' H' l u Yz
theorem snt_or{a b:E}{x y:Expr}{r:ZC}{pos:Pos}(ha:PT X x (LB X.K X.mg w a))(hb:PW X (.BoolOp .Or (y::r) pos) (LB X.K X.mg w b)):PW X (.BoolOp .Or (x::y::r) pos) (LB X.K X.mg w (.or a b)):=by
 intro wh XF s Z H Q I ⟨F,G,p,c,p',rel,e,kq⟩;have e:=Bk e
 replace e:=(n8 _ _).symm.trans e
 obtain⟨q,e1,e2⟩:=ZO.mp e;refine pw_or ha hb wh XF s Z H Q I ⟨F,G,p,q.1,q.2,rel,e1,fun F' H' l u Yz=>?_⟩;show if q.1=true then Q true H' else LB X.K X.mg w b Z H' Q
 split
 .rename_i hq
  rw[if_pos hq]at e2;cases e2;exact kq F' H' l u Yz
 .rename_i hq
  rw[if_neg hq]at e2;exact⟨F',G,q.2,c,p',Yz,by unfold Dy;rw[e2];rfl,fun F2 H2 l2 u2=>kq F2 H2 (l.trans l2) (u.trans u2)⟩
theorem aa{a:E}{x:Expr}{pos:Pos}(ha:PT X x (LB X.K X.mg w a)):PT X (.UnaryOp .Not x pos) (LB X.K X.mg w (.not a)):=by
 intro XF s Z H Q I ⟨F,G,p,c,p',rel,e,kq⟩;have e:=Bk e
 replace e:=(X5 _).symm.trans e
 obtain⟨q,e1,e2⟩:=Yj.mp e;cases e2;exact pt_not ha XF s Z H Q I ⟨F,G,p,q.1,q.2,rel,e1,fun F' H' l u Yz=>kq F' H' l u Yz⟩
open Classical in
theorem Rel.freezeAll{K:PySem.W.Frag}{mg:ZV}{F G H:Hp}{p:P}{Z:L2.St}(r:Rel K mg F G p Z H):∃F',Le F F'/\Rel K mg F' G (frz p) Z H/\∀(i:Nat) (t:T) (a:Addr),p[i]?=some (Sl.o t)->Z[i]?=some (some (V.ref a))->F' a=H a:=by
 let F':Hp:=fun a=>if ∃(i:Nat) (t:T),p[i]?=some (Sl.o t)/\Z[i]?=some (some (V.ref a)) then H a else F a
 have fI:∀{a:Addr} {i:Nat} {t:T},p[i]?=some (Sl.o t)->Z[i]?=some (some (V.ref a))->F' a=H a:=fun {a i t} h1 h2=>if_pos ⟨i,t,h1,h2⟩;have fO:∀{a:Addr},(¬ ∃(i:Nat) (t:T),p[i]?=some (Sl.o t)/\Z[i]?=some (some (V.ref a)))->F' a=F a:=fun {a} h=>if_neg h
 have l:Le F F':=fun a o e=>by
  refine(fO fun⟨i,t,h1,h2⟩=>?_).trans e;obtain⟨b,h3,h4,_⟩:=r.ow i t h1;rw[h2]at h3;cases h3;rw[e]at h4;cases h4
 refine⟨F',l,⟨⟨fun a o e=>?_,r.b.g,fun a e=>?_⟩,fun i t e=>?_,fun i t e=>?_,fun i j t u a e=>?_,by unfold frz;rw[Z4];exact r.ln⟩,fun i t a h1 h2=>fI h1 h2⟩
 .by_cases h:∃(i:Nat) (t:T),p[i]?=some (Sl.o t)/\Z[i]?=some (some (V.ref a))
  .obtain⟨i,t,h1,h2⟩:=h;rw[fI h1 h2]at e;exact e
  .rw[fO h]at e;exact r.b.f a o e
 .by_cases h:∃(i:Nat) (t:T),p[i]?=some (Sl.o t)/\Z[i]?=some (some (V.ref a))
  .obtain⟨i,t,h1,h2⟩:=h;obtain⟨b,h3,_,h5,_⟩:=r.ow i t h1;rw[h2]at h3;cases h3;exact h5
  .rw[fO h]at e;exact r.b.d a e
 .unfold frz at e;rw[Cz]at e;obtain⟨x,e1,e2⟩:=Yj.mp e;cases x with
  | no=>cases e2
  | f u =>
   cases e2;obtain⟨v,h1,h2⟩:=r.fz i _ e1;exact⟨v,h1,IsT.up (Up.refl H) l _ v h2⟩
  | o u =>
   cases e2;obtain⟨a,h1,h2,h3,h4⟩:=r.ow i _ e1;obtain⟨o,ho⟩:=h4.some;exact⟨_,h1,Rx h4 ho l ((fI e1 h1).trans ho)⟩
 .unfold frz at e;rw[Cz]at e;obtain⟨x,e1,e2⟩:=Yj.mp e;cases x<;>cases e2
 .unfold frz at e;rw[Cz]at e;obtain⟨x,e1,e2⟩:=Yj.mp e;cases x<;>cases e2
theorem og{a:E}{x:Expr}(ha:PE X x (LE X.K X.mg w a)):PE X x (LE X.K X.mg w (.tmp a)):=by
 intro XF s Z H Q I ⟨F,G,p,r,p',rel,e,kq⟩
 replace e:=(Zx2 _).symm.trans e
 obtain⟨q,e1,e2⟩:=ZO.mp e
 split at e2
 .rename_i hs
  cases e2;obtain⟨F1,l1,Zr,own⟩:=rel.freezeAll;unfold toT at e1;obtain⟨y,e3,e4⟩:=ZO.mp e1;obtain⟨t,e5,e6⟩:=Yj.mp e4;cases e6;refine ha XF s Z H Q I ⟨F1,G,frz _,y.1,y.2,Zr,e3,fun F2 H2 v l2 u2 Zs rs=>?_⟩;obtain⟨F3,l3,Ke,ht⟩:=Zs.thaw e5 rs;have l13:=l2.trans l3
  have rel0:Rel X.K X.mg F G _ Z H2:=⟨⟨fun a o e=>Ke.b.f a o (l13 a o (l1 a o e)),Ke.b.g,rel.b.d⟩,fun i t e=>let ⟨v,h1,h2⟩:=rel.fz i t e;⟨v,h1,IsT.up u2 (Le.refl F) t v h2⟩,fun i t e=>by
   obtain⟨a,h1,h2,h3,h4⟩:=rel.ow i t e;obtain⟨o,ho⟩:=h4.some;exact⟨a,h1,h2,h3,h4.up u2 (Le.refl F) ((Ke.b.f a o (l13 a o ((own i t a e h1).trans ho))).trans ho.symm)⟩,rel.ap,rel.ln⟩
  refine kq F H2 v (Le.refl F) u2 rel0 ?_;cases t<;>first | exact ht | cases hs
 .cases e2
end
section
variable{X:Cx}{w:W}{k:Nat}{N:ZD}{sc:ZK}
theorem kj(c:Ctx X w k N sc){f:Str}{es:E}{x:Expr}{xs:ZC}{p0 pos:Pos}(hs:Hs X w false es (x::xs))(hg:Wy sc f=true):PE X (.Call (.Name f p0) (x::xs) [] pos) (LE X.K X.mg w (.call f es)):=by
 intro XF s Z H Q I ⟨F,G,p,r,p',rel,e,kq⟩
 replace e:=(lz _ _).symm.trans e
 obtain⟨a,e1,e⟩:=ZO.mp e;obtain⟨sl,e2,e⟩:=ZO.mp e;obtain⟨rr,e3,e⟩:=ZO.mp e;obtain⟨p2,e4,e⟩:=Yj.mp e;cases e;obtain⟨ps,hl,Gf⟩:=c.fn f sl rr e3;obtain⟨gg,gd⟩:=c.gl' hg;have Bo:=hs.star;refine mj Gf c.room gg hs.pa gd (Ys (Bo _ Vt)) (Y6 _ _ _ fun e m=>Bo e (Vf _ m)) XF s Z H Q I ⟨F,G,p,a.1,a.2,rel,e1,fun F1 H1 vs l1 u1 Zr ar=>?_⟩;show spC X.K X.mg ps.length (w.C f) (vs++[]) H1 Q E0;rw[XQ];exact Zr.call ar e2 e3 e4 (by rw[<-Paired.length ar, <-Dx e2];exact hl) fun F' H' v l u=>kq F' H' v (l1.trans l) (u1.trans u)
theorem oi(c:Ctx X w k N sc){i:Nat}{y:Str}{es:E}{x:Expr}{xs:ZC}{p0 pos:Pos}(hs:Hs X w false es (x::xs))(hg:U9 N sc i y=true):PE X (.Call (.Name y p0) (x::xs) [] pos) (LE X.K X.mg w (.cal i es)):=by
 intro XF s Z H Q I ⟨F,G,p,r,p',rel,e,kq⟩
 replace e:=(Zx6 _ _).symm.trans e
 split at e
 .rename_i f ef
  obtain⟨a,e1,e⟩:=ZO.mp e;obtain⟨sl,e2,e⟩:=ZO.mp e;obtain⟨rr,e3,e⟩:=ZO.mp e;obtain⟨p2,e4,e⟩:=Yj.mp e;cases e;obtain⟨ps,hl,f',fd,Fk,b,kp,m⟩:=c.fn f sl rr e3;obtain⟨v,hv,a',rfl,hm⟩:=rel.fz i _ ef;rw[m]at hm;cases hm;have Bo:=hs.star;refine b8 (c.var hg) hs.pa (Ys (Bo _ Vt)) (Y6 _ _ _ fun e m=>Bo e (Vf _ m)) XF s Z H Q I ⟨_,hv,f',ps,_,rfl,⟨⟨k,fd,Fk,b,c.room⟩,kp⟩,F,G,p,a.1,a.2,rel,e1,fun F1 H1 vs l1 u1 Zr ar=>?_⟩;exact Zr.call ar e2 e3 e4 (by rw[<-Paired.length ar, <-Dx e2];exact hl) fun F' H' v l u=>kq F' H' v (l1.trans l) (u1.trans u)
 .cases e
theorem Ky{K:PySem.W.Frag}{mg:ZV}{H F:Hp}{a:Addr}{t:T}{o:HO}(h:Pu K mg H F a t):Up K H (upd H a o):=by
 cases t with
 | lst ts=>obtain⟨vs,q,_⟩:=h;exact Kv q
 | dct ts =>
  obtain⟨ks,q,_⟩:=h;intro c xs r
  have ne:∀u,H c=some u->(∀ys,u≠.dK ys)->c≠a:=fun u e n z=>by
   rw[z,q]at e;cases e;exact n _ rfl
  rcases r with (r | ⟨u,r⟩) | r
  .exact .inl (.inl (by rw[Zz (ne _ r fun _ z=>nomatch z)];exact r))
  .exact .inl (.inr ⟨u,by rw[Zz (ne _ r fun _ z=>nomatch z)];exact r⟩)
  .exact .inr r
 | _=>exact h.elim
theorem Rel.mut{K:PySem.W.Frag}{mg:ZV}{F G H:Hp}{p:P}{Z:L2.St}{i:Nat}{t t':T}{a:Addr}{o:HO}(r:Rel K mg F G p Z H)(e:p[i]?=some (Sl.o t))(hσ:Z[i]?=some (some (V.ref a)))(h:Pu K mg (upd H a o) F a t'):Up K H (upd H a o)/\Rel K mg F G (p.set i (.o t')) Z (upd H a o):=by
 obtain⟨a',h1,h2,h3,h4⟩:=r.ow i t e;rw[hσ]at h1;cases h1;have u:Up K H (upd H a o):=Ky h4;refine⟨u,⟨fun b x q=>?_,fun b x q=>?_,r.b.d⟩,fun j u' q=>?_,fun j u' q=>?_,fun j l t1 t2 b q1 q2=>?_,by rw[XY];exact r.ln⟩
 .rw[Zz fun z=>by rw[z,h2]at q;cases q];exact r.b.f b x q
 .rw[Zz fun z=>by rw[z,h3]at q;cases q];exact r.b.g b x q
 .rcases Zu q with ⟨_,z⟩ | ⟨_,q⟩
  .cases z
  .obtain⟨v,g1,g2⟩:=r.fz j _ q;exact⟨v,g1,IsT.up u (Le.refl F) _ v g2⟩
 .rcases Zu q with ⟨z,y⟩ | ⟨n,q⟩
  .cases y;subst z;exact⟨a,hσ,h2,h3,h⟩
  .obtain⟨b,g1,g2,g3,g4⟩:=r.ow j _ q;have nb:b≠a:=fun z=>by subst z;exact n (r.ap j i _ _ b q e g1 hσ)
   exact⟨b,g1,g2,g3,g4.up u (Le.refl F) (Zz nb)⟩
 .have own:∀{j:Nat} {t1:T},(p.set i (Sl.o t'))[j]?=some (Sl.o t1)->∃t2,p[j]?=some (Sl.o t2):=fun {j t1} q=>by
   rcases Zu q with ⟨z,y⟩ | ⟨_,q⟩
   .subst z;exact⟨t,e⟩
   .exact⟨_,q⟩
  obtain⟨_,q1⟩:=own q1;obtain⟨_,q2⟩:=own q2;exact r.ap j l _ _ b q1 q2
noncomputable def mtN:Mt->Str
 | .append => "append"
 | .extend => "extend"
 | .pop => "pop"
 | .popAt => "pop"
 | .insert => "insert"
noncomputable def mtI:Mt->String
 | .append => "list.append"
 | .extend => "list.extend"
 | .pop => "list.pop"
 | .popAt => "list.pop"
 | .insert => "list.insert"
def rM(X:Cx)(id:String):V->ZQ->Hp->VK->Prop:=fun x xs H Q=>∀XF s Z v us,Inv X XF Z H s->RelV x v->Zv xs us->wpAny (model X.prog X.w) X.A (call (.builtin id) (v::us)) (EP X XF Z Q) X.xe s
theorem mtr{id:String}:MtR X id (rM X id):=fun XF s Z _ _ _ v us _ I rx rs h=>h XF s Z v us I rx rs
theorem Zq.erase{K:PySem.W.Frag}{mg:ZV}{H F:Hp}:∀{ts:ZZ} {vs:ZQ} (n:Nat),Zq K mg H F ts vs->Zq K mg H F (ts.eraseIdx n) (vs.eraseIdx n)
 | [],vs,n,h=>by cases(show vs=[] from h);rfl
 | t::ts,vs,0,h=>by obtain⟨v,r,rfl,q,w⟩:=h;exact w
 | t::ts,vs,n+1,h=>by obtain⟨v,r,rfl,q,w⟩:=h;exact⟨v,_,rfl,q,Zq.erase n w⟩
theorem mt_run{XF:ZY}{s:Shared}{Z σ':L2.St}{F₁ G H:Hp}{p:P}{i:Nat}{m:Mt}{t t' z:T}{ts:ZZ}{a:Addr}{vs:ZQ}{us:ZM}{Q:VK}(I:Inv X XF σ' H s)(rel:Rel X.K X.mg F₁ G p Z H)(e:p[i]?=some (Sl.o t))(hσ:Z[i]?=some (some (V.ref a)))(rs:Zv vs us)
  (at':Zq X.K X.mg H F₁ ts vs) (em:mtT m t ts=some (t',z)) (q:Fin X F₁ G (p.set i (.o t')) Z H (.f z) Q):wpAny (model X.prog X.w) X.A (call (.builtin (mtI m)) (.ref a::us)) (EP X XF σ' Q) X.xe s:=by
 obtain⟨a',h1,h2,h3,h4⟩:=rel.ow i t e;rw[hσ]at h1;cases h1
 have fin:∀{ys:ZQ} {ts':ZZ} {v:V},t'=.lst ts'->ys.length<=sizeLine->Zq X.K X.mg H F₁ ts' ys->IsT X.K X.mg H F₁ z v->Q v (upd H a (.lst ys)):=fun {ys ts' v} et z1 ar iv=>by
  subst et;have u:Up X.K H (upd H a (.lst ys)):=Ky h4;obtain⟨u,Yz⟩:=rel.mut (t':=.lst ts') e hσ ⟨ys,Zw,z1,Zq.up u (Le.refl _) _ _ ar⟩;exact q _ _ _ (Le.refl _) u Yz (IsT.up u (Le.refl _) _ _ iv)
 unfold mtT at em
 split at em
 .split at em
  .rename_i hz
   cases em;obtain⟨ys,g1,g2,g3⟩:=h4;obtain⟨y,r,rfl,iy,er⟩:=at';cases(show r=[] from er);have l1:=g3.length;exact Lh XF s σ' H (.ref a) _ (.ref a) us Q I rfl rs ⟨a,ys,y,rfl,rfl,g1,by omega,fin rfl (by rw[Gg];simp;omega) (g3.append (Zq.one iy)) rfl⟩
  .cases em
 .obtain⟨j,e1,e2⟩:=ZO.mp em;obtain⟨x,e3,e4⟩:=Yj.mp e2;cases e4;obtain⟨ys,g1,g2,g3⟩:=h4;obtain⟨y,r,rfl,iy,er⟩:=at';cases(show r=[] from er);cases(show y=_ from iy);have l1:=g3.length;obtain⟨y,e5,iy⟩:=g3.get e3;obtain⟨q1,q2,q3,q4⟩:=Ql e1;have hs:=sizeLine_eq;refine de XF s σ' H (.ref a) _ (.ref a) us Q I rfl rs ⟨a,ys,_,j,y,rfl,rfl,g1,by omega,by omega,by rw[<-l1];exact q1,e5,fin rfl (by rw[List.length_eraseIdx];split<;>omega) (g3.erase j) iy⟩
 .cases em
end
section
variable{X:Cx}{XF:ZY}{Z:L2.St}{H:Hp}{s:Shared}
def NF(X:Cx)(d:Addr):Prop:=∀o u,X.H₀ d≠some (.frz o u)
theorem nf_of{d:Addr}{XB:List (Key×V)}(I:Inv X XF Z H s)(e:H d=some (.dK XB)):NF X d:=fun o u z=>by
 have:=I.base.frzs d o u z;rw[e]at this;cases this
theorem melt{d:Addr}{o:Obj}{XB:List (Key×V)}(I:Inv X XF Z H s)(e:H d=some (.frz o (.dK XB)))(nf:NF X d):Inv X XF Z (upd H d (.dK XB)) s:=by
 have ne:∀{b:Addr} {u:HO},H b=some u->(∀o k,u≠.frz o k)->b≠d:=fun h n z=>by
  rw[z,e]at h;cases h;exact n _ _ rfl
 have nn:∀{b:Addr},H b=none->upd H d (.dK XB) b=none:=fun {b} h=>by
  rw[Zz fun z=>by rw[z,e]at h;cases h];exact h
 refine⟨I.ok,I.os,I.bare,⟨I.base.keep,I.base.slot,fun b o' h1 h2 h3=>nn (I.base.free b o' h1 h2 h3),I.base.there,fun b xs h=>?_,fun b o' u h=>?_,fun b ps h=>?_⟩,I.loc,I.cell,nn I.free,fun x c h=>nn (I.freeC x c h),fun p hp=>let ⟨h1,h2,h3⟩:=I.pin p hp;⟨h1,nn h2,h3⟩,fun b u h=>?_,I.len⟩
 .have:=I.base.tups b xs h;rw[Zz (ne this fun _ _ z=>nomatch z)];exact this
 .have:=I.base.frzs b o' u h;rw[Zz fun z=>by subst z;exact nf _ _ h];exact this
 .obtain⟨more,this⟩:=I.base.tbls b ps h;exact⟨more,by rw[Zz (ne this fun _ _ z=>nomatch z)];exact this⟩
 .by_cases q:b=d
  .subst q;rw[Zw]at h;cases h;obtain⟨ho,z,y,vs,r,o',es,ep,Wn,c⟩:=(show Zp X.prog X.w H s.heap b (.frz o (.dK XB)) from I.hok b _ e);exact⟨z,y,vs,r,o',es,ep,Wn,c⟩
  .rw[Zz q]at h;refine(I.hok b u h).stay (fun c v hc q=>q) (fun c q=>?_) fun c xs q=>?_
   .rw[Zz (ne q fun _ _ z=>nomatch z)];exact q
   .rw[Zz (ne q fun _ _ z=>nomatch z)];exact q
def Mel(X:Cx)(H H':Hp):Prop:=H'=H\/∃d o ks,H d=some (.frz o (.dK ks))/\NF X d/\H'=upd H d (.dK ks)
theorem Nf{H':Hp}(I:Inv X XF Z H s)(m:Mel X H H'):Inv X XF Z H' s:=by
 rcases m with rfl | ⟨d,o,ks,e,nf,rfl⟩
 .exact I
 .exact melt I e nf
theorem PE.mel{e:Expr}{t:TE}(h:PE X e t):PE X e (fun Z H Q=>t Z H fun v H1=>∃H2,Mel X H1 H2/\Q v H2):=fun XF s Z H Q I q =>
 Z9 (h XF s Z H _ I q) fun u s1 ⟨v,H1,I1,r1,H2,m,q1⟩=>⟨v,H2,Nf I1 m,r1,q1⟩
def tj(X:Cx)(D:Ends):Ends:=⟨fun Z H=>∃H2,Mel X H H2/\D.nx Z H2,fun v H=>∃H2,Mel X H H2/\D.rt v H2,fun Z H=>∃H2,Mel X H H2/\D.bk Z H2,fun Z H=>∃H2,Mel X H H2/\D.ct Z H2⟩
theorem PS.mel{st:Stmt}{t:TS}(h:PS X st t):PS X st (fun D Z H=>t (tj X D) Z H):=fun XF s Z H D I q =>
 Z9 (h XF s Z H _ I q) fun f s1 q1=>by
  cases f with
  | next=>obtain⟨σ',H',I',H2,m,q2⟩:=q1;exact⟨σ',H2,Nf I' m,q2⟩
  | brk=>obtain⟨σ',H',I',H2,m,q2⟩:=q1;exact⟨σ',H2,Nf I' m,q2⟩
  | cont=>obtain⟨σ',H',I',H2,m,q2⟩:=q1;exact⟨σ',H2,Nf I' m,q2⟩
  | ret u=>obtain⟨v,σ',H',I',r,H2,m,q2⟩:=q1;exact⟨v,σ',H2,Nf I' m,r,q2⟩
theorem bc{tg l:Expr}{tl:TE}(hl:PE X l tl):PI X tg l (fun Z H R=>tl Z H fun x H1=>(∃d XB,x=.ref d/\H1 d=some (.dK XB)/\∀o,NF X d->R (Itd d o XB) (upd H1 d (.frz o (.dK XB))))\/∃d o XB,x=.ref d/\H1 d=some (.frz o (.dK XB))/\R (Itd d o XB) H1):=by
 intro XF s Z H R I h;refine Z9 (hl XF s Z H _ I h) fun v s1 ⟨x,H1,I1,r1,q1⟩=>?_
 have go:∀{d:Addr} {o:Obj} {XB:List (Key×V)} {H2:Hp},x=.ref d->Inv X XF Z H2 s1->H2 d=some (.frz o (.dK XB))->R (Itd d o XB) H2->wpAny (model X.prog X.w) X.A (pyIter v) (PIE X XF Z tg R) X.xe s1:=fun {d o XB H2} ex I2 e q=>by
  subst ex;cases r1;obtain⟨vs,es,ep,y,r,e',m⟩:=at_of I2 e;have ln:=r.length;refine wpAny_pyIter_dict y m ?_;refine⟨s1.heap.objs.size,[s1.heap.objs.size],_,_,_,rfl,I2.kept (t':=s1.toks) fun b o e=>Yr _ e,z9 d _ o XB es ep e',⟨_,U1 _ rfl,rfl,by rw[ln];rfl⟩,fun b hb=>?_,q⟩;have e:b=s1.heap.objs.size:=by simpa using hb
  subst e;exact I2.fpOk (Z5 _) (I2.hok.fresh (Z5 _))
 rcases q1 with ⟨d,XB,ex,hd,q⟩ | ⟨d,o,XB,ex,hd,q⟩
 .obtain⟨o,ho,I2⟩:=I1.freeze hd;exact go ex I2 Zw (q o (nf_of I1 hd))
 .exact go ex I1 hd q
end
def Frz(X:Cx)(F H F' H':Hp):Prop:=(F'=F/\H'=H)\/∃d o ks,F d=some (.dK ks)/\NF X d/\F'=upd F d (.frz o (.dK ks))/\H'=upd H d (.frz o (.dK ks))
def Walk(K:W.Frag)(mg:ZV)(J:It)(F H:Hp)(xs:ZZ):Prop:=∀i F1 H1,Le F F1->Up K H H1->(∀a o,F1 a=some o->H1 a=some o) ->
 (∀t,xs[i]?=some t->J.go i H1/\∀x H2,J.yld i H1 x H2->Zd H1 H2/\IsT K mg H2 F1 t x)/\(i=xs.length->J.stop i H1)
inductive LI_I(X:Cx)(w:W)(e:E)(Z:L2.St)(H:Hp)(R:(It->Hp->Prop)):Prop
 | mk(F G p xs p')(Y1:Rel X.K X.mg F G p Z H)(Y0:pq (ev w e p)=some (xs,p'))(V7:∀F1 H1 F' H' J,Le F F1->Up X.K H H1->Rel X.K X.mg F1 G p' Z H1->Frz X F1 H1 F' H'->xs.length<=sizeLine->Walk X.K X.mg J F' H' xs->R J H'):LI_I X w e Z H R
def LI(X:Cx)(w:W)(e:E):TI:=fun Z H R=>LI_I X w e Z H R
theorem u9{F H:Hp}{d:Addr}{o:Obj}{ks:List (Key×V)}(e:F d=some (.dK ks)):uw F (upd F d (.frz o (.dK ks))):=⟨fun a vs r=>by
  by_cases z:a=d
  .subst z;rcases r with r | ⟨_,r⟩<;>rw[e]at r<;>cases r
  .unfold Rd;rw[Zz z];exact r,fun a vs r=>by
  by_cases z:a=d
  .subst z;rcases r with r | ⟨_,r⟩
   .rw[e]at r;cases r;exact .inr ⟨o,Zw⟩
   .rw[e]at r;cases r
  .unfold Rd;rw[Zz z];exact r⟩
theorem Ao{F:Hp}{d:Addr}{o:Obj}{ks:List (Key×V)}(e:F d=some (.frz o (.dK ks))):uw F (upd F d (.dK ks)):=⟨fun a vs r=>by
  by_cases z:a=d
  .subst z;rcases r with r | ⟨_,r⟩<;>rw[e]at r<;>cases r
  .unfold Rd;rw[Zz z];exact r,fun a vs r=>by
  by_cases z:a=d
  .subst z;rcases r with r | ⟨_,r⟩
   .rw[e]at r;cases r
   .rw[e]at r;cases r;exact .inl Zw
  .unfold Rd;rw[Zz z];exact r⟩
theorem Zqa{K:W.Frag}{H:Hp}{d:Addr}{o o':HO}(e:H d=some o)(n:∀xs,o≠.tup xs)(n':∀u xs,o≠.frz u (.tup xs)):Up K H (upd H d o'):=fun c xs q=>by
 rcases q with (q | ⟨u,q⟩) | q
 .exact .inl (.inl (by rw[Zz fun z=>by rw[z,e]at q;cases q;exact n _ rfl];exact q))
 .exact .inl (.inr ⟨u,by rw[Zz fun z=>by rw[z,e]at q;cases q;exact n' _ _ rfl];exact q⟩)
 .exact .inr q
section
variable{X:Cx}{w:W}{F F' G H H':Hp}{p:P}{Z:L2.St}
theorem Rel.turn{K:PySem.W.Frag}{mg:ZV}{d:Addr}{o o':HO}(r:Rel K mg F G p Z H)(e:F d=some o)(u:Up K H (upd H d o'))(l:uw F (upd F d o')):Rel K mg (upd F d o') G p Z (upd H d o'):=by
 refine⟨⟨fun a x q=>?_,fun a x q=>?_,fun a q=>?_⟩,fun i t q=>let ⟨v,h1,h2⟩:=r.fz i t q;⟨v,h1,IsT.upR u l t v h2⟩,fun i t q=>?_,r.ap,r.ln⟩
 .by_cases z:a=d
  .subst z;rw[Zw]at q ⊢;exact q
  .rw[Zz z]at q ⊢;exact r.b.f a x q
 .have gd:G d=none:=r.b.d d (by rw[e];exact fun z=>nomatch z);rw[Zz fun z=>by rw[z,gd]at q;cases q];exact r.b.g a x q
 .by_cases z:a=d
  .subst z;exact r.b.d a (by rw[e];exact fun z=>nomatch z)
  .rw[Zz z]at q;exact r.b.d a q
 .obtain⟨a,h1,h2,h3,h4⟩:=r.ow i t q;have z:a≠d:=fun z=>by subst z;rw[h2]at e;cases e
  refine⟨a,h1,by rw[Zz z];exact h2,h3, ?_⟩;cases t with
  | lst ts=>obtain⟨vs,q1,q2,q3⟩:=h4;exact⟨vs,by rw[Zz z];exact q1,q2,Zq.upR u l ts vs q3⟩
  | dct ts=>obtain⟨vs,q1,q2,q3⟩:=h4;exact⟨vs,by rw[Zz z];exact q1,q2,Zt.upR u l ts vs q3⟩
  | _=>exact h4.elim
theorem Frz.rel(z:Frz X F H F' H')(r:Rel X.K X.mg F G p Z H):Rel X.K X.mg F' G p Z H'/\Up X.K H H'/\uw F F':=by
 rcases z with ⟨rfl,rfl⟩ | ⟨d,o,ks,e,nf,rfl,rfl⟩
 .exact⟨r,Up.refl _,(Le.refl _).r⟩
 .have u:Up X.K H (upd H d (.frz o (.dK ks))):=Zqa (r.b.f d _ e) (fun _ z=>nomatch z) fun _ _ z=>nomatch z;have l:=u9 (H:=H) (o:=o) e;exact⟨r.turn e u l,u,l⟩
theorem Frz.back{p2:P}{σ2:L2.St}{F2 H2:Hp}(z:Frz X F H F' H')(l:Le F' F2)(r:Rel X.K X.mg F2 G p2 σ2 H2):∃F3 H3,Le F F3/\Rel X.K X.mg F3 G p2 σ2 H3/\Mel X H2 H3/\Up X.K H2 H3/\uw F2 F3/\(∀a,F2 a=none->F3 a=none)/\∀a,F2 a=none->H3 a=H2 a:=by
 rcases z with ⟨rfl,rfl⟩ | ⟨d,o,ks,e,nf,rfl,rfl⟩
 .exact⟨F2,H2,l,r,.inl rfl,Up.refl _,(Le.refl _).r,fun _ h=>h,fun _ _=>rfl⟩
 .have e2:F2 d=some (.frz o (.dK ks)):=l d _ Zw;have eh:=r.b.f d _ e2;have u:Up X.K H2 (upd H2 d (.dK ks)):=Zqa eh (fun _ z=>nomatch z) fun _ _ z=>by cases z
  refine⟨upd F2 d (.dK ks),upd H2 d (.dK ks),fun a x q=>?_,r.turn e2 u (Ao e2),.inr ⟨d,o,ks,eh,nf,rfl⟩,u,Ao e2,fun a h=>?_,fun a h=>?_⟩
  .by_cases za:a=d
   .subst za;rw[e]at q;cases q;exact Zw
   .rw[Zz za];exact l a x (by rw[Zz za];exact q)
  .rw[Zz fun z=>by rw[z,e2]at h;cases h];exact h
  .rw[Zz fun z=>by rw[z,e2]at h;cases h]
end
section
variable{K:W.Frag}{mg:ZV}{F H:Hp}
theorem vm{a:Addr}{ts:ZZ}{vs:ZQ}(h1:Yu K H a vs)(ar:Zq K mg H F ts vs):Walk K mg (Itt K a) F H ts:=fun i F1 H1 l u fh=>by
 have Mv:=Zq.up u l _ _ ar;refine⟨fun t e=>?_,fun e=>⟨vs,u _ _ h1,by rw[e,ar.length];exact Z5 _⟩⟩;obtain⟨v,e1,h2⟩:=Mv.get e;refine⟨⟨vs,v,u _ _ h1,e1⟩,fun x H2 y=>?_⟩;obtain⟨rfl,y⟩:=y;have:=y vs (u _ _ h1);rw[e1]at this;cases this;exact⟨Zd.refl _,h2⟩
theorem vc{a:Addr}{ts:ZZ}{vs:ZQ}(h1:Rd F a (.lst vs))(ar:Zq K mg H F ts vs):Walk K mg (Itl K a) F H ts:=fun i F1 H1 l u fh=>by
 have Mv:=Zq.up u l _ _ ar
 have sq:Vi K H1 a vs:=.inl (by
  rcases l.r.l a vs h1 with q | ⟨o,q⟩
  .exact .inl (fh _ _ q)
  .exact .inr ⟨o,fh _ _ q⟩)
 refine⟨fun t e=>?_,fun e=>⟨vs,sq,by rw[e,ar.length];exact Z5 _⟩⟩;obtain⟨v,e1,h2⟩:=Mv.get e;refine⟨⟨vs,v,sq,e1⟩,fun x H2 y=>?_⟩;obtain⟨rfl,y⟩:=y;have:=y vs sq;rw[e1]at this;cases this;exact⟨Zd.refl _,h2⟩
theorem P0{d:Addr}{o:Obj}{XB:ZX}{ks:List (Key×V)}(h1:F d=some (.frz o (.dK ks)))(ek:XB.map (·.1)=ks.map (·.1)):Walk K mg (Itd d o ks) F H (XB.map fun p=>Te p.1):=fun i F1 H1 l u fh=>by
 have hd:=fh _ _ (l d _ h1);have ln:XB.length=ks.length:=by have:=congrArg List.length ek;simpa using this
 refine⟨fun t e=>?_,fun e=>⟨by rw[e,Z4,ln];exact Z5 _,hd⟩⟩;rw[Cz]at e;obtain⟨q,e1,rfl⟩:=Yj.mp e;have hi:=(Bz.mp e1).1;refine⟨⟨by omega,hd⟩,fun x H2 y=>?_⟩;obtain⟨rfl,k,z,e2,rfl⟩:=y;have e3:(XB.map (·.1))[i]?=some q.1:=by rw[Cz,e1];rfl
 rw[ek,Cz,e2]at e3;cases e3;exact⟨Zd.refl _,Xr _⟩
theorem vd{z:Str}:Walk K mg (Its z) F H (z.cps.toList.map fun c=>T.str ⟨#[c]⟩):=fun i F1 H1 l u fh=>by
 refine⟨fun t e=>?_,fun e=>by rw[Z4,W8]at e;exact Nat.le_of_eq e.symm⟩;rw[Cz]at e;obtain⟨c,e1,rfl⟩:=Yj.mp e;have e1:z.cps[i]?=some c:=by simpa using e1
 refine⟨(Array.getElem?_eq_some_iff.mp e1).1,fun x H2 y=>?_⟩;obtain⟨rfl,c',e2,rfl⟩:=y;rw[e1]at e2;cases e2;exact⟨Zd.refl _,rfl⟩
theorem vt{n:Nat}:Walk K mg (Itr 0 n) F H ((List.range n).map fun k=>T.int (k:Nat)):=fun i F1 H1 l u fh=>by
 refine⟨fun t e=>?_,fun e=>by rw[Z4,XJ]at e;exact Nat.le_of_eq e.symm⟩;rw[Cz]at e;obtain⟨c,e1,rfl⟩:=Yj.mp e;have hi:=(Bz.mp e1);obtain⟨hi,e2⟩:=hi;rw[XJ]at hi;rw[List.getElem_range]at e2;subst e2;refine⟨hi,fun x H2 y=>?_⟩;obtain⟨rfl,rfl⟩:=y;exact⟨Zd.refl _,by show V.int _=V.int _;rw[Int.zero_add]⟩
theorem Oo{H1 H2 F1:Hp}{q:Addr}{t u:T}{x y:V}(hq:H1 q=none)(e:H2=upd H1 q (.tup [x,y]))(ht:IsT K mg H1 F1 t x)(hu:IsT K mg H1 F1 u y):Zd H1 H2/\IsT K mg H2 F1 (.tup [t,u]) (.ref q):=by
 subst e;have s:Zd H1 (upd H1 q (.tup [x,y])):=Zd.lay hq;exact⟨s,q,_,rfl,Yu.of Zw,by show 2<=sizeLine;decide,x,_,rfl,IsT.up s.up (Le.refl _) _ _ ht,y,_,rfl,IsT.up s.up (Le.refl _) _ _ hu,rfl⟩
theorem Po{a b:ZZ}{i:Nat}{t:T}(e:(Cd a b)[i]?=some t):∃x y,a[i]?=some x/\b[i]?=some y/\t=.tup [x,y]:=by
 unfold Cd at e;rw[Cz]at e;obtain⟨q,e1,rfl⟩:=Yj.mp e;rw[List.getElem?_zip_eq_some]at e1;exact⟨_,_,e1.1,e1.2,rfl⟩
theorem Me{a b:ZZ}:(Cd a b).length=min a.length b.length:=by unfold Cd;rw[Z4,List.length_zip]
theorem zi{a b:Addr}{ts us:ZZ}{vs ws:ZQ}(h1:Yu K H a vs)(ar:Zq K mg H F ts vs)(h2:Yu K H b ws)(br:Zq K mg H F us ws):Walk K mg (Itzt K a b) F H (Cd ts us):=fun i F1 H1 l u fh=>by
 have Mv:=Zq.up u l _ _ ar;have br1:=Zq.up u l _ _ br;refine⟨fun t e=>?_,fun e=>⟨vs,ws,u _ _ h1,u _ _ h2,by rw[Me,ar.length,br.length]at e;omega⟩⟩;obtain⟨x,y,e1,e2,rfl⟩:=Po e;obtain⟨v,g1,g2⟩:=Mv.get e1;obtain⟨v',g3,g4⟩:=br1.get e2;refine⟨⟨vs,ws,v,v',u _ _ h1,u _ _ h2,g1,g3⟩,fun z H2 yl=>?_⟩;obtain⟨q,x',y',rfl,hq,hH,k1,k2⟩:=yl;have:=k1 vs (u _ _ h1);rw[g1]at this;cases this;have:=k2 ws (u _ _ h2);rw[g3]at this;cases this;exact Oo hq hH g2 g4
theorem ze{a b:Addr}{ts us:ZZ}{vs ws:ZQ}(h1:Rd F a (.lst vs))(ar:Zq K mg H F ts vs)(h2:Rd F b (.lst ws))(br:Zq K mg H F us ws):Walk K mg (Itz K a b) F H (Cd ts us):=fun i F1 H1 l u fh=>by
 have Mv:=Zq.up u l _ _ ar;have br1:=Zq.up u l _ _ br
 have sq:∀{a:Addr} {vs:ZQ},Rd F a (.lst vs)->Vi K H1 a vs:=fun {a vs} h=>.inl (by
  rcases l.r.l a vs h with q | ⟨o,q⟩
  .exact .inl (fh _ _ q)
  .exact .inr ⟨o,fh _ _ q⟩)
 refine⟨fun t e=>?_,fun e=>⟨vs,ws,sq h1,sq h2,by rw[Me,ar.length,br.length]at e;omega⟩⟩;obtain⟨x,y,e1,e2,rfl⟩:=Po e;obtain⟨v,g1,g2⟩:=Mv.get e1;obtain⟨v',g3,g4⟩:=br1.get e2;refine⟨⟨vs,ws,v,v',sq h1,sq h2,g1,g3⟩,fun z H2 yl=>?_⟩;obtain⟨q,x',y',rfl,hq,hH,k1,k2⟩:=yl;have:=k1 vs (sq h1);rw[g1]at this;cases this;have:=k2 ws (sq h2);rw[g3]at this;cases this;exact Oo hq hH g2 g4
end
section
variable{X:Cx}{w:W}{k:Nat}{N:ZD}{sc:ZK}
theorem Co{o:Option (Sl×P)}{t:T}{p:P}(h:toT o=some (t,p)):∃r,o=some (r,p)/\thaw r=some t:=by
 unfold toT at h;obtain⟨y,e1,e2⟩:=ZO.mp h;obtain⟨t',e3,e4⟩:=Yj.mp e2;cases e4;exact⟨y.1,e1,e3⟩
theorem yf{o:Option (Sl×P)}{ts:ZZ}{p:P}(h:pq o=some (ts,p)):∃r t,o=some (r,p)/\thaw r=some t/\M0 t=some ts:=by
 unfold pq at h;obtain⟨y,e1,e2⟩:=ZO.mp h;obtain⟨t',e3,e4⟩:=Yj.mp e2;cases e4;obtain⟨r,e5,e6⟩:=Co (p:=y.2) (t:=y.1) e1;exact⟨r,y.1,e5,e6,e3⟩
theorem y6{it:E}{tg iter:Expr}(h:PE X iter (LE X.K X.mg w it)):PI X tg iter (LI X w it):=by
 intro XF s Z H R I ⟨F,G,p,xs,p',rel,e,kq⟩;obtain⟨r,t,e1,e2,e3⟩:=yf e
 have key:∀{Q:VK},(∀F2 H1 v,Le F F2->Up X.K H H1->Rel X.K X.mg F2 G p' Z H1->IsT X.K X.mg H1 F2 t v->Q v H1)->LE X.K X.mg w it Z H Q:=fun k=>⟨F,G,p,r,p',rel,e1,fun F1 H1 v l1 u1 Zr rs=>by
  obtain⟨F2,l2,Zs,ht⟩:=Zr.thaw e2 rs;exact k F2 H1 v (l1.trans l2) u1 Zs ht⟩
 unfold M0 at e3
 split at e3
 .cases e3;refine pi_tup h XF s Z H R I (key fun F2 H1 v l u Zs ht=>?_);obtain⟨a,vs,rfl,h1,z,ar⟩:=ht;exact⟨a,rfl,⟨vs,h1⟩,kq F2 H1 F2 H1 _ l u Zs (.inl ⟨rfl,rfl⟩) (by rw[ar.length];exact z) (vm h1 ar)⟩
 .cases e3;refine Zzq h XF s Z H R I (key fun F2 H1 v l u Zs ht=>?_);obtain⟨a,vs,rfl,h1,z,ar⟩:=ht;exact⟨a,rfl,⟨vs,.inl (Zs.b.rd h1)⟩,kq F2 H1 F2 H1 _ l u Zs (.inl ⟨rfl,rfl⟩) (by rw[ar.length];exact z) (vc h1 ar)⟩
 .cases e3;refine bc h XF s Z H R I (key fun F2 H1 v l u Zs ht=>?_);obtain⟨a,ks,rfl,h1,z,ar⟩:=ht;rcases h1 with h1 | ⟨o,h1⟩
  .exact .inl ⟨a,ks,rfl,Zs.b.f _ _ h1,fun o nf=>kq F2 H1 _ _ _ l u Zs (.inr ⟨a,o,ks,h1,nf,rfl,rfl⟩) (by rw[Z4,ar.length];exact z) (P0 Zw ar.keys)⟩
  .exact .inr ⟨a,o,ks,rfl,Zs.b.f _ _ h1,kq F2 H1 F2 H1 _ l u Zs (.inl ⟨rfl,rfl⟩) (by rw[Z4,ar.length];exact z) (P0 h1 ar.keys)⟩
 .split at e3
  .rename_i hz
   cases e3;refine pi_str h XF s Z H R I (key fun F2 H1 v l u Zs ht=>?_);exact⟨_,ht,kq F2 H1 F2 H1 _ l u Zs (.inl ⟨rfl,rfl⟩) (by rw[Z4,W8];exact hz) vd⟩
  .cases e3
 .cases e3
noncomputable def ikN:Ik->Str
 | .rng => "range"
 | .zip => "zip"
def ikL:Ik->Nat
 | .zip=>2
 | _=>1
def isTup:Expr->Bool
 | .Tuple _ _ _=>true
 | _=>false
def ikOk:Ik->Expr->Bool
 | .rng,_=>true
 | _,t=>isTup t
theorem len1{Z:Type}{xs:List Z}(h:xs.length=1):∃x,xs=[x]:=by
 cases xs with
 | nil=>cases h
 | cons x r=>cases r with
  | nil=>exact⟨x,rfl⟩
  | cons y r=>cases h
theorem len2{Z:Type}{xs:List Z}(h:xs.length=2):∃x y,xs=[x,y]:=by
 cases xs with
 | nil=>cases h
 | cons x r=>obtain⟨y,rfl⟩:=len1 (Nat.succ.inj h);exact⟨x,y,rfl⟩
theorem yg{e:Expr}(h:isTup e=true):∃a b c,e=.Tuple a b c:=by
 cases e<;>first | exact⟨_,_,_,rfl⟩ | cases h
theorem ou(c:Ctx X w k N sc){q:Ik}{es:E}{xs:ZC}{tg:Expr}{f:Str}{p0 pos:Pos}(hs:Hs X w false es xs)(hn:U3 es=true)(hf:(f == ikN q && Wy sc f && ikOk q tg)=true)(hl:xs.length=ikL q):PI X tg (.Call (.Name f p0) xs [] pos) (LI X w (.itr q es)):=by
 intro XF s Z H R I ⟨F,G,p,ys,p',rel,e,kq⟩;simp only[Y8,beq_iff_eq]at hf;obtain⟨⟨rfl,g1⟩,ht⟩:=hf;obtain⟨gg,gd⟩:=c.gl' g1;obtain⟨r,t,e1,e2,e3⟩:=yf e
 replace e1:=(Zx4 _ _).symm.trans e1
 obtain⟨a,q1,e1⟩:=ZO.mp e1;obtain⟨ts,q2,e1⟩:=ZO.mp e1;obtain⟨zs,q3,e1⟩:=Yj.mp e1;cases e1;cases e2;cases e3;have nt:=Ry es hs q1 hn;have Bo:=hs.star;have key:∀{Q:ZQ->Hp->Prop},(∀F1 H1 vs,Le F F1->Up X.K H H1->Rel X.K X.mg F1 G a.2 Z H1->Zq X.K X.mg H1 F1 ts vs->Q vs H1)->LA X.K X.mg w false es Z H Q:=fun k=>⟨F,G,p,a.1,a.2,rel,q1,fun F1 H1 vs l1 u1 Zr ar=>k F1 H1 vs l1 u1 Zr (N7 nt q2 ar)⟩;cases q with
 | rng =>
  obtain⟨x,rfl⟩:=len1 hl;refine qk gg (c.bn _ (by decide +kernel)) hs.pa (by rw[Ys (Bo _ Vt)];rfl) XF s Z H R I (key fun F1 H1 vs l u Zr ar=>?_);unfold itT at q3
  split at q3<;>first | (rename_i z;cases z) | skip
  .rename_i tt _
   unfold ip at q3
   split at q3
   .split at q3
    .rename_i n hz
     cases q3;obtain⟨v,r,rfl,hv,hr⟩:=ar;cases(show r=[] from hr);cases(show v=_ from hv);exact⟨n,rfl,by omega,by omega,kq F1 H1 F1 H1 _ l u Zr (.inl ⟨rfl,rfl⟩) (by rw[Z4,XJ];have:=sizeLine_eq;omega) vt⟩
    .cases q3
   .cases q3
  all_goals cases q3
 | zip =>
  obtain⟨x,y,rfl⟩:=len2 hl;obtain⟨_,_,_,rfl⟩:=yg ht;have h2:starEach [x,y] X.env=(false,eval x X.env)::starEach [y] X.env:=Ys (Bo _ Vt);have h3:(backTo pos (starEach [y] X.env)).any (·.1)=false:=Y6 _ _ _ fun e m=>Bo e (Vf _ m);unfold itT at q3
  split at q3<;>first | (rename_i z;cases z) | skip
  .cases q3;refine pi_zip gg (c.bn _ (by decide +kernel)) hs.pa h2 h3 XF s Z H R I (key fun F1 H1 vs l u Zr ar=>?_);obtain⟨v,r,rfl,hv,v',r',rfl,wy,hr⟩:=ar;cases(show r'=[] from hr);obtain⟨a1,vs,rfl,k1,z1,Mv⟩:=hv;obtain⟨a2,ws,rfl,k2,z2,Pg⟩:=wy;exact⟨a1,a2,rfl,⟨vs,.inl (Zr.b.rd k1)⟩,⟨ws,.inl (Zr.b.rd k2)⟩,kq F1 H1 F1 H1 _ l u Zr (.inl ⟨rfl,rfl⟩) (by rw[Me,Mv.length];omega) (ze k1 Mv k2 Pg)⟩
  .cases q3;refine Zzx gg (c.bn _ (by decide +kernel)) hs.pa h2 h3 XF s Z H R I (key fun F1 H1 vs l u Zr ar=>?_);obtain⟨v,r,rfl,hv,v',r',rfl,wy,hr⟩:=ar;cases(show r'=[] from hr);obtain⟨a1,vs,rfl,k1,z1,Mv⟩:=hv;obtain⟨a2,ws,rfl,k2,z2,Pg⟩:=wy;exact⟨a1,a2,rfl,⟨vs,k1⟩,⟨ws,k2⟩,kq F1 H1 F1 H1 _ l u Zr (.inl ⟨rfl,rfl⟩) (by rw[Me,Mv.length];omega) (zi k1 Mv k2 Pg)⟩
  all_goals cases q3
end
section
variable{K:W.Frag}{mg:ZV}{F G H:Hp}{p:P}{Z:L2.St}
theorem Rel.bind(r:Rel K mg F G p Z H){i:Nat}{s:Sl}{v:V}(hi:i<Z.length)(h:Res K mg F G p Z H s v):Rel K mg F G (p.set i s) (Z.set i (some v)) H:=by
 have at_:(Z.set i (some v))[i]?=some (some v):=List.getElem?_set_self hi;have ne:∀{j:Nat},j≠i->(Z.set i (some v))[j]?=Z[j]?:=fun n=>List.getElem?_set_ne fun z=>n z.symm;refine⟨r.b,fun j t e=>?_,fun j t e=>?_,fun j l t u a e1 e2 h1 h2=>?_,by rw[XY,XY];exact r.ln⟩
 .rcases Zu e with ⟨z,y⟩ | ⟨n,e⟩
  .subst z y;exact⟨v,at_,h⟩
  .obtain⟨u,h1,h2⟩:=r.fz j t e;exact⟨u,(ne n).trans h1,h2⟩
 .rcases Zu e with ⟨z,y⟩ | ⟨n,e⟩
  .subst z y;obtain⟨a,rfl,h1,h2,h3,_⟩:=h;exact⟨a,at_,h1,h2,h3⟩
  .obtain⟨a,h1,h2⟩:=r.ow j t e;exact⟨a,(ne n).trans h1,h2⟩
 .rcases Zu e1 with ⟨z,y⟩ | ⟨n,q1⟩
  .rcases Zu e2 with ⟨z',_⟩ | ⟨n,q2⟩
   .rw[z,z']
   .subst z y;obtain⟨b,rfl,_,_,_,h4⟩:=h;rw[at_]at h1;cases h1;rw[ne n]at h2;exact absurd h2 (h4 l u q2)
  .rw[ne n]at h1;rcases Zu e2 with ⟨z,y⟩ | ⟨n',q2⟩
   .subst z y;obtain⟨b,rfl,_,_,_,h4⟩:=h;rw[at_]at h2;cases h2;exact absurd h1 (h4 j t q1)
   .rw[ne n']at h2;exact r.ap j l t u a q1 q2 h1 h2
end
noncomputable def Bg:E->List Nat
 | .v i=>[i]
 | .tup es=>Bg es
 | .cons a r=>Bg a++Bg r
 | _=>[]
noncomputable def locs(sc:ZK)(x:Str):Bool:=match sc.lookup x with
 | some .local=>true
 | some .cell=>true
 | _=>false
mutual
noncomputable def Bd(N:ZD)(sc:ZK):E->Expr->Bool
 | .v i,.Name x _=>N[i]? == some x && locs sc x
 | .tup es,.Tuple xs _ _=>Nz N sc es xs
 | _,_=>false
noncomputable def Nz(N:ZD)(sc:ZK):E->ZC->Bool
 | .nil,[]=>true
 | .cons a r,x::xs=>Bd N sc a x && Nz N sc r xs
 | _,_=>false
end
def LG(K:W.Frag)(mg:ZV)(tg:E):TG:=fun v Z H Q=>∃F G p t p',Rel K mg F G p Z H/\IsT K mg H F t v/\asg tg t p=some p'/\∀σ',Rel K mg F G p' σ' H->(∀j,j ∉ Bg tg->σ'[j]?=Z[j]?)->σ'.length=Z.length->Q σ' H
def LGs(K:W.Frag)(mg:ZV)(tg:E):ux:=fun vs Z H Q=>∃F G p ts p',Rel K mg F G p Z H/\Zq K mg H F ts vs/\Aj tg ts p=some p'/\∀σ',Rel K mg F G p' σ' H->(∀j,j ∉ Bg tg->σ'[j]?=Z[j]?)->σ'.length=Z.length->Q σ' H
section
variable{X:Cx}{w:W}{k:Nat}{N:ZD}{sc:ZK}
theorem Ctx.loc(c:Ctx X w k N sc){x:Str}(h:locs sc x=true):Loc X.env.scope x/\(X.fn x=true\/X.env.scope.names.lookup x=some .local):=by
 unfold locs at h
 split at h
 .rename_i e
  rcases c.nm x _ e with e | ⟨z,_⟩
  .exact⟨.inl e,.inr e⟩
  .cases z
 .rename_i e
  rcases c.nm x _ e with e' | ⟨z,_⟩
  .exact⟨.inr e',.inl (c.cl x e)⟩
  .cases z
 .cases h
theorem Qo:∀(es:E) {xs:ZC},Nz N sc es xs=true->(∀x∈xs,noStar x=true)
 | .nil,[],_,x,m=>absurd m V4
 | .cons a r,y::xs,h,x,m=>by
  have h:(Bd N sc a y && Nz N sc r xs)=true:=h;rw[Y8]at h;rcases Y3.mp m with rfl | m
  .cases x<;>first | rfl | (cases a<;>cases h.1)
  .exact Qo r h.2 x m
 | .nil,_::_,h,_,_=>by cases h
 | .cons _ _,[],h,_,_=>by cases h
 | .v _,_,h,_,_=>by cases h
 | .k _,_,h,_,_=>by cases h
 | .g _,_,h,_,_=>by cases h
 | .pr _ _,_,h,_,_=>by cases h
 | .mv _,_,h,_,_=>by cases h
 | .io _,_,h,_,_=>by cases h
 | .tup _,_,h,_,_=>by cases h
 | .lst _,_,h,_,_=>by cases h
 | .and _ _,_,h,_,_=>by cases h
 | .or _ _,_,h,_,_=>by cases h
 | .not _,_,h,_,_=>by cases h
 | .ite _ _ _,_,h,_,_=>by cases h
 | .call _ _,_,h,_,_=>by cases h
 | .cal _ _,_,h,_,_=>by cases h
 | .mt _ _ _,_,h,_,_=>by cases h
 | .comp _ _ _ _ _ _,_,h,_,_=>by cases h
 | .itr _ _,_,h,_,_=>by cases h
 | .tmp _,_,h,_,_=>by cases h
theorem X9{e:Expr}{es:ZC}{env:Env}(h:noStar e=true):assignEach (e::es) env=(false,assign e env)::assignEach es env:=by
 cases e<;>first | rfl | cases h
theorem S6:∀{es:ZC} {env:Env},(∀x∈es,noStar x=true)->(assignEach es env).length=es.length/\(assignEach es env).findIdx? (·.1)=none
 | [],env,_=>⟨rfl,rfl⟩
 | e::es,env,h=>by
  rw[X9 (h e Vt)];obtain⟨h1,h2⟩:=S6 (env:=env) fun x m=>h x (Vf _ m);exact⟨by rw[Gs,Gs,h1],by rw[List.findIdx?_cons,h2];rfl⟩
theorem Et:∀(es:E) {xs:ZC} {ts:ZZ} {p p':P},Nz N sc es xs=true->Aj es ts p=some p'->ts.length=xs.length
 | .nil,[],[],p,p',_,_=>rfl
 | .cons a r,y::xs,t::ts,p,p',h,e=>by
  have h:(Bd N sc a y && Nz N sc r xs)=true:=h;rw[Y8]at h;obtain⟨q,_,e2⟩:=ZO.mp (show (asg a t p).bind (fun q=>Aj r ts q)=some p' from e);rw[Gs,Gs,Et r h.2 e2]
 | .nil,[],_::_,_,_,_,e=>by cases e
 | .cons _ _,_::_,[],_,_,_,e=>by cases e
 | .nil,_::_,_,_,_,h,_=>by cases h
 | .cons _ _,[],_,_,_,h,_=>by cases h
 | .v _,_,_,_,_,h,_=>by cases h
 | .k _,_,_,_,_,h,_=>by cases h
 | .g _,_,_,_,_,h,_=>by cases h
 | .pr _ _,_,_,_,_,h,_=>by cases h
 | .mv _,_,_,_,_,h,_=>by cases h
 | .io _,_,_,_,_,h,_=>by cases h
 | .tup _,_,_,_,_,h,_=>by cases h
 | .lst _,_,_,_,_,h,_=>by cases h
 | .and _ _,_,_,_,_,h,_=>by cases h
 | .or _ _,_,_,_,_,h,_=>by cases h
 | .not _,_,_,_,_,h,_=>by cases h
 | .ite _ _ _,_,_,_,_,h,_=>by cases h
 | .call _ _,_,_,_,_,h,_=>by cases h
 | .cal _ _,_,_,_,_,h,_=>by cases h
 | .mt _ _ _,_,_,_,_,h,_=>by cases h
 | .comp _ _ _ _ _ _,_,_,_,_,h,_=>by cases h
 | .itr _ _,_,_,_,_,h,_=>by cases h
 | .tmp _,_,_,_,_,h,_=>by cases h
mutual
theorem C1(c:Ctx X w k N sc):∀(tg:E) {x:Expr},Bd N sc tg x=true->PG X x (LG X.K X.mg tg)
 | .v i,.Name y pos,h=>fun XF s Z H v u Q I r ⟨F,G,p,t,p',rel,ht,e,kq⟩=>by
  have h:(N[i]? == some y && locs sc y)=true:=h;rw[Y8,beq_iff_eq]at h;obtain⟨l1,l2⟩:=c.loc h.2;have hi:X.N[i]?=some y:=by rw[c.nN];exact h.1
  cases e;refine Zzw (by rw[c.nN];exact c.nd) hi l1 l2 XF s Z H v u Q I r (kq _ (rel.bind (by rw[I.len];exact(Bz.mp hi).1) ht) (fun j hj=>List.getElem?_set_ne fun z=>hj (by rw[z];exact B8.mpr rfl)) (XY ..))
 | .tup es,.Tuple xs j pos,h=>fun XF s Z H v u Q I r ⟨F,G,p,t,p',rel,ht,e,kq⟩=>by
  have h:Nz N sc es xs=true:=h;obtain⟨a1,a2⟩:=S6 (env:=X.env) (Qo es h);cases t<;>first | cases e | skip
  rename_i ts
  have e:Aj es ts p=some p':=e;obtain⟨a,vs,rfl,h1,z,ar⟩:=ht;have hl:=Et es h e;exact pg_tup (n:=xs.length) c.calm (Ij c es h) a1 a2 XF s Z H _ u Q I r ⟨a,vs,rfl,h1,by rw[<-ar.length];exact hl,F,G,p,ts,p',rel,ar,e,kq⟩
 | .v _,.BoolOp ..,h=>by cases h
 | .v _,.NamedExpr ..,h=>by cases h
 | .v _,.BinOp ..,h=>by cases h
 | .v _,.UnaryOp ..,h=>by cases h
 | .v _,.Lambda ..,h=>by cases h
 | .v _,.IfExp ..,h=>by cases h
 | .v _,.Dict ..,h=>by cases h
 | .v _,.Set ..,h=>by cases h
 | .v _,.ListComp ..,h=>by cases h
 | .v _,.SetComp ..,h=>by cases h
 | .v _,.DictComp ..,h=>by cases h
 | .v _,.GeneratorExp ..,h=>by cases h
 | .v _,.Await ..,h=>by cases h
 | .v _,.Yield ..,h=>by cases h
 | .v _,.YieldFrom ..,h=>by cases h
 | .v _,.Compare ..,h=>by cases h
 | .v _,.Call ..,h=>by cases h
 | .v _,.FormattedValue ..,h=>by cases h
 | .v _,.JoinedStr ..,h=>by cases h
 | .v _,.Constant ..,h=>by cases h
 | .v _,.Attribute ..,h=>by cases h
 | .v _,.Subscript ..,h=>by cases h
 | .v _,.Starred ..,h=>by cases h
 | .v _,.List ..,h=>by cases h
 | .v _,.Tuple ..,h=>by cases h
 | .v _,.Slice ..,h=>by cases h
 | .tup _,.BoolOp ..,h=>by cases h
 | .tup _,.NamedExpr ..,h=>by cases h
 | .tup _,.BinOp ..,h=>by cases h
 | .tup _,.UnaryOp ..,h=>by cases h
 | .tup _,.Lambda ..,h=>by cases h
 | .tup _,.IfExp ..,h=>by cases h
 | .tup _,.Dict ..,h=>by cases h
 | .tup _,.Set ..,h=>by cases h
 | .tup _,.ListComp ..,h=>by cases h
 | .tup _,.SetComp ..,h=>by cases h
 | .tup _,.DictComp ..,h=>by cases h
 | .tup _,.GeneratorExp ..,h=>by cases h
 | .tup _,.Await ..,h=>by cases h
 | .tup _,.Yield ..,h=>by cases h
 | .tup _,.YieldFrom ..,h=>by cases h
 | .tup _,.Compare ..,h=>by cases h
 | .tup _,.Call ..,h=>by cases h
 | .tup _,.FormattedValue ..,h=>by cases h
 | .tup _,.JoinedStr ..,h=>by cases h
 | .tup _,.Constant ..,h=>by cases h
 | .tup _,.Attribute ..,h=>by cases h
 | .tup _,.Subscript ..,h=>by cases h
 | .tup _,.Starred ..,h=>by cases h
 | .tup _,.List ..,h=>by cases h
 | .tup _,.Name ..,h=>by cases h
 | .tup _,.Slice ..,h=>by cases h
 | .k _,_,h=>by cases h
 | .g _,_,h=>by cases h
 | .pr _ _,_,h=>by cases h
 | .mv _,_,h=>by cases h
 | .io _,_,h=>by cases h
 | .nil,_,h=>by cases h
 | .cons _ _,_,h=>by cases h
 | .lst _,_,h=>by cases h
 | .and _ _,_,h=>by cases h
 | .or _ _,_,h=>by cases h
 | .not _,_,h=>by cases h
 | .ite _ _ _,_,h=>by cases h
 | .call _ _,_,h=>by cases h
 | .cal _ _,_,h=>by cases h
 | .mt _ _ _,_,h=>by cases h
 | .comp _ _ _ _ _ _,_,h=>by cases h
 | .itr _ _,_,h=>by cases h
 | .tmp _,_,h=>by cases h
theorem Ij(c:Ctx X w k N sc):∀(es:E) {xs:ZC},Nz N sc es xs=true->PGs X xs (LGs X.K X.mg es)
 | .nil,[],_=>fun XF s Z H vs us Q I r ⟨F,G,p,ts,p',rel,ht,e,kq⟩=>by
  cases ts with
  | nil =>
   cases e;exact Zzj XF s Z H vs us Q I r ⟨ht,kq Z rel (fun _ _=>rfl) rfl⟩
  | cons t ts=>cases e
 | .cons a r',y::xs,h=>fun XF s Z H vs us Q I r ⟨F,G,p,ts,p',rel,ht,e,kq⟩=>by
  have Bo:=Qo _ h;have h:(Bd N sc a y && Nz N sc r' xs)=true:=h;rw[Y8]at h;cases ts with
  | nil=>cases e
  | cons t ts =>
   obtain⟨v,vr,rfl,iv,av⟩:=ht;obtain⟨q,e1,e2⟩:=ZO.mp (show (asg a t p).bind (fun q=>Aj r' ts q)=some p' from e);refine bh (C1 c a h.1) (Ij c r' h.2) (by rw[X9 (Bo _ Vt)];rfl) XF s Z H _ us Q I r ⟨v,vr,rfl,F,G,p,t,q,rel,iv,e1,fun σ' Yz k' n'=>⟨F,G,q,ts,p',Yz,av,e2,fun σ2 Zs k2 n2=>kq σ2 Zs (fun j hj=>?_) (n2.trans n')⟩⟩;have hj:j ∉ Bg a++Bg r':=hj;rw[Cb,not_or]at hj;exact(k2 j hj.2).trans (k' j hj.1)
 | .nil,_::_,h=>by cases h
 | .cons _ _,[],h=>by cases h
 | .v _,_,h=>by cases h
 | .k _,_,h=>by cases h
 | .g _,_,h=>by cases h
 | .pr _ _,_,h=>by cases h
 | .mv _,_,h=>by cases h
 | .io _,_,h=>by cases h
 | .tup _,_,h=>by cases h
 | .lst _,_,h=>by cases h
 | .and _ _,_,h=>by cases h
 | .or _ _,_,h=>by cases h
 | .not _,_,h=>by cases h
 | .ite _ _ _,_,h=>by cases h
 | .call _ _,_,h=>by cases h
 | .cal _ _,_,h=>by cases h
 | .mt _ _ _,_,h=>by cases h
 | .comp _ _ _ _ _ _,_,h=>by cases h
 | .itr _ _,_,h=>by cases h
 | .tmp _,_,h=>by cases h
end
end
theorem R5:∀(fr:ZG) (q p:P),fr.length=q.length->(∀i1 i2 j:Nat,fr[i1]?=some (some j)->fr[i2]?=some (some j)->i1=i2) ->
  (back fr q p).length=p.length/\(∀j:Nat,(∀i:Nat,fr[i]?≠some (some j))->(back fr q p)[j]?=p[j]?)/\∀i j:Nat,fr[i]?=some (some j)->j<p.length->(back fr q p)[j]?=q[i]?
 | [],[],p,_,_=>⟨rfl,fun _ _=>rfl,fun i j h=>by simp at h⟩
 | none::fr,s::q,p,hl,inj=>by
  obtain⟨h1,h2,h3⟩:=R5 fr q p (by simpa using hl) fun i1 i2 j a b=>by have:=inj (i1+1) (i2+1) j (by simpa using a) (by simpa using b);omega
  refine⟨h1,fun j h=>h2 j fun i z=>h (i+1) (by simpa using z),fun i j h hj=>?_⟩;cases i with
  | zero=>simp at h
  | succ i=>exact h3 i j (by simpa using h) hj
 | some l::fr,s::q,p,hl,inj=>by
  obtain⟨h1,h2,h3⟩:=R5 fr q (p.set l s) (by simpa using hl) fun i1 i2 j a b=>by have:=inj (i1+1) (i2+1) j (by simpa using a) (by simpa using b);omega
  rw[XY]at h1;refine⟨h1,fun j h=>?_,fun i j h hj=>?_⟩
  .have n:l≠j:=fun z=>h 0 (by simp[z]);exact(h2 j fun i z=>h (i+1) (by simpa using z)).trans (List.getElem?_set_ne n)
  .cases i with
   | zero =>
    simp at h;subst h;refine(h2 l fun i z=>?_).trans ((List.getElem?_set_self hj).trans (by simp));have:=inj 0 (i+1) l (by simp) (by simpa using z);omega
   | succ i=>exact h3 i j (by simpa using h) (by rw[XY];exact hj)
 | [],_::_,_,hl,_=>by simp at hl
 | _::_,[],_,hl,_=>by simp at hl
section
variable{K:W.Frag}{mg:ZV}{F G H:Hp}{p:P}{Z:L2.St}{fr:ZG}
theorem X3{i:Nat}{s:Sl}(h:(wt fr p)[i]?=some s):(fr[i]?=some none/\s=.no)\/∃j,fr[i]?=some (some j)/\s=(p[j]?).getD .no:=by
 unfold wt at h;rw[Cz]at h;obtain⟨o,e1,e2⟩:=Yj.mp h;cases o with
 | none=>exact .inl ⟨e1,e2.symm⟩
 | some j=>exact .inr ⟨j,e1,e2.symm⟩
theorem Nr{i j:Nat}{v:V}(h:fr[i]?=some (some j))(e:Z[j]?=some (some v)):(frees fr Z)[i]?=some (some v):=by
 unfold frees;rw[Cz,h];show some ((Z[j]?).bind id)=_;rw[e];rfl
open Classical in
noncomputable def Be(fr:ZG)(p:P)(Z:L2.St)(H G:Hp):Hp:=fun a=>if ∃(j:Nat) (t:T),p[j]?=some (Sl.o t)/\Z[j]?=some (some (V.ref a))/\∀i:Nat,fr[i]?≠some (some j) then H a else G a
theorem Ck{a:Addr}{j:Nat}{t:T}(h1:p[j]?=some (Sl.o t))(h2:Z[j]?=some (some (V.ref a)))(h3:∀i:Nat,fr[i]?≠some (some j)):Be fr p Z H G a=H a:=if_pos ⟨j,t,h1,h2,h3⟩
theorem Cy{a:Addr}(h:¬ ∃(j:Nat) (t:T),p[j]?=some (Sl.o t)/\Z[j]?=some (some (V.ref a))/\∀i:Nat,fr[i]?≠some (some j)):Be fr p Z H G a=G a:=if_neg h
theorem nk(r:Rel K mg F G p Z H){a:Addr}{o:HO}(h:G a=some o):Be fr p Z H G a=some o:=by
 refine(Cy fun⟨i,t,h1,h2,_⟩=>?_).trans h;obtain⟨b,h3,_,h4,_⟩:=r.ow i t h1;rw[h2]at h3;cases h3;rw[h]at h4;cases h4
theorem Zqy(r:Rel K mg F G p Z H)(inj:∀i1 i2 j:Nat,fr[i1]?=some (some j)->fr[i2]?=some (some j)->i1=i2){D:Addr}(hD:H D=none):Rel K mg F (upd (Be fr p Z H G) D (.lst [])) (wt fr p) (frees fr Z) (upd H D (.lst [])):=by
 have s:Zd H (upd H D (.lst [])):=Zd.lay hD;have nD:∀{a:Addr} {o:HO},H a=some o->a≠D:=fun h z=>by rw[z,hD]at h;cases h
 have own:∀{i:Nat} {t:T},(wt fr p)[i]?=some (Sl.o t)->∃j,fr[i]?=some (some j)/\p[j]?=some (Sl.o t):=fun {i t} h=>by
  rcases X3 h with ⟨_,z⟩ | ⟨j,e1,e2⟩
  .cases z
  .refine⟨j,e1, ?_⟩;cases q:p[j]? with
   | none=>rw[q]at e2;cases e2
   | some x=>rw[q]at e2;exact congrArg some e2.symm
 refine⟨⟨fun a o e=>s a o (r.b.f a o e),fun a o e=>?_,fun a e=>?_⟩,fun i t e=>?_,fun i t e=>?_,fun i1 i2 t u a e1 e2 h1 h2=>?_, ?_⟩
 .by_cases z:a=D
  .subst z;rw[Zw]at e ⊢;exact e
  .rw[Zz z]at e ⊢;by_cases h:∃(j:Nat) (t:T),p[j]?=some (Sl.o t)/\Z[j]?=some (some (V.ref a))/\∀i:Nat,fr[i]?≠some (some j)
   .obtain⟨j,t,g1,g2,g3⟩:=h;rw[Ck g1 g2 g3]at e;exact e
   .rw[Cy h]at e;exact r.b.g a o e
 .have ne:a≠D:=by
   cases q:F a with
   | none=>exact absurd q e
   | some o=>exact nD (r.b.f a o q)
  rw[Zz ne];refine(Cy fun⟨j,t,h1,h2,_⟩=>?_).trans (r.b.d a e);obtain⟨b,h3,h4,_⟩:=r.ow j t h1;rw[h2]at h3;cases h3;exact e h4
 .rcases X3 e with ⟨_,z⟩ | ⟨j,e1,e2⟩
  .cases z
  .cases q:p[j]? with
   | none=>rw[q]at e2;cases e2
   | some x =>
    rw[q]at e2;cases(show Sl.f t=x from e2);obtain⟨v,h1,h2⟩:=r.fz j t q;exact⟨v,Nr e1 h1,IsT.up s.up (Le.refl F) t v h2⟩
 .obtain⟨j,e1,q⟩:=own e;obtain⟨a,h1,h2,h3,h4⟩:=r.ow j t q;obtain⟨o,ho⟩:=h4.some;refine⟨a,Nr e1 h1,h2, ?_,h4.same s (Le.refl F)⟩;rw[Zz (nD ho)];refine(Cy fun⟨j',t',q1,q2,q3⟩=>?_).trans h3;have:=r.ap j' j t' t a q1 q q2 h1;subst this;exact q3 i e1
 .obtain⟨j1,f1,q1⟩:=own e1;obtain⟨j2,f2,q2⟩:=own e2;obtain⟨a1,k1,_⟩:=r.ow j1 t q1;obtain⟨a2,k2,_⟩:=r.ow j2 u q2;rw[Nr f1 k1]at h1;cases h1;rw[Nr f2 k2]at h2;cases h2;have:=r.ap j1 j2 t u a q1 q2 k1 k2;subst this;exact inj i1 i2 j1 f1 f2
 .unfold wt;rw[Z4,Jo]
theorem Rel.gset{D:Addr}{ys zs:ZQ}(r:Rel K mg F (upd G D (.lst ys)) p Z H):Rel K mg F (upd G D (.lst zs)) p Z (upd H D (.lst zs))/\Up K H (upd H D (.lst zs)):=by
 have hD:H D=some (.lst ys):=r.b.g D _ Zw
 have fD:F D=none:=by
  cases q:F D with
  | none=>rfl
  | some o=>have:=r.b.d D (by rw[q];exact fun z=>nomatch z);rw[Zw]at this;cases this
 have u:Up K H (upd H D (.lst zs)):=Kv hD;refine⟨⟨⟨fun a o e=>?_,fun a o e=>?_,fun a e=>?_⟩,fun i t e=>let ⟨v,h1,h2⟩:=r.fz i t e;⟨v,h1,IsT.up u (Le.refl F) t v h2⟩,fun i t e=>?_,r.ap,r.ln⟩,u⟩
 .rw[Zz fun z=>by rw[z,fD]at e;cases e];exact r.b.f a o e
 .by_cases z:a=D
  .subst z;rw[Zw]at e ⊢;exact e
  .rw[Zz z]at e ⊢;exact r.b.g a o (by rw[Zz z];exact e)
 .have ne:a≠D:=fun z=>by rw[z]at e;exact e fD
  have:=r.b.d a e;rw[Zz ne]at this ⊢;exact this
 .obtain⟨a,h1,h2,h3,h4⟩:=r.ow i t e;have ne:a≠D:=fun z=>by rw[z,Zw]at h3;cases h3
  exact⟨a,h1,h2,by rw[Zz ne]at h3 ⊢;exact h3,h4.up u (Le.refl F) (Zz ne)⟩
theorem rj{F2 H2:Hp}{q:P}{σ2:L2.St}{D:Addr}{ys:ZQ}(r:Rel K mg F G p Z H)(inj:∀i1 i2 j:Nat,fr[i1]?=some (some j)->fr[i2]?=some (some j)->i1=i2)(hj:∀i j:Nat,fr[i]?=some (some j)->j<p.length)(hD:H D=none)(l:Le F F2)(u:Up K H H2)
  (r2:Rel K mg F2 (upd (Be fr p Z H G) D (.lst ys)) q σ2 H2) (hl:q.length=fr.length) (keep:∀i j:Nat,fr[i]?=some (some j)->σ2[i]?=(frees fr Z)[i]?):Rel K mg F2 G (back fr q p) Z H2/\F2 D=none/\G D=none/\∀(i:Nat) (t:T),(back fr q p)[i]?=some (Sl.o t)->Z[i]?≠some (some (V.ref D)):=by
 obtain⟨b1,b2,b3⟩:=R5 fr q p hl.symm inj;have nD:∀{a:Addr} {o:HO},H a=some o->a≠D:=fun h z=>by rw[z,hD]at h;cases h
 have fD:F2 D=none:=by
  cases e:F2 D with
  | none=>rfl
  | some o=>have:=r2.b.d D (by rw[e];exact fun z=>nomatch z);rw[Zw]at this;cases this
 have gD:G D=none:=by
  cases e:G D with
  | none=>rfl
  | some o=>have:=r.b.g D o e;rw[hD]at this;cases this
 have gN:∀{a:Addr},a≠D->upd (Be fr p Z H G) D (.lst ys) a=none->G a=none:=fun {a} n h=>by
  rw[Zz n]at h;cases e:G a with
  | none=>rfl
  | some o=>rw[nk r e]at h;cases h
 have val:∀{i j:Nat} {v:V},fr[i]?=some (some j)->σ2[i]?=some (some v)->Z[j]?=some (some v):=fun {i j v} e h=>by
  rw[keep i j e]at h;unfold frees at h;rw[Cz,e]at h;have h:(Z[j]?).bind id=some v:=D3 h;cases q:Z[j]? with
  | none=>rw[q]at h;cases h
  | some o=>rw[q]at h;exact congrArg some h
 have cas:∀j:Nat,(∃i:Nat,fr[i]?=some (some j))\/∀i:Nat,fr[i]?≠some (some j):=fun j=>by
  by_cases h:∃i:Nat,fr[i]?=some (some j)
  .exact .inl h
  .exact .inr fun i z=>h ⟨i,z⟩
 have own:∀{j:Nat} {t:T},(back fr q p)[j]?=some (Sl.o t)->∃a,Z[j]?=some (some (V.ref a))/\a≠D/\F2 a=none/\G a=none/\Pu K mg H2 F2 a t:=fun {j t} e=>by
  rcases cas j with ⟨i,f1⟩ | f1
  .rw[b3 i j f1 (hj i j f1)]at e;obtain⟨a,h1,h2,h3,h4⟩:=r2.ow i t e;have n:a≠D:=fun z=>by rw[z,Zw]at h3;cases h3
   exact⟨a,val f1 h1,n,h2,gN n h3,h4⟩
  .rw[b2 j f1]at e;obtain⟨a,h1,h2,h3,h4⟩:=r.ow j t e;obtain⟨o,ho⟩:=h4.some;have n:=nD ho;have g1:upd (Be fr p Z H G) D (.lst ys) a=some o:=by rw[Zz n,Ck e h1 f1];exact ho
   refine⟨a,h1,n, ?_,h3,h4.up u l ((r2.b.g a o g1).trans ho.symm)⟩;cases z:F2 a with
   | none=>rfl
   | some x=>have:=r2.b.d a (by rw[z];exact fun z=>nomatch z);rw[g1]at this;cases this
 refine⟨⟨⟨r2.b.f,fun a o e=>r2.b.g a o (by rw[Zz (nD (r.b.g a o e))];exact nk r e),fun a e=>?_⟩,fun j t e=>?_,fun j t e=>let ⟨a,h1,_,h2,h3,h4⟩:=own e;⟨a,h1,h2,h3,h4⟩,fun j1 j2 t t' a e1 e2 h1 h2=>?_,by rw[b1];exact r.ln⟩,fD,gD,fun i t e z=>?_⟩
 .have n:a≠D:=fun z=>by rw[z]at e;exact e fD
  exact gN n (r2.b.d a e)
 .rcases cas j with ⟨i,f1⟩ | f1
  .rw[b3 i j f1 (hj i j f1)]at e;obtain⟨v,h1,h2⟩:=r2.fz i t e;exact⟨v,val f1 h1,h2⟩
  .rw[b2 j f1]at e;obtain⟨v,h1,h2⟩:=r.fz j t e;exact⟨v,h1,IsT.up u l t v h2⟩
 .rcases cas j1 with ⟨i1,f1⟩ | f1
  .rw[b3 i1 j1 f1 (hj i1 j1 f1)]at e1;obtain⟨a1,k1,_,g1,_⟩:=r2.ow i1 t e1;have:=val f1 k1;rw[h1]at this;cases this;rcases cas j2 with ⟨i2,f2⟩ | f2
   .rw[b3 i2 j2 f2 (hj i2 j2 f2)]at e2;obtain⟨a2,k2,_⟩:=r2.ow i2 t' e2;have:=val f2 k2;rw[h2]at this;cases this;have:=r2.ap i1 i2 t t' a e1 e2 k1 k2;subst this;rw[f1]at f2;cases f2;rfl
   .rw[b2 j2 f2]at e2;obtain⟨b,c1,_,_,c4⟩:=r.ow j2 t' e2;rw[h2]at c1;cases c1;obtain⟨o,ho⟩:=c4.some;rw[Zz (nD ho),Ck e2 h2 f2,ho]at g1;cases g1
  .rw[b2 j1 f1]at e1;rcases cas j2 with ⟨i2,f2⟩ | f2
   .rw[b3 i2 j2 f2 (hj i2 j2 f2)]at e2;obtain⟨a2,k2,_,g2,_⟩:=r2.ow i2 t' e2;have:=val f2 k2;rw[h2]at this;cases this;obtain⟨b,c1,_,_,c4⟩:=r.ow j1 t e1;rw[h1]at c1;cases c1;obtain⟨o,ho⟩:=c4.some;rw[Zz (nD ho),Ck e1 h1 f1,ho]at g2;cases g2
   .rw[b2 j2 f2]at e2;exact r.ap j1 j2 t t' a e1 e2 h1 h2
 .obtain⟨a,h1,n,_⟩:=own e;rw[h1]at z;cases z;exact n rfl
end
def LT(K:PySem.W.Frag)(mg:ZV)(w:W)(c:E):TT:=if isNil c=true then A3 else LB K mg w c
theorem nh{NX:ZD}{names:ZK}{ns:ZD}{fr:ZG}(h:Ji NX names ns fr=true)(nd:ns.Nodup):∀i1 i2 j:Nat,fr[i1]?=some (some j)->fr[i2]?=some (some j)->i1=i2:=fun i1 i2 j e1 e2=>by
 obtain⟨x,a1,a2,_⟩:=Jx h e1;obtain⟨y,b1,b2,_⟩:=Jx h e2;rw[a2]at b2;cases b2;have h1:=(Bz.mp a1);have h2:=(Bz.mp b1);obtain⟨l1,g1⟩:=h1;obtain⟨l2,g2⟩:=h2;exact(List.getElem_inj nd).mp (g1.trans g2.symm)
section
variable{X:Cx}{w:W}{k:Nat}{N:ZD}{sc:ZK}
noncomputable def Zjc(w:W)(tg c el:E):T->P->Option (Option T×P):=fun x s=>(asg tg x s).bind fun s1=>(if isNil c=true then some (true,s1) else Dy (ev w c s1)).bind fun b=>if b.1=true then (toT (ev w el b.2)).map fun r=>(some r.1,r.2) else some (none,b.2)
theorem zv(c:Ctx X w k N sc){tg it cd el:E}{fr:ZG}{ns:ZD}{scope:Scope}(s2:Ji N scope.names ns fr=true)(nd:ns.Nodup)(ht:∀i∈Bg tg,fr[i]?=some none){Z:L2.St}{H:Hp}{Q:VK}(hσ:Z.length=N.length)(h:LE X.K X.mg w (.comp tg it cd el fr ns) Z H Q) :
  yp (LI X w it) fr (fun _ _ _=>LG X.K X.mg tg) (fun _ _ _=>LT X.K X.mg w cd) (fun _ _ _=>LE X.K X.mg w el) Z H fun v H1=>∃H2,Mel X H1 H2/\Q v H2:=by
 obtain⟨F,G,p,r,p',rel,e,kq⟩:=h;have inj:=nh s2 nd;have frl:=Nh s2
 replace e:=(n9 _ _ _ _ _ _).symm.trans e
 obtain⟨⟨xs,p1⟩,e1,e⟩:=ZO.mp e;obtain⟨⟨yz,qe⟩,e2,e⟩:=Yj.mp e;cases e;have e2:Mj (Zjc w tg cd el) xs [] (wt fr p1)=some (yz,qe):=e2;refine⟨F,G,p,xs,p1,rel,e1,fun F1 H1 F' H' J l u Zr fz zl walk=>?_⟩;intro D fp sx hD;obtain⟨Yz,u',lr⟩:=fz.rel Zr
 have jl:∀i j:Nat,fr[i]?=some (some j)->j<p1.length:=fun i j e=>by
  obtain⟨x,a1,a2,_⟩:=Jx s2 e;rw[Zr.ln,hσ];exact(Bz.mp a2).1
 let GD:ZQ->Hp:=fun ys=>upd (Be fr p1 Z H' G) D (.lst ys)
 let Wt:Nat->Nat->ZQ->L2.St->Hp->Prop:=fun i m ys σ2 H2=>m=xs.length - i/\i<=xs.length/\∃F2 q acc,Le F' F2/\Up X.K H' H2/\Rel X.K X.mg F2 (GD ys) q σ2 H2/\Zq X.K X.mg H2 F2 acc ys/\ys.length<=i/\Mj (Zjc w tg cd el) (xs.drop i) acc q=some (yz,qe)/\(∀i j:Nat,fr[i]?=some (some j)->σ2[i]?=(frees fr Z)[i]?)/\σ2.length=fr.length
 refine⟨Wt,⟨xs.length,rfl,Ma _,F',wt fr p1,[],Le.refl _,(Zd.lay hD).up,Zqy Yz inj hD,rfl,Z5 _,e2,fun _ _ _=>rfl,Jo fr Z⟩, ?_⟩;rintro i m ys σ2 H2 ⟨rfl,p8,F2,q,acc,l2,u2,r2,ar,yl,e3,keep,sl⟩;have hD2:H2 D=some (.lst ys):=r2.b.g D _ Zw;refine⟨hD2, ?_⟩;obtain⟨wk1,wk2⟩:=walk i F2 H2 l2 u2 r2.b.f;by_cases Rt:i<xs.length
 .have et:xs[i]?=some xs[i]:=V0 Rt;rw[List.drop_eq_getElem_cons Rt]at e3;unfold Mj at e3;obtain⟨⟨o,q1⟩,e4,e5⟩:=ZO.mp e3;obtain⟨s3,e6,e7⟩:=ZO.mp (show (asg tg xs[i] q).bind _=some (o,q1) from e4);obtain⟨⟨b,s4⟩,e8,e9⟩:=ZO.mp e7;obtain⟨g1,g2⟩:=wk1 _ et;refine .inr ⟨g1,fun ys' σ' H'=>Wt (i+1) (xs.length - (i+1)) ys' σ' H',fun ys' σ' H' h=>⟨_,by omega,h⟩,fun x H3 yd=>?_⟩;obtain⟨sm,ix⟩:=g2 x H3 yd;refine⟨F2,GD ys,q,xs[i],s3,r2.same sm,ix,e6,fun σ3 r3 k3 n3=>?_⟩;have keep3:∀i j:Nat,fr[i]?=some (some j)->σ3[i]?=(frees fr Z)[i]?:=fun a j ea=>(k3 a fun m=>by rw[ht a m]at ea;cases ea).trans (keep a j ea);have sl3:σ3.length=fr.length:=n3.trans sl
  have elm:∀{F4 H4:Hp},b=true->Le F2 F4->Up X.K H3 H4->Rel X.K X.mg F4 (GD ys) s4 σ3 H4->LE X.K X.mg w el σ3 H4 fun y H5=>H5 D=some (.lst ys)/\ys.length<sizeLine/\Wt (i+1) (xs.length - (i+1)) (ys++[y]) σ3 (upd H5 D (.lst (ys++[y]))):=fun {F4 H4} hb l4 u4 r4=>by
   rw[if_pos hb]at e9;obtain⟨⟨t',s5⟩,e10,e11⟩:=Yj.mp e9;cases e11;obtain⟨rr,e12,e13⟩:=Co e10;refine⟨F4,GD ys,s4,rr,s5,r4,e12,fun F5 H5 y l5 u5 r5 rs=>?_⟩;obtain⟨F6,l6,r6,it6⟩:=r5.thaw e13 rs;obtain⟨r7,u7⟩:=r6.gset (zs:=ys++[y]);refine⟨r6.b.g D _ Zw,by omega,rfl,Rt,F6,s5,acc++[t'],(l2.trans l4).trans (l5.trans l6),u2.trans (sm.up.trans (u4.trans (u5.trans u7))),r7, ?_, ?_,e5,keep3,sl3⟩
   .exact(Zq.up (sm.up.trans (u4.trans (u5.trans u7))) (l4.trans (l5.trans l6)) _ _ ar).append (Zq.one (IsT.up u7 (Le.refl _) _ _ it6))
   .rw[Gg];show ys.length+1<=i+1;omega
  show (LT X.K X.mg w cd) σ3 H3 fun ok H4=>if ok=true then _ else _
  unfold LT;by_cases hn:isNil cd=true
  .rw[if_pos hn]at e8;cases e8;rw[if_pos hn];exact Zxv (B:=Wt (i+1) (xs.length - (i+1)) ys σ3 H3) (elm rfl (Le.refl _) (Up.refl _) r3)
  .rw[if_neg hn]at e8;rw[if_neg hn];refine⟨F2,GD ys,s3,b,s4,r3,e8,fun F4 H4 l4 u4 r4=>?_⟩;cases b with
   | true =>
    exact Zxv (B:=Wt (i+1) (xs.length - (i+1)) ys σ3 H4) (elm rfl l4 u4 r4)
   | false =>
    cases e9;exact iteF ⟨rfl,Rt,F4,s4,acc,l2.trans l4,u2.trans (sm.up.trans u4),r4,Zq.up (sm.up.trans u4) l4 _ _ ar,by omega,e5,keep3,sl3⟩
 .have ei:i=xs.length:=by omega
  subst ei;rw[List.drop_length]at e3;cases e3;refine .inl ⟨wk2 rfl, ?_⟩;obtain⟨ro,fD,gD,nD⟩:=rj Yz inj jl hD l2 u2 r2 (by rw[r2.ln];exact sl) keep;obtain⟨F3,H3,l3,r3,ml,u3,lr3,n1,n2⟩:=fz.back l2 ro;refine⟨H3,ml,kq F3 H3 (.ref D) (l.trans l3) (u.trans (u'.trans (u2.trans u3))) r3 ⟨D,rfl,n1 D fD,gD,⟨ys,(n2 D fD).trans hD2,by omega,Zq.upR u3 lr3 _ _ ar⟩,nD⟩⟩
theorem y9(c:Ctx X w k N sc)(hsc:X.env.scope.names=sc){outer:Scope}(ho:outer.names=sc){tg it cd el:E}{fr:ZG}{ns:ZD}{elt t iter:Expr}{ifs:ZC}{scope:Scope}{pos:Pos}
  (hi:PI X t iter (LI X w it)) (s1:Ks outer scope=true) (s2:Ji N scope.names ns fr=true) (nd:ns.Nodup) (ht:∀i∈Bg tg,fr[i]?=some none)
  (hg:∀fp s H,PG (Z1 X scope ns fp s H) t (LG X.K X.mg tg)) (hc:∀fp s H,PTs (Z1 X scope ns fp s H) ifs (LT X.K X.mg w cd)) (he:∀fp s H,PE (Z1 X scope ns fp s H) elt (LE X.K X.mg w el))
  (hfold:∀x,foldedSetIterable iter X.env x=pure x):PE X (.ListComp elt [⟨t,iter,ifs,0⟩] scope pos) (LE X.K X.mg w (.comp tg it cd el fr ns)):=fun XF s Z H Q I h =>
 PE.mel (Zzk (te:=fun _ _ _=>LE X.K X.mg w el) (tt:=fun _ _ _=>LT X.K X.mg w cd) (g:=fun _ _ _=>LG X.K X.mg tg) c.calm hi (NX:=N) (outer:=outer) ⟨c.nN,by rw[hsc,ho],s1,s2⟩ hg hc he hfold) XF s Z H Q I (zv c s2 nd ht (by rw[I.len,c.nN]) h)
end
def asName:Expr->Option Str:=v7
noncomputable def Ec(x:Expr):Option (ZC):=match Lg x with
 | .tup xs=>some xs
 | _=>none
noncomputable def Es(x:Expr):Option (ZC):=match Lg x with
 | .lst xs=>some xs
 | _=>none
noncomputable def To(op:BoolOp)(z:Expr):Option (Expr×Expr×ZC×Pos):=match Lg z with
 | .boo o (x::y::r) pos=>if o=op then some (x,y,r,pos) else none
 | _=>none
noncomputable def Er(z:Expr):Option Expr:=match Lg z with
 | .un o x=>if o=.Not then some x else none
 | _=>none
noncomputable def Zql(z:Expr):Option (Expr×Expr×Expr):=match Lg z with
 | .ife c a b=>some (c,a,b)
 | _=>none
def Ta:Expr->Option (Str×ZC):=Kw
noncomputable def zk(z:Expr):Option (Str×Str×ZC):=match Lg z with
 | .callA o m ap xs cp=>(match v7 o with
  | some y=>if (ap.endLine == cp.line)=true then some (y,m,xs) else none
  | none=>none)
 | _=>none
noncomputable def zg(z:Expr):Option (Expr×Expr×Expr×ZC×Scope):=match Lg z with
 | .lc elt [⟨t,iter,ifs,0⟩] scope=>some (elt,t,iter,ifs,scope)
 | _=>none
noncomputable def plainT:Expr->Bool
 | .UnaryOp .Not _ _=>false
 | .BoolOp _ _ _=>false
 | .IfExp _ _ _ _=>false
 | .Compare _ _ _ _=>false
 | _=>true
def Bn:Expr->Bool
 | .Set _ _ _=>false
 | _=>true
noncomputable def Ca:E->Expr->Bool
 | .and a b,x=>match To .And x with
  | some (x0,y,r,pos)=>Ca a x0 && (if r.isEmpty then Ca b y else Ca b (.BoolOp .And (y::r) pos) && (match b with
   | .and _ _=>true
   | _=>false))
  | none=>false
 | .or a b,x=>match To .Or x with
  | some (x0,y,r,pos)=>Ca a x0 && (if r.isEmpty then Ca b y else Ca b (.BoolOp .Or (y::r) pos) && (match b with
   | .or _ _=>true
   | _=>false))
  | none=>false
 | .not a,x=>match Er x with
  | some y=>Ca a y
  | none=>false
 | .tmp a,x=>Ca a x && plainT x
 | .pr (.cm _) _,_=>true
 | .pr (.c2 _ _) _,_=>true
 | _,x=>plainT x
noncomputable def az(fr:ZG)(tg:E):Bool:=(Bg tg).all fun i=>fr[i]? == some none
mutual
noncomputable def rep:Bool->ZD->Scope->E->Expr->Bool
 | _,N,sc,.v i,x=>match asName x with
  | some y=>U9 N sc.names i y
  | none=>false
 | _,N,sc,.mv i,x=>match asName x with
  | some y=>U9 N sc.names i y
  | none=>false
 | _,_,_,.k t,x=>repK t x
 | _,_,sc,.g g,x=>match asName x with
  | some y=>g == y && Wy sc.names y
  | none=>false
 | tp,N,sc,.tup es,x=>match Ec x with
  | some xs=>U3 es && Uq tp N sc es xs
  | none=>false
 | tp,N,sc,.lst es,x=>match Es x with
  | some xs=>U3 es && Uq tp N sc es xs
  | none=>false
 | tp,N,sc,.pr q es,x=>match view sc.names q x with
  | some xs=>U3 es && quiet q es && Uq tp N sc es xs
  | none=>false
 | tp,N,sc,.and a b,x=>match To .And x with
  | some (x0,y,r,pos)=>rep tp N sc a x0 && (if r.isEmpty then rep tp N sc b y else rep tp N sc b (.BoolOp .And (y::r) pos))
  | none=>false
 | tp,N,sc,.or a b,x=>match To .Or x with
  | some (x0,y,r,pos)=>rep tp N sc a x0 && (if r.isEmpty then rep tp N sc b y else rep tp N sc b (.BoolOp .Or (y::r) pos))
  | none=>false
 | tp,N,sc,.not a,x=>match Er x with
  | some y=>rep tp N sc a y
  | none=>false
 | tp,N,sc,.ite c a b,x=>match Zql x with
  | some (z,x0,y)=>rep tp N sc c z && Ca c z && rep tp N sc a x0 && rep tp N sc b y
  | none=>false
 | tp,N,sc,.call f es,x=>match Ta x with
  | some (g,xs)=>f == g && Wy sc.names g && !xs.isEmpty && Uq tp N sc es xs
  | none=>false
 | tp,N,sc,.cal i es,x=>match Ta x with
  | some (g,xs)=>U9 N sc.names i g && !xs.isEmpty && U3 es && Uq tp N sc es xs
  | none=>false
 | tp,N,sc,.mt m i es,x=>match zk x with
  | some (y,n,xs)=>n == mtN m && U9 N sc.names i y && U3 es && Uq tp N sc es xs && (match m with
   | .pop=>xs.isEmpty
   | _=>!xs.isEmpty && decide (xs.length<30))
  | none=>false
 | tp,N,sc,.comp tg it c el fr ns,x=>match zg x with
  | some (elt,t,iter,ifs,scope)=>tp && Qw tp N sc t it iter && Ks sc scope && Ji N scope.names ns fr && decide ns.Nodup && az fr tg && Bn iter && Bd ns scope.names tg t
   && (if isNil c then ifs.isEmpty else (match ifs with
    | [z]=>rep false ns scope c z && Ca c z
    | _=>false)) && rep false ns scope el elt
  | none=>false
 | tp,N,sc,.tmp a,x=>rep tp N sc a x
 | _,_,_,_,_=>false
noncomputable def Qw:Bool->ZD->Scope->Expr->E->Expr->Bool
 | tp,N,sc,t,.itr q es,x=>match Ta x with
  | some (f,xs)=>f == ikN q && Wy sc.names f && ikOk q t && decide (xs.length=ikL q) && U3 es && Uq tp N sc es xs
  | none=>false
 | tp,N,sc,_,.v i,x=>match asName x with
  | some y=>U9 N sc.names i y
  | none=>false
 | tp,N,sc,_,.pr q es,x=>match view sc.names q x with
  | some xs=>U3 es && quiet q es && Uq tp N sc es xs
  | none=>false
 | tp,N,sc,_,.call f es,x=>match Ta x with
  | some (g,xs)=>f == g && Wy sc.names g && !xs.isEmpty && Uq tp N sc es xs
  | none=>false
 | tp,N,sc,_,.lst es,x=>match Es x with
  | some xs=>U3 es && Uq tp N sc es xs
  | none=>false
 | tp,N,sc,_,.tup es,x=>match Ec x with
  | some xs=>U3 es && Uq tp N sc es xs
  | none=>false
 | _,_,_,_,_,_=>false
noncomputable def Uq:Bool->ZD->Scope->E->ZC->Bool
 | _,_,_,.nil,[]=>true
 | tp,N,sc,.cons a r,x::xs=>noStar x && (match a with
  | .io i=>(match asName x with
   | some y=>U9 N sc.names i y
   | none=>false)
  | _=>rep tp N sc a x) && Uq tp N sc r xs
 | _,_,_,_,_=>false
end
theorem gq{tp:Bool}{N:ZD}{sc:Scope}{x:Expr}:∀i,rep tp N sc (.v i) x=(match asName x with
  | some y=>U9 N sc.names i y
  | none=>false):=fun _=>rfl
theorem i3{tp:Bool}{N:ZD}{sc:Scope}{x:Expr}:∀i,rep tp N sc (.mv i) x=(match asName x with
  | some y=>U9 N sc.names i y
  | none=>false):=fun _=>rfl
theorem rep_gQ{tp:Bool}{N:ZD}{sc:Scope}{x:Expr}:∀g,rep tp N sc (.g g) x=(match asName x with
  | some y=>g == y && Wy sc.names y
  | none=>false):=fun _=>rfl
theorem gj{tp:Bool}{N:ZD}{sc:Scope}{x:Expr}:∀es,rep tp N sc (.tup es) x=(match Ec x with
  | some xs=>U3 es && Uq tp N sc es xs
  | none=>false):=fun _=>rfl
theorem gy{tp:Bool}{N:ZD}{sc:Scope}{x:Expr}:∀es,rep tp N sc (.lst es) x=(match Es x with
  | some xs=>U3 es && Uq tp N sc es xs
  | none=>false):=fun _=>rfl
theorem Qj{tp:Bool}{N:ZD}{sc:Scope}{x:Expr}:∀q es,rep tp N sc (.pr q es) x=(match view sc.names q x with
  | some xs=>U3 es && quiet q es && Uq tp N sc es xs
  | none=>false):=fun _ _=>rfl
theorem Ol{tp:Bool}{N:ZD}{sc:Scope}{x:Expr}:∀a b,rep tp N sc (.and a b) x=(match To .And x with
  | some (x0,y,r,pos)=>rep tp N sc a x0 && (if r.isEmpty then rep tp N sc b y else rep tp N sc b (.BoolOp .And (y::r) pos))
  | none=>false):=fun _ _=>rfl
theorem Ip{tp:Bool}{N:ZD}{sc:Scope}{x:Expr}:∀a b,rep tp N sc (.or a b) x=(match To .Or x with
  | some (x0,y,r,pos)=>rep tp N sc a x0 && (if r.isEmpty then rep tp N sc b y else rep tp N sc b (.BoolOp .Or (y::r) pos))
  | none=>false):=fun _ _=>rfl
theorem Oc{tp:Bool}{N:ZD}{sc:Scope}{x:Expr}:∀a,rep tp N sc (.not a) x=(match Er x with
  | some y=>rep tp N sc a y
  | none=>false):=fun _=>rfl
theorem gk{tp:Bool}{N:ZD}{sc:Scope}{x:Expr}:∀c a b,rep tp N sc (.ite c a b) x=(match Zql x with
  | some (z,x0,y)=>rep tp N sc c z && Ca c z && rep tp N sc a x0 && rep tp N sc b y
  | none=>false):=fun _ _ _=>rfl
theorem xl{tp:Bool}{N:ZD}{sc:Scope}{x:Expr}:∀f es,rep tp N sc (.call f es) x=(match Ta x with
  | some (g,xs)=>f == g && Wy sc.names g && !xs.isEmpty && Uq tp N sc es xs
  | none=>false):=fun _ _=>rfl
theorem gm{tp:Bool}{N:ZD}{sc:Scope}{x:Expr}:∀i es,rep tp N sc (.cal i es) x=(match Ta x with
  | some (g,xs)=>U9 N sc.names i g && !xs.isEmpty && U3 es && Uq tp N sc es xs
  | none=>false):=fun _ _=>rfl
theorem i4{tp:Bool}{N:ZD}{sc:Scope}{x:Expr}:∀m i es,rep tp N sc (.mt m i es) x=(match zk x with
  | some (y,n,xs)=>n == mtN m && U9 N sc.names i y && U3 es && Uq tp N sc es xs && (match m with
   | .pop=>xs.isEmpty
   | _=>!xs.isEmpty && decide (xs.length<30))
  | none=>false):=fun _ _ _=>rfl
theorem Lm{tp:Bool}{N:ZD}{sc:Scope}{x:Expr}:∀tg it c el fr ns,rep tp N sc (.comp tg it c el fr ns) x=(match zg x with
  | some (elt,t,iter,ifs,scope)=>tp && Qw tp N sc t it iter && Ks sc scope && Ji N scope.names ns fr && decide ns.Nodup && az fr tg && Bn iter && Bd ns scope.names tg t
   && (if isNil c then ifs.isEmpty else (match ifs with
    | [z]=>rep false ns scope c z && Ca c z
    | _=>false)) && rep false ns scope el elt
  | none=>false):=fun _ _ _ _ _ _=>rfl
theorem x9{tp:Bool}{N:ZD}{sc:Scope}{t x:Expr}:∀q es,Qw tp N sc t (.itr q es) x=(match Ta x with
  | some (f,xs)=>f == ikN q && Wy sc.names f && ikOk q t && decide (xs.length=ikL q) && U3 es && Uq tp N sc es xs
  | none=>false):=fun _ _=>rfl
theorem Ku{tp:Bool}{N:ZD}{sc:Scope}{x:Expr}{xs:ZC}:∀a r,Uq tp N sc (.cons a r) (x::xs)=(noStar x && (match a with
  | .io i=>(match asName x with
   | some y=>U9 N sc.names i y
   | none=>false)
  | _=>rep tp N sc a x) && Uq tp N sc r xs):=fun _ _=>rfl
theorem Mb{x:Expr}{env:Env}(h:plainT x=true):∀whole,isTrue x env whole=(do let v <-whole;standAt x.pos;holding [v] (truthy v)):=by
 intro wh;cases x<;>first | rfl | cases h | (rename_i op _ _;cases op<;>first | rfl | cases h)
theorem G2{x:Expr}{env:Env}(h:Bn x=true):∀v,foldedSetIterable x env v=pure v:=by
 intro v;cases x<;>first | rfl | cases h
theorem Jk{x:Expr}{y:Str}(h:asName x=some y):∃pos,x=.Name y pos:=Fs h
theorem r8{x:Expr}{y:ZC}(h:Ec x=some y):∃j pos,x=.Tuple y j pos:=by
 unfold Ec at h
 split at h
 .rename_i e;cases h;exact Yb e
 .cases h
theorem sj{x:Expr}{y:ZC}(h:Es x=some y):∃pos,x=.List y pos:=by
 unfold Es at h
 split at h
 .rename_i e;cases h;exact Yb e
 .cases h
theorem N6{op:BoolOp}{x x0 y:Expr}{r:ZC}{pos:Pos}(h:To op x=some (x0,y,r,pos)):x=.BoolOp op (x0::y::r) pos:=by
 unfold To at h
 split at h
 .rename_i e'
  split at h
  .rename_i e;cases h;rw[<-e];exact Yb e'
  .cases h
 .cases h
theorem El{x y:Expr}(h:Er x=some y):∃pos,x=.UnaryOp .Not y pos:=by
 unfold Er at h
 split at h
 .rename_i e'
  split at h
  .rename_i e;cases h;rw[<-e];exact Yb e'
  .cases h
 .cases h
theorem Zqn{x a b c:Expr}(h:Zql x=some (c,a,b)):∃pos,x=.IfExp c a b pos:=by
 unfold Zql at h
 split at h
 .rename_i e;cases h;exact Yb e
 .cases h
theorem R7{x:Expr}{f:Str}{xs:ZC}(h:Ta x=some (f,xs)):∃p pos,x=.Call (.Name f p) xs [] pos:=M6 h
theorem r9{x:Expr}{y m:Str}{xs:ZC}(h:zk x=some (y,m,xs)):∃p ap cp,x=.Call (.Attribute (.Name y p) m ap) xs [] cp/\(ap.endLine == cp.line)=true:=by
 unfold zk at h
 split at h
 .rename_i e
  split at h
  .rename_i e'
   obtain⟨p,rfl⟩:=Fs e'
   split at h
   .rename_i z;cases h;exact⟨p,_,_,Yb e,z⟩
   .cases h
  .cases h
 .cases h
theorem Eh{x elt t iter:Expr}{ifs:ZC}{scope:Scope}(h:zg x=some (elt,t,iter,ifs,scope)):∃pos,x=.ListComp elt [⟨t,iter,ifs,0⟩] scope pos:=by
 unfold zg at h
 split at h
 .rename_i e;cases h;exact Yb e
 .cases h
def Zjl:E->Bool
 | .and _ _=>true
 | .or _ _=>true
 | _=>false
def SE(w:W)(e:E):Prop:=∀(X:Cx) (k:Nat) (N:ZD) (sc:Scope) (tp:Bool) (x:Expr),Ctx X w k N sc.names->(tp=true->X.env.scope.names=sc.names)->rep tp N sc e x=true->PE X x (LE X.K X.mg w e)
def ST(w:W)(e:E):Prop:=∀(X:Cx) (k:Nat) (N:ZD) (sc:Scope) (tp:Bool) (x:Expr),Ctx X w k N sc.names->(tp=true->X.env.scope.names=sc.names)->rep tp N sc e x=true->Ca e x=true->PT X x (LB X.K X.mg w e)/\(Zjl e=true->PW X x (LB X.K X.mg w e))
def SR(w:W)(e:E):Prop:=∀(X:Cx) (k:Nat) (N:ZD) (sc:Scope) (tp m:Bool) (xs:ZC),Ctx X w k N sc.names->(tp=true->X.env.scope.names=sc.names)->Uq tp N sc e xs=true->Hs X w m e xs
def SI(w:W)(e:E):Prop:=∀(X:Cx) (k:Nat) (N:ZD) (sc:Scope) (tp:Bool) (t x:Expr),Ctx X w k N sc.names->(tp=true->X.env.scope.names=sc.names)->Qw tp N sc t e x=true->PI X t x (LI X w e)
section
variable{w:W}
theorem Yn{e:E}(h:SE w e)(ht:∀x,Ca e x=plainT x)(ha:Zjl e=false):ST w e:=fun X k N sc tp x c ct hr Qh=>⟨y8 (h X k N sc tp x c ct hr) (Mb (by rw[<-ht x];exact Qh)),fun z=>by rw[ha]at z;cases z⟩
theorem Vv{e:E}(h:∀tp N sc xs,Uq tp N sc e xs=false):SR w e:=fun X k N sc tp m xs c ct hr=>by rw[h]at hr;cases hr
theorem Uc{e:E}(h:∀tp N sc t x,Qw tp N sc t e x=false):SI w e:=fun X k N sc tp t x c ct hr=>by rw[h]at hr;cases hr
theorem Ig{e:E}(h:∀tp N sc x,rep tp N sc e x=false):SE w e:=fun X k N sc tp x c ct hr=>by rw[h]at hr;cases hr
theorem A6{e:E}(h:∀tp N sc x,rep tp N sc e x=false):ST w e:=fun X k N sc tp x c ct hr=>by rw[h]at hr;cases hr
theorem Ob{e:E}(h:SE w e)(hr:∀tp N sc t x,Qw tp N sc t e x=rep tp N sc e x):SI w e:=fun X k N sc tp t x c ct h'=>y6 (h X k N sc tp x c ct (by rw[<-hr];exact h'))
theorem se_v(i:Nat):SE w (.v i):=fun X k N sc tp x c ct hr=>by
 replace hr:=(gq _).symm.trans hr
 split at hr
 .rename_i y hy;obtain⟨pos,rfl⟩:=Jk hy;exact snd_v c hr
 .cases hr
theorem Zq2(i:Nat):SE w (.mv i):=fun X k N sc tp x c ct hr=>by
 replace hr:=(i3 _).symm.trans hr
 split at hr
 .rename_i y hy;obtain⟨pos,rfl⟩:=Jk hy;exact snd_mv c hr
 .cases hr
theorem se_g(g:Str):SE w (.g g):=fun X k N sc tp x c ct hr=>by
 replace hr:=(rep_gQ _).symm.trans hr
 split at hr
 .rename_i y hy;obtain⟨pos,rfl⟩:=Jk hy;exact snd_g c hr
 .cases hr
theorem se_k(t:T):SE w (.k t):=fun X k N sc tp x c ct hr=>snd_k hr
theorem Kl{es:E}(ih:SR w es):SE w (.tup es):=fun X k N sc tp x c ct hr=>by
 replace hr:=(gj _).symm.trans hr
 split at hr
 .rename_i xs hy
  obtain⟨j,pos,rfl⟩:=r8 hy;rw[Y8]at hr;exact oy (ih X k N sc tp false xs c ct hr.2) hr.1
 .cases hr
theorem Kr{es:E}(ih:SR w es):SE w (.lst es):=fun X k N sc tp x c ct hr=>by
 replace hr:=(gy _).symm.trans hr
 split at hr
 .rename_i xs hy
  obtain⟨pos,rfl⟩:=sj hy;rw[Y8]at hr;exact oh (ih X k N sc tp false xs c ct hr.2) hr.1
 .cases hr
theorem ke{q:Pr}{es:E}(ih:SR w es):SE w (.pr q es):=fun X k N sc tp x c ct hr=>by
 replace hr:=(Qj _ _).symm.trans hr
 split at hr
 .rename_i xs hy
  simp only[Y8]at hr;exact bg c hy (ih X k N sc tp true xs c ct hr.2) hr.1.2
 .cases hr
theorem se_and{a b:E}(ha:SE w a)(hb:SE w b):SE w (.and a b):=fun X k N sc tp x c ct hr=>by
 replace hr:=(Ol _ _).symm.trans hr
 split at hr
 .rename_i x0 y r pos hy
  rw[N6 hy];rw[Y8]at hr;obtain⟨h1,h2⟩:=hr;refine snd_and (ha X k N sc tp x0 c ct h1) ?_
  split at h2
  .rename_i hr
   rw[List.isEmpty_iff.mp hr];exact bp (hb X k N sc tp y c ct h2)
  .exact hb X k N sc tp _ c ct h2
 .cases hr
theorem se_or{a b:E}(ha:SE w a)(hb:SE w b):SE w (.or a b):=fun X k N sc tp x c ct hr=>by
 replace hr:=(Ip _ _).symm.trans hr
 split at hr
 .rename_i x0 y r pos hy
  rw[N6 hy];rw[Y8]at hr;obtain⟨h1,h2⟩:=hr;refine snd_or (ha X k N sc tp x0 c ct h1) ?_
  split at h2
  .rename_i hr
   rw[List.isEmpty_iff.mp hr];exact bp (hb X k N sc tp y c ct h2)
  .exact hb X k N sc tp _ c ct h2
 .cases hr
theorem se_not{a:E}(ha:SE w a):SE w (.not a):=fun X k N sc tp x c ct hr=>by
 replace hr:=(Oc _).symm.trans hr
 split at hr
 .rename_i y hy
  obtain⟨pos,rfl⟩:=El hy;exact om (ha X k N sc tp y c ct hr)
 .cases hr
theorem k6{a b d:E}(hd:ST w d)(ha:SE w a)(hb:SE w b):SE w (.ite d a b):=fun X k N sc tp x c ct hr=>by
 replace hr:=(gk _ _ _).symm.trans hr
 split at hr
 .rename_i z x0 y hy
  obtain⟨pos,rfl⟩:=Zqn hy;simp only[Y8]at hr;obtain⟨⟨⟨h1,h2⟩,h3⟩,h4⟩:=hr;exact oa (hd X k N sc tp z c ct h1 h2).1 (ha X k N sc tp x0 c ct h3) (hb X k N sc tp y c ct h4)
 .cases hr
theorem Qq{f:Str}{es:E}(ih:SR w es):SE w (.call f es):=fun X k N sc tp x c ct hr=>by
 replace hr:=(xl _ _).symm.trans hr
 split at hr
 .rename_i g xs hy
  obtain⟨p,pos,rfl⟩:=R7 hy;simp only[Y8,beq_iff_eq]at hr;obtain⟨⟨⟨rfl,h2⟩,h3⟩,h4⟩:=hr;cases xs with
  | nil=>cases h3
  | cons y ys=>exact kj c (ih X k N sc tp false _ c ct h4) h2
 .cases hr
theorem k7{i:Nat}{es:E}(ih:SR w es):SE w (.cal i es):=fun X k N sc tp x c ct hr=>by
 replace hr:=(gm _ _).symm.trans hr
 split at hr
 .rename_i g xs hy
  obtain⟨p,pos,rfl⟩:=R7 hy;simp only[Y8]at hr;obtain⟨⟨⟨h1,h2⟩,h3⟩,h4⟩:=hr;cases xs with
  | nil=>cases h2
  | cons y ys=>exact oi c (ih X k N sc tp false _ c ct h4) h1
 .cases hr
theorem ko{a:E}(ha:SE w a):SE w (.tmp a):=fun X k N sc tp x c ct hr=>og (ha X k N sc tp x c ct hr)
theorem af{a r:E}(ha:SE w a)(hr':SR w r):SR w (.cons a r):=fun X k N sc tp m xs c ct hr=>by
 cases xs with
 | nil=>cases(show false=true from hr)
 | cons x xs =>
  replace hr:=(Ku _ _).symm.trans hr
  simp only[Y8]at hr;obtain⟨⟨h1,h2⟩,h3⟩:=hr;refine .cons ?_ h1 (hr' X k N sc tp m xs c ct h3)
  split at h2
  .rename_i i
   split at h2
   .rename_i y hy
    obtain⟨pos,rfl⟩:=Jk hy;intro XF s Z H Q I ⟨F,G,p,a',p',rel,e,kq⟩;unfold Sg at e;dsimp only at e
    split at e
    .rename_i hd
     cases e;unfold done at hd
     split at hd
     .rename_i t q
      obtain⟨v,h1,h2⟩:=rel.fz i t q;exact c.var ‹_› XF s Z H Q I ⟨v,h1,kq F H v (Le.refl F) (Up.refl H) rel h1⟩
     .rename_i t q
      obtain⟨a,h1,_⟩:=rel.ow i t q;exact c.var ‹_› XF s Z H Q I ⟨_,h1,kq F H _ (Le.refl F) (Up.refl H) rel h1⟩
     .cases hd
    .cases e
   .cases h2
  .rename_i n1
   by_cases hv:∃i,a=.v i
   .obtain⟨i,rfl⟩:=hv
    replace h2:=(gq _).symm.trans h2
    split at h2
    .rename_i y hy;obtain⟨pos,rfl⟩:=Jk hy;exact snd_hv c h2
    .cases h2
   .exact snd_hd (fun i z=>n1 i z) (fun i z=>hv ⟨i,z⟩) (ha X k N sc tp x c ct h2)
theorem Zjy{X:Cx}{e:E}{Z:L2.St}{H:Hp}{R:Bool->Hp->Prop}(h:LB X.K X.mg w e Z H R):LE X.K X.mg w e Z H fun v H'=>Fu R v H':=by
 obtain⟨F,G,p,r,p',rel,e,kq⟩:=Zjv h;exact⟨F,G,p,r,p',rel,e,fun F' H' v l u Yz rs=>let ⟨b,e1,h1⟩:=kq F' H' v l u Yz rs;⟨b,e1,h1⟩⟩
end
section
variable{X:Cx}{w:W}{k:Nat}{N:ZD}{sc:ZK}
theorem cm_rd(c:Ctx X w k N sc){a b:E}{cm:Cm}{Z:L2.St}{H:Hp}{Q:VK}(h:LE X.K X.mg w (.pr (.cm cm) (.cons a (.cons b .nil))) Z H Q):tOp (rO X (compareOp (De cm))) (LH X.K X.mg w true a) (LH X.K X.mg w true b) Z H Q:=by
 obtain⟨F,G,p,r,p',rel,e,kq⟩:=h;obtain⟨as,ts,e1,e2,e3⟩:=X4 e;refine Ld e1 e2 rel fun F2 H2 x y t1 t2 et l u Zs s1 s2=>?_;subst et;obtain⟨b,e4,rfl⟩:=Yj.mp e3;exact fun XF s σ' v u' I rx ry=>B6 _ I Zs.b.f c.un rx ry s1 s2 e4 (kq F2 H2 _ l u Zs rfl)
theorem c2_rd(c:Ctx X w k N sc){a b d:E}{cm cm':Cm}{Z:L2.St}{H:Hp}{Q:VK}(h3:quiet (.c2 cm cm') (.cons a (.cons b (.cons d .nil)))=true)(h:LE X.K X.mg w (.pr (.c2 cm cm') (.cons a (.cons b (.cons d .nil)))) Z H Q) :
  Kb (rO X (compareOp (De cm))) (rO X (compareOp (De cm'))) (LH X.K X.mg w true a) (LH X.K X.mg w true b) (LH X.K X.mg w true d) Z H Q:=by
 obtain⟨F,G,p,r,p',rel,e,kq⟩:=h;obtain⟨as,ts,e1,e2,e3⟩:=X4 e;obtain⟨a',p1,as1,q1,q2,rfl⟩:=Yf e1;obtain⟨b',p2,as2,q3,q4,rfl⟩:=Yf q2;obtain⟨c',p3,as3,q5,q6,rfl⟩:=Yf q4;obtain⟨rfl,rfl⟩:=Ur q6;obtain⟨t1,r1,l1,l2,rfl⟩:=Z8 e2;obtain⟨t2,r2,l3,l4,rfl⟩:=Z8 l2;obtain⟨t3,r3,l5,l6,rfl⟩:=Z8 l4;cases l6;have ep:=Q6 _ h3 q4;subst ep;obtain⟨b1,c1,e3⟩:=ZO.mp e3;refine⟨F,G,p,a',p1,rel,q1,fun F1 H1 x le1 u1 rl1 Mv=>⟨F1,G,p1,b',_,rl1,q3,fun F2 H2 y pb u2 gz Pg=>?_⟩⟩;have s1:=gz.look l1 (Ar.up u2 pb Mv);have s2:=gz.look l3 Pg;refine fun XF s σ' v u' I rx ry=>B6 _ I gz.b.f c.un rx ry s1 s2 c1 ⟨b1,rfl, ?_⟩;cases b1 with
 | false=>cases e3;exact kq F2 H2 _ (le1.trans pb) (u1.trans u2) gz rfl
 | true =>
  obtain⟨b2,c2,rfl⟩:=Yj.mp e3;refine⟨F2,G,_,c',_,gz,q5,fun F3 H3 z le3 u3 iu ar3=>?_⟩;exact fun XF s σ' v u' I rx ry=>B6 _ I iu.b.f c.un rx ry (iu.look l3 (Ar.up u3 le3 Pg)) (iu.look l5 ar3) c2 (kq F3 H3 _ ((le1.trans pb).trans le3) ((u1.trans u2).trans u3) iu rfl)
end
theorem uc{sc:ZK}{c:Cm}{x:Expr}{xs:ZC}(h:view sc (.cm c) x=some xs):∃a b pos,x=.Compare a [De c] [b] pos/\behindInMarks (De c) b=false/\xs=[a,b]:=by
 replace h:=yq (show vCm c x=some xs from h)
 obtain⟨a,op,b,p,rfl,h⟩:=h
 split at h
 .rename_i ho
  obtain⟨rfl,hm⟩:=ho;cases h;exact⟨_,_,_,rfl,hm,rfl⟩
 .cases h
theorem ur{sc:ZK}{c d:Cm}{x:Expr}{xs:ZC}(h:view sc (.c2 c d) x=some xs):∃a b e pos,x=.Compare a [De c,De d] [b,e] pos/\lastMarks [De c,De d] [b,e]=false/\xs=[a,b,e]:=by
 replace h:=yj (show vC2 c d x=some xs from h)
 obtain⟨a,op,E3,b,e0,p,rfl,h⟩:=h
 split at h
 .rename_i ho
  obtain⟨rfl,rfl,hm⟩:=ho;cases h;exact⟨_,_,_,_,rfl,hm,rfl⟩
 .cases h
section
variable{w:W}
theorem st_pr{q:Pr}{es:E}(ih:SR w es):ST w (.pr q es):=fun X k N sc tp x c ct hr ht=>by
 refine⟨?_,fun z=>by cases z⟩;have hse:=ke (q:=q) ih X k N sc tp x c ct hr;cases q with
 | cm cm =>
  replace hr:=(Qj _ _).symm.trans hr
  split at hr
  .rename_i xs hy
   simp only[Y8]at hr;obtain⟨a,b,pos,rfl,hm,rfl⟩:=uc hy;have hs:=ih X k N sc tp true _ c ct hr.2;cases hs with | cons ha _ t=>cases t with | cons hb _ t=>cases t with | nil =>
   exact fun XF s Z H Q I h=>i8 opr ha hb hm XF s Z H Q I (cm_rd c (Zjy h))
  .cases hr
 | c2 cm cm' =>
  replace hr:=(Qj _ _).symm.trans hr
  split at hr
  .rename_i xs hy
   simp only[Y8]at hr;obtain⟨a,b,d,pos,rfl,hm,rfl⟩:=ur hy;have hs:=ih X k N sc tp true _ c ct hr.2;cases hs with | cons ha _ t=>cases t with | cons hb _ t=>cases t with | cons hc _ t=>cases t with | nil =>
   exact fun XF s Z H Q I h=>fu opr opr ha hb hc hm XF s Z H Q I (c2_rd c hr.1.2 (Zjy h))
  .cases hr
 | _=>exact y8 hse (Mb ht)
theorem st_and{a b:E}(ha:ST w a)(hb:ST w b):ST w (.and a b):=fun X k N sc tp x c ct hr ht=>by
 have main:PW X x (LB X.K X.mg w (.and a b)):=by
  replace hr:=(Ol _ _).symm.trans hr
  unfold Ca at ht
  split at hr
  .rename_i x0 y r pos hy
   rw[hy]at ht;rw[N6 hy];simp only[Y8]at hr ht;obtain⟨h1,h2⟩:=hr;obtain⟨t1,t2⟩:=ht;refine ao (ha X k N sc tp x0 c ct h1 t1).1 ?_;by_cases hr:r.isEmpty=true
   .rw[if_pos hr]at h2 t2;rw[List.isEmpty_iff.mp hr];exact pw_and1 (hb X k N sc tp y c ct h2 t2).1
   .rw[if_neg hr]at h2 t2;rw[Y8]at t2;exact(hb X k N sc tp _ c ct h2 t2.1).2 (by cases b<;>first | rfl | cases t2.2)
  .cases hr
 exact⟨main.pt,fun _=>main⟩
theorem st_or{a b:E}(ha:ST w a)(hb:ST w b):ST w (.or a b):=fun X k N sc tp x c ct hr ht=>by
 have main:PW X x (LB X.K X.mg w (.or a b)):=by
  replace hr:=(Ip _ _).symm.trans hr
  unfold Ca at ht
  split at hr
  .rename_i x0 y r pos hy
   rw[hy]at ht;rw[N6 hy];simp only[Y8]at hr ht;obtain⟨h1,h2⟩:=hr;obtain⟨t1,t2⟩:=ht;refine snt_or (ha X k N sc tp x0 c ct h1 t1).1 ?_;by_cases hr:r.isEmpty=true
   .rw[if_pos hr]at h2 t2;rw[List.isEmpty_iff.mp hr];exact pw_or1 (hb X k N sc tp y c ct h2 t2).1
   .rw[if_neg hr]at h2 t2;rw[Y8]at t2;exact(hb X k N sc tp _ c ct h2 t2.1).2 (by cases b<;>first | rfl | cases t2.2)
  .cases hr
 exact⟨main.pt,fun _=>main⟩
theorem st_not{a:E}(ha:ST w a):ST w (.not a):=fun X k N sc tp x c ct hr ht=>by
 refine⟨?_,fun z=>by cases z⟩
 replace hr:=(Oc _).symm.trans hr
 unfold Ca at ht
 split at hr
 .rename_i y hy
  rw[hy]at ht;obtain⟨pos,rfl⟩:=El hy;exact aa (ha X k N sc tp y c ct hr ht).1
 .cases hr
theorem st_tmp{a:E}(ha:SE w a):ST w (.tmp a):=fun X k N sc tp x c ct hr ht=>by
 refine⟨?_,fun z=>by cases z⟩;have ht:(Ca a x && plainT x)=true:=ht;rw[Y8]at ht;exact y8 (ko ha X k N sc tp x c ct hr) (Mb ht.2)
theorem Zq3{m:Mt}{i:Nat}{es:E}(ih:SR w es):SE w (.mt m i es):=fun X k N sc tp x c ct hr=>by
 replace hr:=(i4 _ _ _).symm.trans hr
 split at hr
 .rename_i y n xs hy
  obtain⟨p0,ap,cp,rfl,Nt⟩:=r9 hy;simp only[Y8,beq_iff_eq]at hr;obtain⟨⟨⟨⟨rfl,h2⟩,h3⟩,h4⟩,h5⟩:=hr;have hs:=ih X k N sc tp false xs c ct h4;have Bo:=hs.star;intro XF s Z H Q I ⟨F,G,p,r,p',rel,e,kq⟩
  replace e:=(ev_mtQ _ _ _).symm.trans e
  split at e
  .rename_i ho
   obtain⟨a,e1,e⟩:=ZO.mp e;obtain⟨ts,e2,e⟩:=ZO.mp e
   split at e
   .rename_i t et
    obtain⟨⟨t',z⟩,e3,e⟩:=Yj.mp e;cases e;have nt:=Ry es hs e1 h3
    obtain⟨b,ts0,hp⟩:∃b:Addr,∃ts0,p[i]?=some (Sl.o (.lst ts0))/\Z[i]?=some (some (V.ref b)):=by
     unfold qb at ho
     split at ho
     .rename_i l q
      obtain⟨b,h1,_⟩:=rel.ow i _ q;exact⟨b,l,q,h1⟩
     .cases ho
    obtain⟨hp,hb⟩:=hp;obtain⟨b',k1,_,_,vs0,k4,_⟩:=rel.ow i _ hp;rw[hb]at k1;cases k1
    have fin:∀{F1 H1:Hp} {vs:ZQ},Le F F1->Up X.K H H1->Rel X.K X.mg F1 G a.2 Z H1->Zq X.K X.mg H1 F1 ts vs->rM X (mtI m) (.ref b) vs H1 Q:=fun {F1 H1 vs} l1 u1 Zr at'=>fun XF s σ' v us I rx rs=>by
     cases rx;exact mt_run I Zr et hb rs at' e3 fun F2 H2 v l2 u2=>kq F2 H2 v (l1.trans l2) (u1.trans u2)
    have lA:LA X.K X.mg w false es Z H fun vs H1=>rM X (mtI m) (.ref b) vs H1 Q:=⟨F,G,p,a.1,a.2,rel,e1,fun F1 H1 vs l1 u1 Zr ar=>fin l1 u1 Zr (N7 nt e2 ar)⟩;have ty:tyV X.K "list" (.ref b) H:=.inl ⟨rfl,vs0,.inl (.inl k4)⟩;have Nc:attributeBase (.Name y p0) (mtN m) X.env (eval (.Name y p0) X.env)=eval (.Name y p0) X.env:=rfl;cases xs with
    | nil =>
     cases hs;obtain⟨q1,q2⟩:=Ur e1;cases m<;>first | cases h5 | skip
     rw[q1]at e2;cases e2;rw[q2]at fin;exact pe_bm0 PySem.F.plainAttrs_list PySem.F.slot_list_pop PySem.F.type_list_pop mtr (c.var h2) Nc Nt XF s Z H Q I ⟨_,hb,ty,fin (Le.refl _) (Up.refl _) rel rfl⟩
    | cons x xr =>
     have hl:(x::xr).length<30:=by
      cases m<;>first | cases h5 | exact Pa (uk.mp h5).2
     have st:=Ys (es:=xr) (env:=X.env) (Bo _ Vt);have sa:=Y6 xr X.env cp fun e m=>Bo e (Vf _ m);have fw:=few_of (env:=X.env) (cpos:=cp) Bo hl;cases m with
     | append=>exact Xw PySem.F.plainAttrs_list PySem.F.slot_list_append PySem.F.type_list_append mtr (c.var h2) hs.pa Nc fw Nt st sa XF s Z H Q I ⟨_,hb,ty,lA⟩
     | extend=>exact Xw PySem.F.plainAttrs_list PySem.F.slot_list_extend PySem.F.type_list_extend mtr (c.var h2) hs.pa Nc fw Nt st sa XF s Z H Q I ⟨_,hb,ty,lA⟩
     | insert=>exact Xw PySem.F.plainAttrs_list PySem.F.slot_list_insert PySem.F.type_list_insert mtr (c.var h2) hs.pa Nc fw Nt st sa XF s Z H Q I ⟨_,hb,ty,lA⟩
     | popAt=>exact Xw PySem.F.plainAttrs_list PySem.F.slot_list_pop PySem.F.type_list_pop mtr (c.var h2) hs.pa Nc fw Nt st sa XF s Z H Q I ⟨_,hb,ty,lA⟩
     | pop=>cases h5
   .cases e
  .cases e
 .cases hr
theorem si_itr{q:Ik}{es:E}(ih:SR w es):SI w (.itr q es):=fun X k N sc tp t x c ct hr=>by
 replace hr:=(x9 _ _).symm.trans hr
 split at hr
 .rename_i f xs hy
  obtain⟨p,pos,rfl⟩:=R7 hy;simp only[Y8]at hr;obtain⟨⟨⟨⟨⟨h1,h2⟩,h3⟩,h4⟩,h5⟩,h6⟩:=hr;exact ou c (ih X k N sc tp false xs c ct h6) h5 (by simp only[Y8];exact⟨⟨h1,h2⟩,h3⟩) (Pa h4)
 .cases hr
theorem Ctx.comp{X:Cx}{k:Nat}{N ns:ZD}{sc:ZK}(c:Ctx X w k N sc){scope outer:Scope}(s1:Ks outer scope=true)(nd:ns.Nodup)(fp:ZU)(s:Shared)(H:Hp):Ctx (Z1 X scope ns fp s H) w k ns scope.names:=by
 refine⟨rfl,nd,fun x kd e=>?_,c.calm,c.room,c.bn,c.fn,c.gl,rfl,fun x e=>?_⟩
 .have e2:(relabel scope X.env).names.lookup x=some (if (kd == NameKind.free && X.env.scope.kind == .function && X.env.kindOf x == some .cell)=true then NameKind.cell else kd):=by
   rw[D8,Vu (f:=fun n k=>if (k == NameKind.free && X.env.scope.kind == .function && X.env.kindOf n == some .cell)=true then NameKind.cell else k),e]
   rfl
  show (relabel scope X.env).names.lookup x=some kd\/(kd=NameKind.free/\(relabel scope X.env).names.lookup x=some NameKind.cell);rw[e2]
  split
  .rename_i h
   simp only[Y8,beq_iff_eq]at h;exact .inr ⟨h.1.1,rfl⟩
  .exact .inl rfl
 .have h1:=s1;unfold Ks at h1;simp only[Y8,decide_eq_true_eq,Pt,Bool.or_eq_true]at h1;exact absurd rfl (h1.2 (x,.cell) (PySem.mem_of_lookup e)).1.1
theorem Ib{tg it cd el:E}{fr:ZG}{ns:ZD}(hit:SI w it)(Hy:ST w cd)(wk:SE w el):SE w (.comp tg it cd el fr ns):=fun X k N sc tp x c ct hr=>by
 replace hr:=(Lm _ _ _ _ _ _).symm.trans hr
 split at hr
 .rename_i elt t iter ifs scope hy
  obtain⟨pos,rfl⟩:=Eh hy;simp only[Y8]at hr;obtain⟨⟨⟨⟨⟨⟨⟨⟨⟨h1,h2⟩,h3⟩,h4⟩,h5⟩,h6⟩,h7⟩,h8⟩,h9⟩,h10⟩:=hr;have nd:ns.Nodup:=Pa h5;have cc:=fun fp s H=>c.comp (outer:=sc) h3 nd fp s H;refine y9 c (ct h1) rfl (hit X k N sc tp t iter c ct h2) h3 h4 nd (fun i m=>?_) (fun fp s H=>C1 (cc fp s H) tg h8) (fun fp s H=>?_) (fun fp s H=>wk _ k ns scope false elt (cc fp s H) (fun z=>by cases z) h10) (G2 h7)
  .unfold az at h6;rw[Pt]at h6;exact eq_of_beq (h6 i m)
  .unfold LT;by_cases hn:isNil cd=true
   .rw[if_pos hn]at h9 ⊢;rw[List.isEmpty_iff.mp h9];exact Xz
   .rw[if_neg hn]at h9 ⊢
    split at h9
    .rw[Y8]at h9;exact I9 (Hy _ k ns scope false _ (cc fp s H) (fun z=>by cases z) h9.1 h9.2).1
    .cases h9
 .cases hr
theorem sr_nil:SR w .nil:=fun X k N sc tp m xs c ct hr=>by
 cases xs with
 | nil=>exact .nil
 | cons _ _=>cases(show false=true from hr)
theorem Jc:∀e:E,SE w e/\ST w e/\SR w e/\SI w e:=by
 intro e
 induction e with
 | v i=>exact⟨se_v i,Yn (se_v i) (fun _=>rfl) rfl,Vv fun tp N sc xs=>rfl,Ob (se_v i) fun tp N sc t x=>rfl⟩
 | mv i=>exact⟨Zq2 i,Yn (Zq2 i) (fun _=>rfl) rfl,Vv fun tp N sc xs=>rfl,Uc fun tp N sc t x=>rfl⟩
 | io i=>exact⟨Ig fun tp N sc x=>rfl,A6 fun tp N sc x=>rfl,Vv fun tp N sc xs=>rfl,Uc fun tp N sc t x=>rfl⟩
 | k t=>exact⟨se_k t,Yn (se_k t) (fun _=>rfl) rfl,Vv fun tp N sc xs=>rfl,Uc fun tp N sc t x=>rfl⟩
 | g x=>exact⟨se_g x,Yn (se_g x) (fun _=>rfl) rfl,Vv fun tp N sc xs=>rfl,Uc fun tp N sc t x=>rfl⟩
 | nil=>exact⟨Ig fun tp N sc x=>rfl,A6 fun tp N sc x=>rfl,sr_nil,Uc fun tp N sc t x=>rfl⟩
 | cons a r ha hr=>exact⟨Ig fun tp N sc x=>rfl,A6 fun tp N sc x=>rfl,af ha.1 hr.2.2.1,Uc fun tp N sc t x=>rfl⟩
 | tup es ih=>exact⟨Kl ih.2.2.1,Yn (Kl ih.2.2.1) (fun _=>rfl) rfl,Vv fun tp N sc xs=>rfl,Ob (Kl ih.2.2.1) fun tp N sc t x=>rfl⟩
 | lst es ih=>exact⟨Kr ih.2.2.1,Yn (Kr ih.2.2.1) (fun _=>rfl) rfl,Vv fun tp N sc xs=>rfl,Ob (Kr ih.2.2.1) fun tp N sc t x=>rfl⟩
 | pr q es ih=>exact⟨ke ih.2.2.1,st_pr ih.2.2.1,Vv fun tp N sc xs=>rfl,Ob (ke ih.2.2.1) fun tp N sc t x=>rfl⟩
 | and a b ha hb=>exact⟨se_and ha.1 hb.1,st_and ha.2.1 hb.2.1,Vv fun tp N sc xs=>rfl,Uc fun tp N sc t x=>rfl⟩
 | or a b ha hb=>exact⟨se_or ha.1 hb.1,st_or ha.2.1 hb.2.1,Vv fun tp N sc xs=>rfl,Uc fun tp N sc t x=>rfl⟩
 | not a ha=>exact⟨se_not ha.1,st_not ha.2.1,Vv fun tp N sc xs=>rfl,Uc fun tp N sc t x=>rfl⟩
 | ite d a b hd ha hb=>exact⟨k6 hd.2.1 ha.1 hb.1,Yn (k6 hd.2.1 ha.1 hb.1) (fun _=>rfl) rfl,Vv fun tp N sc xs=>rfl,Uc fun tp N sc t x=>rfl⟩
 | call f es ih=>exact⟨Qq ih.2.2.1,Yn (Qq ih.2.2.1) (fun _=>rfl) rfl,Vv fun tp N sc xs=>rfl,Ob (Qq ih.2.2.1) fun tp N sc t x=>rfl⟩
 | cal i es ih=>exact⟨k7 ih.2.2.1,Yn (k7 ih.2.2.1) (fun _=>rfl) rfl,Vv fun tp N sc xs=>rfl,Uc fun tp N sc t x=>rfl⟩
 | mt m i es ih=>exact⟨Zq3 ih.2.2.1,Yn (Zq3 ih.2.2.1) (fun _=>rfl) rfl,Vv fun tp N sc xs=>rfl,Uc fun tp N sc t x=>rfl⟩
 | comp tg it cd el fr ns htg hit Hy wk=>exact⟨Ib hit.2.2.2 Hy.2.1 wk.1,Yn (Ib hit.2.2.2 Hy.2.1 wk.1) (fun _=>rfl) rfl,Vv fun tp N sc xs=>rfl,Uc fun tp N sc t x=>rfl⟩
 | itr q es ih=>exact⟨Ig fun tp N sc x=>rfl,A6 fun tp N sc x=>rfl,Vv fun tp N sc xs=>rfl,si_itr ih.2.2.1⟩
 | tmp a ha=>exact⟨ko ha.1,st_tmp ha.1,Vv fun tp N sc xs=>rfl,Uc fun tp N sc t x=>rfl⟩
end
def Kp(pt:Nat->Bool)(Z σ':L2.St):Prop:=σ'.length=Z.length/\∀i,pt i=true->σ'[i]?=Z[i]?
theorem Kp.refl(pt:Nat->Bool)(Z:L2.St):Kp pt Z Z:=⟨rfl,fun _ _=>rfl⟩
theorem Kp.trans{pt:Nat->Bool}{Z σ1 σ2:L2.St}(a:Kp pt Z σ1)(b:Kp pt σ1 σ2):Kp pt Z σ2:=⟨b.1.trans a.1,fun i h=>(b.2 i h).trans (a.2 i h)⟩
def Fo(K:W.Frag)(mg:ZV)(D:Ends)(F G:Hp)(p:P)(Z:L2.St)(H:Hp):Fl->Prop
 | .nx=>D.nx Z H
 | .bk=>D.bk Z H
 | .ct=>D.ct Z H
 | .rt r=>∀v,Res K mg F G p Z H r v->D.rt v H
inductive LS_I(K:PySem.W.Frag)(mg:ZV)(w:W)(pt:Nat->Bool)(s:S)(D:Ends)(Z:L2.St)(H:Hp):Prop
 | mk(F G p fl p')(Y1:Rel K mg F G p Z H)(Y0:ex w pt s p=some (fl,p'))(V7:∀F' H' σ',Le F F'->Up K H H'->Rel K mg F' G p' σ' H'->Kp pt Z σ'->Fo K mg D F' G p' σ' H' fl):LS_I K mg w pt s D Z H
def LS(K:PySem.W.Frag)(mg:ZV)(w:W)(pt:Nat->Bool)(s:S):TS:=fun D Z H=>LS_I K mg w pt s D Z H
section
variable{X:Cx}{w:W}{k:Nat}{N:ZD}{sc:ZK}{pt:Nat->Bool}
theorem oz:W5 X [] (LS X.K X.mg w pt .nil):=fun XF s Z H D I ⟨F,G,p,fl,p',rel,e,kq⟩=>by
 cases e;exact i9 XF s Z H D I (kq F H Z (Le.refl F) (Up.refl H) rel (Kp.refl pt Z))
theorem y4{a r:S}{st:Stmt}{rest:List Stmt}(ha:PS X st (LS X.K X.mg w pt a))(hr:W5 X rest (LS X.K X.mg w pt r)):W5 X (st::rest) (LS X.K X.mg w pt (.seq a r)):=fun XF s Z H D I ⟨F,G,p,fl,p',rel,e,kq⟩=>by
 replace e:=(Zxo _ _).symm.trans e
 obtain⟨⟨f,q⟩,e1,e2⟩:=ZO.mp e;refine fe ha hr XF s Z H D I ⟨F,G,p,f,q,rel,e1,fun F1 H1 σ1 l1 u1 Zr k1=>?_⟩;cases f with
 | nx=>exact⟨F1,G,q,fl,p',Zr,e2,fun F2 H2 σ2 l2 u2 Zs k2=>kq F2 H2 σ2 (l1.trans l2) (u1.trans u2) Zs (k1.trans k2)⟩
 | rt t=>cases e2;exact kq F1 H1 σ1 l1 u1 Zr k1
 | bk=>cases e2;exact kq F1 H1 σ1 l1 u1 Zr k1
 | ct=>cases e2;exact kq F1 H1 σ1 l1 u1 Zr k1
theorem a8{a:E}{x:Expr}{pos:Pos}(h:PE X x (LE X.K X.mg w a)):PS X (.Return (some x) pos) (LS X.K X.mg w pt (.ret a)):=fun XF s Z H D I ⟨F,G,p,fl,p',rel,e,kq⟩=>by
 replace e:=(Zxi _).symm.trans e
 obtain⟨⟨r,q⟩,e1,e2⟩:=Yj.mp e;cases e2;exact ps_ret h XF s Z H D I ⟨F,G,p,r,q,rel,e1,fun F1 H1 v l1 u1 Zr rs=>kq F1 H1 Z l1 u1 Zr (Kp.refl pt Z) v rs⟩
theorem yi{pos:Pos}:PS X (.Return none pos) (LS X.K X.mg w pt (.ret (.k .non))):=fun XF s Z H D I ⟨F,G,p,fl,p',rel,e,kq⟩=>by
 cases e;exact ej XF s Z H D I (kq F H Z (Le.refl F) (Up.refl H) rel (Kp.refl pt Z) .non rfl)
noncomputable def Dg:Expr->Bool
 | .ListComp _ _ _ _=>false
 | .SetComp _ _ _ _=>false
 | .DictComp _ _ _ _ _=>false
 | _=>true
theorem A4{x:Expr}{t:Option Expr}{ln:Nat}{env:Env}(h:Dg x=true):swapsWith x t ln env=pure false:=by
 cases x<;>first | rfl | cases h
def notName:Expr->Bool
 | .Name _ _=>false
 | _=>true
theorem Fi{x t:Expr}{ln:Nat}{env:Env}(h:notName t=true):swapsWith x (some t) ln env=pure false:=by
 cases x<;>first | rfl | (cases t<;>first | rfl | cases h)
theorem sns_ex{a:E}{x:Expr}{pos:Pos}(h:PE X x (LE X.K X.mg w a))(hc:Dg x=true):PS X (.Expr x pos) (LS X.K X.mg w pt (.ex a)):=fun XF s Z H D I ⟨F,G,p,fl,p',rel,e,kq⟩=>by
 replace e:=(ex_exQ _).symm.trans e
 obtain⟨⟨r,q⟩,e1,e2⟩:=Yj.mp e;cases e2;exact ed h (A4 hc) XF s Z H D I ⟨F,G,p,r,q,rel,e1,fun F1 H1 v l1 u1 Zr rs=>kq F1 H1 Z l1 u1 Zr (Kp.refl pt Z)⟩
theorem kp_set{i:Nat}{Z:L2.St}{v:Option V}(h:¬ pt i=true):Kp pt Z (Z.set i v):=⟨XY ..,fun j hj=>List.getElem?_set_ne fun z=>h (by rw[z];exact hj)⟩
theorem kc{i:Nat}{a:E}{Z:L2.St}{H:Hp}{D:Ends}(hi:i<Z.length)(h:LS X.K X.mg w pt (.set i a) D Z H):LE X.K X.mg w a Z H fun v H1=>D.nx (Z.set i (some v)) H1:=by
 obtain⟨F,G,p,fl,p',rel,e,kq⟩:=h
 replace e:=(Zxa _ _).symm.trans e
 split at e
 .cases e
 .rename_i hp
  obtain⟨⟨r,q⟩,e1,e2⟩:=Yj.mp e;cases e2;exact⟨F,G,p,r,q,rel,e1,fun F1 H1 v l1 u1 Zr rs=>kq F1 H1 _ l1 u1 (Zr.bind hi rs) (kp_set hp)⟩
theorem Iq(c:Ctx X w k N sc){i:Nat}{a:E}{x:Expr}{y:Str}{pos pos':Pos}(hr:(N[i]? == some y && locs sc y)=true)(h:PE X x (LE X.K X.mg w a))(hc:swapsWith x (some (.Name y pos')) pos.line X.env=pure false):PS X (.Assign [.Name y pos'] x pos) (LS X.K X.mg w pt (.set i a)):=fun XF s Z H D I hs=>by
 rw[Y8,beq_iff_eq]at hr;obtain⟨l1,l2⟩:=c.loc hr.2;have hi:X.N[i]?=some y:=by rw[c.nN];exact hr.1
 exact ps_set (by rw[c.nN];exact c.nd) hi l1 h hc l2 XF s Z H D I (kc (by rw[I.len];exact(Bz.mp hi).1) hs)
theorem ai(c:Ctx X w k N sc){tg a:E}{x t:Expr}{pos:Pos}(hg:Bd N sc tg t=true)(ht:isTup t=true)(h:PE X x (LE X.K X.mg w a))(hx:isTup x=false):PS X (.Assign [t] x pos) (LS X.K X.mg w pt (.unp tg a)):=fun XF s Z H D I ⟨F,G,p,fl,p',rel,e,kq⟩=>by
 replace e:=(Zxu _ _).symm.trans e
 split at e
 .rename_i hp
  obtain⟨⟨u,q⟩,e1,e⟩:=ZO.mp e;obtain⟨q2,e2,e3⟩:=Yj.mp e;cases e3;obtain⟨r,e4,e5⟩:=Co e1;obtain⟨ts,j,ps,rfl⟩:=yg ht
  have tn:∀(tg:E) (i:Nat),Uz pt tg=true->i∈Bg tg->pt i=false:=fun tg=>by
   induction tg with
   | v i=>intro j h m;cases B8.mp m;simpa [Uz] using h
   | tup es ih=>intro j h m;exact ih j h m
   | cons a r ha hr=>intro j h m;simp only[Uz,Y8]at h;rcases Cb.mp m with m | m;exact ha j h.1 m;exact hr j h.2 m
   | _=>intro j h m;exact absurd m V4
  refine bj h (C1 c tg hg) (show swapsWith x (some (.Tuple ts j ps)) pos.line X.env=pure false from Fi rfl) ?_ rfl XF s Z H D I ⟨F,G,p,r,q,rel,e4,fun F1 H1 v l1 u1 Zr rs=>?_⟩
  .unfold swappedStores;cases x<;>first | rfl | cases hx
  obtain⟨F2,l2,Zs,hv⟩:=Zr.thaw e5 rs;exact⟨F2,G,q,u,_,Zs,hv,e2,fun σ' Yz k' n'=>kq F2 H1 σ' (l1.trans l2) u1 Yz ⟨n',fun i hi=>k' i fun m=>by rw[tn tg i hp m]at hi;cases hi⟩⟩
 .cases e
theorem ox{c:E}{a b:S}{z:Expr}{x y:List Stmt}{pos:Pos}(hc:PT X z (LB X.K X.mg w c))(ha:W5 X x (LS X.K X.mg w pt a))(hb:W5 X y (LS X.K X.mg w pt b)):PS X (.If z x y pos) (LS X.K X.mg w pt (.ite c a b)):=fun XF s Z H D I ⟨F,G,p,fl,p',rel,e,kq⟩=>by
 replace e:=(Zx0 _ _ _).symm.trans e
 obtain⟨⟨d,q⟩,e1,e2⟩:=ZO.mp e;refine ps_if hc ha hb XF s Z H D I ⟨F,G,p,d,q,rel,e1,fun F1 H1 l1 u1 Zr=>?_⟩;cases d with
 | true=>exact Zxv (B:=LS X.K X.mg w pt b D Z H1) ⟨F1,G,q,fl,p',Zr,e2,fun F2 H2 σ2 l2 u2=>kq F2 H2 σ2 (l1.trans l2) (u1.trans u2)⟩
 | false=>exact iteF (A:=LS X.K X.mg w pt a D Z H1) ⟨F1,G,q,fl,p',Zr,e2,fun F2 H2 σ2 l2 u2=>kq F2 H2 σ2 (l1.trans l2) (u1.trans u2)⟩
theorem ye{pos:Pos}:PS X (.Pass pos) (LS X.K X.mg w pt .pass):=fun XF s Z H D I ⟨F,G,p,fl,p',rel,e,kq⟩=>by
 cases e;exact eg XF s Z H D I (kq F H Z (Le.refl F) (Up.refl H) rel (Kp.refl pt Z))
theorem oq{pos:Pos}:PS X (.Break pos) (LS X.K X.mg w pt .brk):=fun XF s Z H D I ⟨F,G,p,fl,p',rel,e,kq⟩=>by
 cases e;exact bx XF s Z H D I (kq F H Z (Le.refl F) (Up.refl H) rel (Kp.refl pt Z))
theorem y3{pos:Pos}:PS X (.Continue pos) (LS X.K X.mg w pt .cont):=fun XF s Z H D I ⟨F,G,p,fl,p',rel,e,kq⟩=>by
 cases e;exact Ou XF s Z H D I (kq F H Z (Le.refl F) (Up.refl H) rel (Kp.refl pt Z))
end
theorem Aq{o kx:Expr}{pos:Pos}{env:Env}(h:Uv kx=true):∀v,assign (.Subscript o kx pos) env v=(do
   let ov <-holding [v] (eval o env)
   let iv <-holding [v,ov] (eval kx env)
   standAt pos
   holding [v,ov,iv] (setItem ov iv v)
   release [v,ov,iv] []):=by
 intro v;cases kx<;>first | rfl | cases h
section
variable{X:Cx}{w:W}{k:Nat}{N:ZD}{sc:ZK}{pt:Nat->Bool}
theorem a9(c:Ctx X w k N sc){i:Nat}{kk a:E}{x kx:Expr}{y:Str}{pos pos' Jz:Pos}(hr:U9 N sc i y=true)(h:PE X x (LE X.K X.mg w a))(hk:PE X kx (LE X.K X.mg w kk))(hn:Uv kx=true) :
  PS X (.Assign [.Subscript (.Name y pos') kx Jz] x pos) (LS X.K X.mg w pt (.put i kk a)):=fun XF s Z H D I ⟨F,G,p,fl,p',rel,e,kq⟩=>by
 replace e:=(Zxe _ _ _).symm.trans e
 obtain⟨⟨t,q⟩,e1,e⟩:=ZO.mp e;dsimp only at e
 split at e
 .rename_i hd
  obtain⟨⟨kt,q2⟩,e2,e⟩:=ZO.mp e;dsimp only at e
  split at e
  .rename_i z ez
   obtain⟨z',e3,e⟩:=Yj.mp e;cases e;obtain⟨r,e4,e5⟩:=Co e1;obtain⟨r2,e6,e7⟩:=Co e2
   have slot:∀{F1 H1:Hp},Rel X.K X.mg F1 G q Z H1->∃v,Z[i]?=some (some v):=fun {F1 H1} Zr=>by
    unfold done at hd
    split at hd
    .rename_i u eu;obtain⟨v,h1,_⟩:=Zr.fz i u eu;exact⟨v,h1⟩
    .rename_i u eu;obtain⟨v,h1,_⟩:=Zr.ow i u eu;exact⟨_,h1⟩
    .cases hd
   unfold putAt at e3
   split at e3
   .obtain⟨j,e8,rfl⟩:=Yj.mp e3;refine bj h (pg_sub (c.var hr) hk set_list (Aq hn)) (show swapsWith x (some (.Subscript (.Name y pos') kx Jz)) pos.line X.env=pure false from Fi rfl) ?_ rfl XF s Z H D I ⟨F,G,p,r,q,rel,e4,fun F1 H1 v l1 u1 Zr rs=>?_⟩
    .unfold swappedStores;cases x<;>rfl
    obtain⟨F2,l2,Zs,hv⟩:=Zr.thaw e5 rs;obtain⟨v1,hv1⟩:=slot Zs;refine⟨v1,hv1,F2,G,q,r2,q2,Zs,e6,fun F3 H3 vk l3 u3 Ke rs2=>?_⟩;obtain⟨F4,l4,qx,hvk⟩:=Ke.thaw e7 rs2;obtain⟨b,g1,g2,g3,ys,g4,g5,g6⟩:=qx.ow i _ ez;rw[hv1]at g1;cases g1;cases(show vk=_ from hvk);have hv4:=IsT.up u3 (l3.trans l4) _ _ hv;have u5:Up X.K H3 (upd H3 b (.lst (ys.set j v))):=Kv g4;obtain⟨u6,rel6⟩:=qx.mut (o:=.lst (ys.set j v)) (t':=.lst (_root_.List.set _ j t)) ez hv1 ⟨_,Zw,by rw[XY];exact g5,Zq.up u5 (Le.refl _) _ _ (g6.set j hv4)⟩;exact⟨b,ys,_,j,rfl,rfl,g4,by rw[<-g6.length];exact e8,kq F4 _ Z ((l1.trans l2).trans (l3.trans l4)) (u1.trans (u3.trans u6)) rel6 (Kp.refl pt Z)⟩
   .obtain⟨kv,e8,e9⟩:=ZO.mp e3
    split at e9
    .rename_i hz
     cases e9;have hu:X.A.units+1<cLine:=by have:=c.un;omega
     refine Zzz hu (c.var hr) hk h (Fi rfl) XF s Z H D I ⟨F,G,p,r,q,rel,e4,fun F1 H1 v l1 u1 Zr rs=>?_⟩;obtain⟨F2,l2,Zs,hv⟩:=Zr.thaw e5 rs;obtain⟨v1,hv1⟩:=slot Zs;refine⟨v1,hv1,F2,G,q,r2,q2,Zs,e6,fun F3 H3 vk l3 u3 Ke rs2=>?_⟩;obtain⟨F4,l4,qx,hvk⟩:=Ke.thaw e7 rs2;obtain⟨b,g1,g2,g3,ks,g4,g5,g6⟩:=qx.ow i _ ez;rw[hv1]at g1;cases g1;cases Qc (K:=X.K) (mg:=X.mg) (H:=H3) (F:=F4) e8 (Kn qx.b hvk);have hv4:=IsT.up u3 (l3.trans l4) _ _ hv;have own:Pu X.K X.mg H3 F4 b (.dct _):=⟨ks,g4,g5,g6⟩;have u5:Up X.K H3 (upd H3 b (.dK (putK ks kv v))):=Ky own;have lk:=g6.length;have pl:=Ul ks kv v;obtain⟨u6,rel6⟩:=qx.mut (o:=.dK (putK ks kv v)) (t':=.dct (Vn _ kv t)) ez hv1 ⟨_,Zw,by omega,Zt.up u5 (Le.refl _) _ _ (Zt.put hv4 g6)⟩;exact⟨b,_,rfl,Al.k g4 (by omega),kq F4 _ Z ((l1.trans l2).trans (l3.trans l4)) (u1.trans (u3.trans u6)) rel6 (Kp.refl pt Z)⟩
    .cases e9
   .cases e3
  .cases e
 .cases e
end
theorem tn_of{pt:Nat->Bool}:∀(tg:E) (i:Nat),Uz pt tg=true->i∈Bg tg->pt i=false:=fun tg=>by
 induction tg with
 | v i=>intro j h m;cases B8.mp m;simpa [Uz] using h
 | tup es ih=>intro j h m;exact ih j h m
 | cons a r ha hr=>intro j h m;simp only[Uz,Y8]at h;rcases Cb.mp m with m | m;exact ha j h.1 m;exact hr j h.2 m
 | _=>intro j h m;exact absurd m V4
section
variable{X:Cx}{w:W}{k:Nat}{N:ZD}{sc:ZK}{pt:Nat->Bool}
theorem Frz.fo{F F' G H H' F2 H2:Hp}{p2:P}{σ2:L2.St}{D:Ends}{fl:Fl}(z:Frz X F H F' H')(l:Le F' F2)(r:Rel X.K X.mg F2 G p2 σ2 H2)(kq:∀F3 H3,Le F F3->Up X.K H2 H3->Rel X.K X.mg F3 G p2 σ2 H3->Fo X.K X.mg D F3 G p2 σ2 H3 fl):Fo X.K X.mg (tj X D) F2 G p2 σ2 H2 fl:=by
 obtain⟨F3,H3,l3,r3,ml,u3,lr,n1,n2⟩:=z.back l r;have h:=kq F3 H3 l3 u3 r3;cases fl with
 | nx=>exact⟨H3,ml,h⟩
 | bk=>exact⟨H3,ml,h⟩
 | ct=>exact⟨H3,ml,h⟩
 | rt rr =>
  intro v rs;refine⟨H3,ml,h v ?_⟩;cases rr with
  | no=>exact rs
  | f t=>exact IsT.upR u3 lr t v rs
  | o t =>
   obtain⟨a,rfl,g1,g2,g3,g4⟩:=rs;refine⟨a,rfl,n1 a g1,g2, ?_,g4⟩;cases t with
   | lst ts=>obtain⟨vs,k1,k2,k3⟩:=g3;exact⟨vs,(n2 a g1).trans k1,k2,Zq.upR u3 lr _ _ k3⟩
   | dct ts=>obtain⟨vs,k1,k2,k3⟩:=g3;exact⟨vs,(n2 a g1).trans k1,k2,Zt.upR u3 lr _ _ k3⟩
   | _=>exact g3.elim
theorem y2(c:Ctx X w k N sc){tg it:E}{b:S}{t iter:Expr}{body:List Stmt}{pos:Pos}(hi:PI X t iter (LI X w it))(hg:Bd N sc tg t=true)(hb:W5 X body (LS X.K X.mg w pt b))(hs:Bn iter=true):PS X (.For t iter body [] pos) (LS X.K X.mg w pt (.loop tg it b)):=fun XF s Z H D I ⟨F,G,p,fl,p',rel,e,kq⟩=>by
 replace e:=(n6 _ _ _).symm.trans e
 split at e
 .rename_i hp
  obtain⟨⟨xs,p1⟩,e1,e2⟩:=ZO.mp e;dsimp only at e2;refine PS.mel (ps_for (by rw[c.xe];exact PassesOwn.never) c.calm hi (C1 c tg hg) hb (G2 hs)) XF s Z H D I ⟨F,G,p,xs,p1,rel,e1,fun F1 H1 F' H' J l u Zr fz zl walk=>?_⟩;obtain⟨Yz,u',lr⟩:=fz.rel Zr
  let Wt:Nat->Nat->L2.St->Hp->Prop:=fun i m σ2 H2=>m=xs.length - i/\i<=xs.length/\∃F2 q,Le F' F2/\Up X.K H' H2/\Rel X.K X.mg F2 G q σ2 H2/\Kp pt Z σ2/\Td (fun x s=>(asg tg x s).bind fun s1=>ex w pt b s1) (xs.drop i) q=some (fl,p')
  refine⟨Wt,⟨xs.length,rfl,Ma _,F',p1,Le.refl _,Up.refl _,Yz,Kp.refl pt Z,e2⟩, ?_⟩;rintro i m σ2 H2 ⟨rfl,p8,F2,q,l2,u2,r2,kp,e3⟩;obtain⟨wk1,wk2⟩:=walk i F2 H2 l2 u2 r2.b.f;by_cases Rt:i<xs.length
  .have et:xs[i]?=some xs[i]:=V0 Rt;rw[List.drop_eq_getElem_cons Rt]at e3;unfold Td at e3;obtain⟨⟨f,q1⟩,e4,e5⟩:=ZO.mp e3;obtain⟨s3,e6,e7⟩:=ZO.mp (show (asg tg xs[i] q).bind _=some (f,q1) from e4);obtain⟨g1,g2⟩:=wk1 _ et;refine .inr ⟨g1,fun σ' H'=>Wt (i+1) (xs.length - (i+1)) σ' H',fun σ' H' h=>⟨_,by omega,h⟩,fun x H3 yd=>?_⟩;obtain⟨sm,ix⟩:=g2 x H3 yd;refine⟨F2,G,q,xs[i],s3,r2.same sm,ix,e6,fun σ3 r3 k3 n3=>?_⟩;have kp3:Kp pt σ2 σ3:=⟨n3,fun j hj=>k3 j fun m=>by rw[tn_of tg j hp m]at hj;cases hj⟩;refine⟨F2,G,s3,f,q1,r3,e7,fun F4 H4 σ4 l4 u4 r4 k4=>?_⟩;have kk:=kp.trans (kp3.trans k4);have uu:=u2.trans (sm.up.trans u4)
   have out:∀{fl':Fl},fl=fl'->q1=p'->Fo X.K X.mg (tj X D) F4 G q1 σ4 H4 fl':=fun {fl'} ef ep=>by
    subst ef ep;exact fz.fo (l2.trans l4) r4 fun F5 H5 l5 u5 r5=>kq F5 H5 σ4 (l.trans l5) (u.trans (u'.trans (uu.trans u5))) r5 kk
   cases f with
   | nx=>exact⟨rfl,Rt,F4,q1,l2.trans l4,uu,r4,kk,e5⟩
   | ct=>exact⟨rfl,Rt,F4,q1,l2.trans l4,uu,r4,kk,e5⟩
   | bk=>cases e5;exact out rfl rfl
   | rt r=>cases e5;exact out rfl rfl
  .have ei:i=xs.length:=by omega
   subst ei;rw[List.drop_length]at e3;cases e3;exact .inl ⟨wk2 rfl,fz.fo (fl:=.nx) l2 r2 fun F5 H5 l5 u5 r5=>kq F5 H5 σ2 (l.trans l5) (u.trans (u'.trans (u2.trans u5))) r5 kp⟩
 .cases e
theorem sns_wh(c:Ctx X w k N sc){cd:E}{b:S}{z:Expr}{body:List Stmt}{pos:Pos}(hc:PT X z (LB X.K X.mg w cd))(hb:W5 X body (LS X.K X.mg w pt b)):PS X (.While z body [] pos) (LS X.K X.mg w pt (.wh cd b)):=fun XF s Z H D I ⟨F,G,p,fl,p',rel,e,kq⟩=>by
 replace e:=(ex_whQ _ _).symm.trans e
 refine bz (by rw[c.xe];exact PassesOwn.never) hc hb XF s Z H D I ?_
 let Wt:Nat->L2.St->Hp->Prop:=fun m σ2 H2=>∃F2 q,Le F F2/\Up X.K H H2/\Rel X.K X.mg F2 G q σ2 H2/\Kp pt Z σ2/\Tb (fun s=>Dy (ev w cd s)) (fun s=>ex w pt b s) m q=some (fl,p')
 refine⟨Wt,⟨1000000,F,p,Le.refl _,Up.refl _,rel,Kp.refl pt Z,e⟩, ?_⟩;rintro m σ2 H2 ⟨F2,q,l2,u2,r2,kp,e3⟩;cases m with
 | zero=>cases e3
 | succ m =>
  unfold Tb at e3;obtain⟨⟨d,q1⟩,e4,e5⟩:=ZO.mp e3;refine⟨F2,G,q,d,q1,r2,e4,fun F3 H3 l3 u3 r3=>?_⟩;cases d with
  | false =>
   cases e5;exact iteF (kq F3 H3 σ2 (l2.trans l3) (u2.trans u3) r3 kp)
  | true =>
   obtain⟨⟨f,q2⟩,e6,e7⟩:=ZO.mp (show (ex w pt b q1).bind _=some (fl,p') from e5);refine Zxv (B:=D.nx σ2 H3) ⟨fun σ' H'=>Wt m σ' H',fun σ' H' h=>⟨m,Nat.lt_succ_self m,h⟩,F3,G,q1,f,q2,r3,e6,fun F4 H4 σ4 l4 u4 r4 k4=>?_⟩;have kk:=kp.trans k4;have uu:=u2.trans (u3.trans u4);have ll:=l2.trans (l3.trans l4);cases f with
   | nx=>exact⟨F4,q2,ll,uu,r4,kk,e7⟩
   | ct=>exact⟨F4,q2,ll,uu,r4,kk,e7⟩
   | bk=>cases e7;exact kq F4 H4 σ4 ll uu r4 kk
   | rt r=>cases e7;exact kq F4 H4 σ4 ll uu r4 kk
end
def Xs:E->Bool
 | .comp _ _ _ _ _ _=>true
 | _=>false
inductive ShS where
 | ret(x:Option Expr) | ex(x:Expr) | asg(t x:Expr) | ite(z:Expr)(a b:List Stmt) | loop(t it:Expr)(b:List Stmt) | wh(z:Expr)(b:List Stmt) | pass | brk | cont | non
noncomputable def shA:ZC->Expr->ShS
 | [],_=>.non
 | t::r,x=>match r with
  | []=>.asg t x
  | _::_=>.non
def shL(t it:Expr)(b:List Stmt):List Stmt->ShS
 | []=>.loop t it b
 | _::_=>.non
def shW(z:Expr)(b:List Stmt):List Stmt->ShS
 | []=>.wh z b
 | _::_=>.non
noncomputable def Cq:Stmt->ShS
 | .Return x _=>.ret x
 | .Expr x _=>.ex x
 | .Assign ts x _=>shA ts x
 | .If z a b _=>.ite z a b
 | .For t it b e _=>shL t it b e
 | .While z b e _=>shW z b e
 | .Pass _=>.pass
 | .Break _=>.brk
 | .Continue _=>.cont
 | _=>.non
def ShSI:ShS->Stmt->Prop
 | .ret x,s=>∃p,s=.Return x p
 | .ex x,s=>∃p,s=.Expr x p
 | .asg t x,s=>∃p,s=.Assign [t] x p
 | .ite z a b,s=>∃p,s=.If z a b p
 | .loop t it b,s=>∃p,s=.For t it b [] p
 | .wh z b,s=>∃p,s=.While z b [] p
 | .pass,s=>∃p,s=.Pass p
 | .brk,s=>∃p,s=.Break p
 | .cont,s=>∃p,s=.Continue p
 | .non,_=>True
theorem iw(s:Stmt):ShSI (Cq s) s:=by
 cases s
 case Assign ts x p=>cases ts with
  | nil=>trivial
  | cons t r=>cases r with
   | nil=>exact⟨_,rfl⟩
   | cons _ _=>trivial
 case For t it b e p=>cases e with
  | nil=>exact⟨_,rfl⟩
  | cons _ _=>trivial
 case While z b e p=>cases e with
  | nil=>exact⟨_,rfl⟩
  | cons _ _=>trivial
 all_goals first | exact⟨_,rfl⟩ | exact True.intro
theorem Ux{s:Stmt}{h:ShS}(e:Cq s=h):ShSI h s:=e ▸ iw s
def Hq:E->Bool
 | .k t=>match t with
  | .non=>true
  | _=>false
 | _=>false
theorem jz{a:E}(h:Hq a=true):a=.k .non:=by
 cases a with
 | k t=>cases t with
  | non=>rfl
  | _=>cases h
 | _=>cases h
noncomputable def dh(t:Expr):Option Str:=match Lg t with
 | .name y=>some y
 | _=>none
theorem Xf{t:Expr}{y:Str}(h:dh t=some y):∃p,t=.Name y p:=by
 unfold dh at h
 split at h
 .rename_i e
  cases h;exact Yb e
 .cases h
noncomputable def ic(t:Expr):Option (Str×Expr):=match Lg t with
 | .sub o k=>(dh o).map (·,k)
 | _=>none
theorem ib{t k:Expr}{y:Str}(h:ic t=some (y,k)):∃q p,t=.Subscript (.Name y q) k p:=by
 unfold ic at h
 split at h
 .rename_i e
  obtain⟨p,rfl⟩:=Yb e;obtain⟨z,e1,e2⟩:=Yj.mp h;cases e2;obtain⟨q,rfl⟩:=Xf e1;exact⟨q,p,rfl⟩
 .cases h
mutual
noncomputable def repS(N:ZD)(sc:Scope):S->Stmt->Bool
 | .ret a,st=>match Cq st with
  | .ret x=>(match x with
   | some x=>rep true N sc a x
   | none=>Hq a)
  | _=>false
 | .ex a,st=>match Cq st with
  | .ex x=>rep true N sc a x && Dg x
  | _=>false
 | .set i a,st=>match Cq st with
  | .asg t x=>(match dh t with
   | some y=>N[i]? == some y && locs sc.names y && rep true N sc a x && (Dg x || Xs a)
   | none=>false)
  | _=>false
 | .unp tg a,st=>match Cq st with
  | .asg t x=>Bd N sc.names tg t && isTup t && rep true N sc a x && !isTup x
  | _=>false
 | .put i k a,st=>match Cq st with
  | .asg t x=>(match ic t with
   | some q=>U9 N sc.names i q.1 && rep true N sc a x && rep true N sc k q.2 && Uv q.2
   | none=>false)
  | _=>false
 | .ite c a b,st=>match Cq st with
  | .ite z x y=>rep true N sc c z && Ca c z && Gc N sc a x && Gc N sc b y
  | _=>false
 | .loop tg it b,st=>match Cq st with
  | .loop t iter body=>Qw true N sc t it iter && Bd N sc.names tg t && Gc N sc b body && Bn iter
  | _=>false
 | .wh c b,st=>match Cq st with
  | .wh z body=>rep true N sc c z && Ca c z && Gc N sc b body
  | _=>false
 | .pass,st=>match Cq st with
  | .pass=>true
  | _=>false
 | .brk,st=>match Cq st with
  | .brk=>true
  | _=>false
 | .cont,st=>match Cq st with
  | .cont=>true
  | _=>false
 | _,_=>false
noncomputable def Gc(N:ZD)(sc:Scope):S->List Stmt->Bool
 | .nil,[]=>true
 | .seq a r,st::rest=>repS N sc a st && Gc N sc r rest
 | _,_=>false
end
theorem xu{N:ZD}{sc:Scope}{st:Stmt}:∀a,repS N sc (.ret a) st=(match Cq st with
  | .ret x=>(match x with
   | some x=>rep true N sc a x
   | none=>Hq a)
  | _=>false):=fun _=>rfl
theorem gr{N:ZD}{sc:Scope}{st:Stmt}:∀a,repS N sc (.ex a) st=(match Cq st with
  | .ex x=>rep true N sc a x && Dg x
  | _=>false):=fun _=>rfl
theorem xp{N:ZD}{sc:Scope}{st:Stmt}:∀i a,repS N sc (.set i a) st=(match Cq st with
  | .asg t x=>(match dh t with
   | some y=>N[i]? == some y && locs sc.names y && rep true N sc a x && (Dg x || Xs a)
   | none=>false)
  | _=>false):=fun _ _=>rfl
theorem xh{N:ZD}{sc:Scope}{st:Stmt}:∀tg a,repS N sc (.unp tg a) st=(match Cq st with
  | .asg t x=>Bd N sc.names tg t && isTup t && rep true N sc a x && !isTup x
  | _=>false):=fun _ _=>rfl
theorem x5{N:ZD}{sc:Scope}{st:Stmt}:∀i k a,repS N sc (.put i k a) st=(match Cq st with
  | .asg t x=>(match ic t with
   | some q=>U9 N sc.names i q.1 && rep true N sc a x && rep true N sc k q.2 && Uv q.2
   | none=>false)
  | _=>false):=fun _ _ _=>rfl
theorem x6{N:ZD}{sc:Scope}{st:Stmt}:∀c a b,repS N sc (.ite c a b) st=(match Cq st with
  | .ite z x y=>rep true N sc c z && Ca c z && Gc N sc a x && Gc N sc b y
  | _=>false):=fun _ _ _=>rfl
theorem Ko{N:ZD}{sc:Scope}{st:Stmt}:∀tg it b,repS N sc (.loop tg it b) st=(match Cq st with
  | .loop t iter body=>Qw true N sc t it iter && Bd N sc.names tg t && Gc N sc b body && Bn iter
  | _=>false):=fun _ _ _=>rfl
theorem gc{N:ZD}{sc:Scope}{st:Stmt}:∀c b,repS N sc (.wh c b) st=(match Cq st with
  | .wh z body=>rep true N sc c z && Ca c z && Gc N sc b body
  | _=>false):=fun _ _=>rfl
theorem Ka{N:ZD}{sc:Scope}{st:Stmt}:repS N sc (.pass ) st=(match Cq st with
  | .pass=>true
  | _=>false):=rfl
theorem x8{N:ZD}{sc:Scope}{st:Stmt}:repS N sc (.brk ) st=(match Cq st with
  | .brk=>true
  | _=>false):=rfl
theorem Ki{N:ZD}{sc:Scope}{st:Stmt}:repS N sc (.cont ) st=(match Cq st with
  | .cont=>true
  | _=>false):=rfl
theorem qz{N:ZD}{sc:Scope}{st:Stmt}{rest:List Stmt}:∀a r,Gc N sc (.seq a r) (st::rest)=(repS N sc a st && Gc N sc r rest):=fun _ _=>rfl
section
variable{X:Cx}{w:W}{k:Nat}{N:ZD}{sc:Scope}{pt:Nat->Bool}
theorem xq{elt:Expr}{gs:List Comprehension}{scope:Scope}{pos p:Pos}{t:Str}{ln:Nat}{env:Env}:swapsWith (.ListComp elt gs scope pos) (some (.Name t p)) ln env=pure (env.blockKind == .function && env.kindOf t == some .local && p.line == pos.line && !(scope.names.any fun(n,k)=>n == t && (k == .local || k == .cell))):=rfl
theorem yo(c:Ctx X w k N sc.names)(ct:X.env.scope.names=sc.names){i:Nat}{tg it cd el:E}{fr:ZG}{ns:ZD}{x:Expr}{y:Str}{pos pos':Pos}(hr:(N[i]? == some y && locs sc.names y)=true)(hx:rep true N sc (.comp tg it cd el fr ns) x=true):PS X (.Assign [.Name y pos'] x pos) (LS X.K X.mg w pt (.set i (.comp tg it cd el fr ns))):=by
 have hse:=(Jc (w:=w) (.comp tg it cd el fr ns)).1 X k N sc true x c (fun _=>ct) hx
 have hsw:swapsWith x (some (.Name y pos')) pos.line X.env=pure false\/swapsWith x (some (.Name y pos')) pos.line X.env=pure true:=by
  cases x<;>first | exact .inl rfl | skip
  all_goals (first | (rw[xq];rename_i sc' pp;cases(X.env.blockKind == .function && X.env.kindOf y == some .local && pos'.line == pp.line && !(sc'.names.any fun(n,k)=>n == y && (k == .local || k == .cell)))<;>first | exact .inl rfl | exact .inr rfl) | skip)
  all_goals cases(show false=true from hx)
 rcases hsw with hsw | hsw
 .exact Iq c hr hse hsw
 .replace hx:=(Lm _ _ _ _ _ _).symm.trans hx
  split at hx
  .rename_i elt t iter ifs scope hy
   obtain⟨pos3,rfl⟩:=Eh hy;simp only[Y8]at hx;obtain⟨⟨⟨⟨⟨⟨⟨⟨⟨h1,h2⟩,h3⟩,h4⟩,h5⟩,h6⟩,h7⟩,h8⟩,h9⟩,h10⟩:=hx;have nd:ns.Nodup:=Pa h5;have cc:=fun fp s H=>c.comp (outer:=sc) h3 nd fp s H
   have ht:∀i∈Bg tg,fr[i]?=some none:=fun i m=>by
    unfold az at h6;rw[Pt]at h6;exact eq_of_beq (h6 i m)
   have hc:∀fp s H,PTs (Z1 X scope ns fp s H) ifs (LT X.K X.mg w cd):=fun fp s H=>by
    unfold LT;by_cases hn:isNil cd=true
    .rw[if_pos hn]at h9 ⊢;rw[List.isEmpty_iff.mp h9];exact Xz
    .rw[if_neg hn]at h9 ⊢
     split at h9
     .rw[Y8]at h9;exact I9 ((Jc (w:=w) cd).2.1 _ k ns scope false _ (cc fp s H) (fun z=>by cases z) h9.1 h9.2).1
     .cases h9
   rw[Y8,beq_iff_eq]at hr;obtain⟨l1,l2⟩:=c.loc hr.2;have hi:X.N[i]?=some y:=by rw[c.nN];exact hr.1
   intro XF s Z H D I hs;have hl:i<Z.length:=by rw[I.len];exact(Bz.mp hi).1
   exact PS.mel (K2 (te:=fun _ _ _=>LE X.K X.mg w el) (tt:=fun _ _ _=>LT X.K X.mg w cd) (g:=fun _ _ _=>LG X.K X.mg tg) (by rw[c.nN];exact c.nd) hi l1 c.calm ((Jc (w:=w) it).2.2.2 X k N sc true t iter c (fun _=>ct) h2) (NX:=N) (outer:=sc) ⟨c.nN,ct,h3,h4⟩ (fun fp s H=>C1 (cc fp s H) tg h8) hc (fun fp s H=>(Jc (w:=w) el).1 _ k ns scope false elt (cc fp s H) (fun z=>by cases z) h10) hsw (G2 h7) l2) XF s Z H D I
    (zv c h4 nd ht (by rw[I.len,c.nN]) (kc hl hs))
  .cases hx
theorem oj(c:Ctx X w k N sc.names)(ct:X.env.scope.names=sc.names):∀s:S,(∀st,repS N sc s st=true->PS X st (LS X.K X.mg w pt s))/\∀sts,Gc N sc s sts=true->W5 X sts (LS X.K X.mg w pt s):=by
 have E:=fun(e:E) (x:Expr) (h:rep true N sc e x=true)=>(Jc (w:=w) e).1 X k N sc true x c (fun _=>ct) h;have Tt:=fun(e:PV.E) (x:Expr) (h:rep true N sc e x=true) (t:Ca e x=true)=>((Jc (w:=w) e).2.1 X k N sc true x c (fun _=>ct) h t).1;have It:=fun(e:PV.E) (t x:Expr) (h:Qw true N sc t e x=true)=>(Jc (w:=w) e).2.2.2 X k N sc true t x c (fun _=>ct) h;have nb:∀{s:S},(∀sts,Gc N sc s sts=false)->∀sts,Gc N sc s sts=true->W5 X sts (LS X.K X.mg w pt s):=fun h sts z=>by rw[h]at z;cases z
 have ns:∀{s:S},(∀st,repS N sc s st=false)->∀st,repS N sc s st=true->PS X st (LS X.K X.mg w pt s):=fun h sts z=>by rw[h]at z;cases z
 intro s
 induction s with
 | nil =>
  refine⟨ns fun st=>rfl,fun sts h=>?_⟩;cases sts with
  | nil=>exact oz
  | cons _ _=>cases(show false=true from h)
 | seq a r ha hr =>
  refine⟨ns fun st=>rfl,fun sts h=>?_⟩;cases sts with
  | nil=>cases(show false=true from h)
  | cons st rest =>
   replace h:=(qz _ _).symm.trans h
   rw[Y8]at h;exact y4 (ha.1 st h.1) (hr.2 rest h.2)
 | ret a =>
  refine⟨fun st h=>?_,nb fun sts=>rfl⟩
  replace h:=(xu _).symm.trans h
  split at h
  .rename_i e
   obtain⟨p,rfl⟩:=Ux e
   split at h
   .exact a8 (E a _ h)
   .rw[jz h];exact yi
  .cases h
 | ex a =>
  refine⟨fun st h=>?_,nb fun sts=>rfl⟩
  replace h:=(gr _).symm.trans h
  split at h
  .rename_i e
   obtain⟨p,rfl⟩:=Ux e;rw[Y8]at h;exact sns_ex (E a _ h.1) h.2
  .cases h
 | set i a =>
  refine⟨fun st h=>?_,nb fun sts=>rfl⟩
  replace h:=(xp _ _).symm.trans h
  split at h
  .rename_i e
   obtain⟨p,rfl⟩:=Ux e
   split at h
   .rename_i e
    obtain⟨p,rfl⟩:=Xf e;simp only[Y8]at h;obtain⟨⟨⟨h1,h2⟩,h3⟩,h4⟩:=h;have h12:=uk.mpr ⟨h1,h2⟩;rw[Bool.or_eq_true]at h4;rcases h4 with h4 | h4
    .exact Iq c h12 (E a _ h3) (A4 h4)
    .cases a<;>first | exact yo c ct h12 h3 | cases h4
   .cases h
  .cases h
 | unp tg a =>
  refine⟨fun st h=>?_,nb fun sts=>rfl⟩
  replace h:=(xh _ _).symm.trans h
  split at h
  .rename_i e
   obtain⟨p,rfl⟩:=Ux e;simp only[Y8]at h;obtain⟨⟨⟨h1,h2⟩,h3⟩,h4⟩:=h;exact ai c h1 h2 (E a _ h3) (by simpa using h4)
  .cases h
 | put i kk a =>
  refine⟨fun st h=>?_,nb fun sts=>rfl⟩
  replace h:=(x5 _ _ _).symm.trans h
  split at h
  .rename_i e
   obtain⟨p,rfl⟩:=Ux e
   split at h
   .rename_i e
    obtain⟨q,p,rfl⟩:=ib e;simp only[Y8]at h;obtain⟨⟨⟨h1,h2⟩,h3⟩,h4⟩:=h;exact a9 c h1 (E a _ h2) (E kk _ h3) h4
   .cases h
  .cases h
 | ite cd a b ha hb =>
  refine⟨fun st h=>?_,nb fun sts=>rfl⟩
  replace h:=(x6 _ _ _).symm.trans h
  split at h
  .rename_i e
   obtain⟨p,rfl⟩:=Ux e;simp only[Y8]at h;obtain⟨⟨⟨h1,h2⟩,h3⟩,h4⟩:=h;exact ox (Tt cd _ h1 h2) (ha.2 _ h3) (hb.2 _ h4)
  .cases h
 | loop tg it b hb =>
  refine⟨fun st h=>?_,nb fun sts=>rfl⟩
  replace h:=(Ko _ _ _).symm.trans h
  split at h
  .rename_i e
   obtain⟨p,rfl⟩:=Ux e;simp only[Y8]at h;obtain⟨⟨⟨h1,h2⟩,h3⟩,h4⟩:=h;exact y2 c (It it _ _ h1) h2 (hb.2 _ h3) h4
  .cases h
 | wh cd b hb =>
  refine⟨fun st h=>?_,nb fun sts=>rfl⟩
  replace h:=(gc _ _).symm.trans h
  split at h
  .rename_i e
   obtain⟨p,rfl⟩:=Ux e;simp only[Y8]at h;obtain⟨⟨h1,h2⟩,h3⟩:=h;exact sns_wh c (Tt cd _ h1 h2) (hb.2 _ h3)
  .cases h
 | pass =>
  refine⟨fun st h=>?_,nb fun sts=>rfl⟩
  replace h:=(Ka).symm.trans h
  split at h
  .rename_i e
   obtain⟨p,rfl⟩:=Ux e;exact ye
  .cases h
 | brk =>
  refine⟨fun st h=>?_,nb fun sts=>rfl⟩
  replace h:=(x8).symm.trans h
  split at h
  .rename_i e
   obtain⟨p,rfl⟩:=Ux e;exact oq
  .cases h
 | cont =>
  refine⟨fun st h=>?_,nb fun sts=>rfl⟩
  replace h:=(Ki).symm.trans h
  split at h
  .rename_i e
   obtain⟨p,rfl⟩:=Ux e;exact y3
  .cases h
end
noncomputable def Vh(as:List Sl)(i:Nat):Bool:=match as[i]? with
 | some (.o _)=>true
 | _=>false
noncomputable def Uw:List Sl->P->Option (ZZ)
 | [],_=>some []
 | .o _::r,.o t::q=>(Uw r q).map (t::·)
 | .f _::r,_::q=>Uw r q
 | .no::r,_::q=>Uw r q
 | _,_=>none
noncomputable def fin(as:List Sl)(r:Sl)(p:P):Option (Sl×ZZ):=(Uw as p).map fun ts=>(r,ts)
structure Df where
 n:Nat
 ar:Nat
 code:S
noncomputable def Od(d:Df)(w:W)(as:List Sl):Option (Sl×ZZ):=if as.length=d.ar then (ex w (Vh as) d.code (as++List.replicate (d.n - d.ar) .no)).bind fun q=>match q.1 with
  | .rt r=>fin as r q.2
  | .nx=>fin as (.f .non) q.2
  | _=>none
 else none
theorem Nj:∀{as:List Sl} {p:P} {ts:ZZ},Uw as p=some ts->(∀(j:Nat) (u:T),as[j]?=some (Sl.o u)->∃t,p[j]?=some (Sl.o t)/\(Wk as ts)[j]?=some (Sl.o t))/\(∀(j:Nat) (s:Sl),(Wk as ts)[j]?=some s->(as[j]?=some s/\∀u,s≠.o u)\/∃t u,s=.o t/\as[j]?=some (.o u)/\p[j]?=some (.o t))/\(Wk as ts).length=as.length
 | [],p,ts,e=>by cases e;exact⟨fun j u h=>by simp at h,fun j s h=>by simp[Wk]at h,rfl⟩
 | .o x::r,[],ts,e=>by cases e
 | .o x::r,.f _::q,ts,e=>by cases e
 | .o x::r,.no::q,ts,e=>by cases e
 | .o x::r,.o t::q,ts,e=>by
  obtain⟨ts',e1,rfl⟩:=Yj.mp (show (Uw r q).map (t::·)=some ts from e);obtain⟨h1,h2,h3⟩:=Nj e1;refine⟨fun j u h=>?_,fun j s h=>?_,by show (Wk r ts').length+1=r.length+1;rw[h3]⟩
  .cases j with
   | zero=>exact⟨t,rfl,rfl⟩
   | succ j=>obtain⟨t',a1,a2⟩:=h1 j u (by simpa using h);exact⟨t',by simpa using a1,a2⟩
  .cases j with
   | zero=>exact .inr ⟨t,x,(D3 h).symm,rfl,rfl⟩
   | succ j =>
    rcases h2 j s h with ⟨a1,a2⟩ | ⟨t',u',a1,a2,a3⟩
    .exact .inl ⟨by simpa using a1,a2⟩
    .exact .inr ⟨t',u',a1,by simpa using a2,by simpa using a3⟩
 | .f x::r,[],ts,e=>by cases e
 | .no::r,[],ts,e=>by cases e
 | .f x::r,s0::q,ts,e=>by
  have e1:Uw r q=some ts:=e;obtain⟨h1,h2,h3⟩:=Nj e1;have eu:Wk (.f x::r) ts=.f x::Wk r ts:=by cases ts<;>rfl
  rw[eu];refine⟨fun j u h=>?_,fun j s h=>?_,by rw[Gs,Gs,h3]⟩
  .cases j with
   | zero=>simp at h
   | succ j=>obtain⟨t',a1,a2⟩:=h1 j u (by simpa using h);exact⟨t',by simpa using a1,by simpa using a2⟩
  .cases j with
   | zero=>simp at h;subst h;exact .inl ⟨rfl,fun u z=>by cases z⟩
   | succ j =>
    rcases h2 j s (by simpa using h) with ⟨a1,a2⟩ | ⟨t',u',a1,a2,a3⟩
    .exact .inl ⟨by simpa using a1,a2⟩
    .exact .inr ⟨t',u',a1,by simpa using a2,by simpa using a3⟩
 | .no::r,s0::q,ts,e=>by
  have e1:Uw r q=some ts:=e;obtain⟨h1,h2,h3⟩:=Nj e1;have eu:Wk (.no::r) ts=.no::Wk r ts:=by cases ts<;>rfl
  rw[eu];refine⟨fun j u h=>?_,fun j s h=>?_,by rw[Gs,Gs,h3]⟩
  .cases j with
   | zero=>simp at h
   | succ j=>obtain⟨t',a1,a2⟩:=h1 j u (by simpa using h);exact⟨t',by simpa using a1,by simpa using a2⟩
  .cases j with
   | zero=>simp at h;subst h;exact .inl ⟨rfl,fun u z=>by cases z⟩
   | succ j =>
    rcases h2 j s (by simpa using h) with ⟨a1,a2⟩ | ⟨t',u',a1,a2,a3⟩
    .exact .inl ⟨by simpa using a1,a2⟩
    .exact .inr ⟨t',u',a1,by simpa using a2,by simpa using a3⟩
section
variable{K:W.Frag}{mg:ZV}{F G H:Hp}
theorem xj{as:List Sl}{vs:ZQ}{n:Nat}{N:ZD}(r:Rel K mg F G as (vs.map some) H)(hn:N.length=n)(hl:vs.length<=n):Rel K mg F G (as++List.replicate (n - as.length) Sl.no) (L2.start N vs) H:=by
 have al:as.length=vs.length:=by have:=r.ln;rw[Z4]at this;exact this
 have old:∀{i:Nat} {s:Sl},(as++List.replicate (n - as.length) Sl.no)[i]?=some s->s≠.no->as[i]?=some s/\i<vs.length:=fun {i s} h ne=>by
  rw[List.getElem?_append]at h
  split at h
  .rename_i hi;exact⟨h,by omega⟩
  .rw[List.getElem?_replicate]at h
   split at h
   .cases h;exact absurd rfl ne
   .cases h
 have st:∀{i:Nat},i<vs.length->(L2.start N vs)[i]?=(vs.map some)[i]?:=fun {i} h=>by
  unfold L2.start;rw[G0l (by rw[Z4];exact h)]
 refine⟨r.b,fun i t e=>?_,fun i t e=>?_,fun i j t u a e1 e2 h1 h2=>?_, ?_⟩
 .obtain⟨e,hi⟩:=old e fun z=>nomatch z;rw[st hi];exact r.fz i t e
 .obtain⟨e,hi⟩:=old e fun z=>nomatch z;rw[st hi];exact r.ow i t e
 .obtain⟨e1,i1⟩:=old e1 fun z=>nomatch z;obtain⟨e2,i2⟩:=old e2 fun z=>nomatch z;rw[st i1]at h1;rw[st i2]at h2;exact r.ap i j t u a e1 e2 h1 h2
 .unfold L2.start;rw[Gg,Gg,List.length_replicate,List.length_replicate,Z4,al,hn]
theorem X8{F' H':Hp}{as:List Sl}{vs:ZQ}{ts:ZZ}{p':P}{σ0 σ':L2.St}{rr:Sl}{v:V}(r:Rel K mg F G as (vs.map some) H)(hσ:∀i:Nat,i<vs.length->σ0[i]?=(vs.map some)[i]?)(eo:Uw as p'=some ts)(l:Le F F')(u:Up K H H')(r':Rel K mg F' G p' σ' H')(kp:Kp (Vh as) σ0 σ')(rs:Res K mg F' G p' σ' H' rr v) :
  Rel K mg F' G (Wk as ts) (vs.map some) H'/\Res K mg F' G (Wk as ts) (vs.map some) H' rr v:=by
 obtain⟨o1,o2,o3⟩:=Nj eo;have al:as.length=vs.length:=by have:=r.ln;rw[Z4]at this;exact this
 have own:∀{j:Nat} {t:T},(Wk as ts)[j]?=some (Sl.o t)->p'[j]?=some (Sl.o t)/\σ'[j]?=(vs.map some)[j]?/\∃u,as[j]?=some (Sl.o u):=fun {j t} h=>by
  rcases o2 j _ h with ⟨_,a2⟩ | ⟨t',u',a1,a2,a3⟩
  .exact absurd rfl (a2 t)
  .cases a1;have hj:j<vs.length:=by rw[<-al];exact(Bz.mp a2).1
   exact⟨a3,(kp.2 j (by unfold Vh;rw[a2])).trans (hσ j hj),u',a2⟩
 refine⟨⟨r'.b,fun j t e=>?_,fun j t e=>?_,fun i j t t' a e1 e2 h1 h2=>?_,by rw[o3];exact r.ln⟩, ?_⟩
 .rcases o2 j _ e with ⟨a1,_⟩ | ⟨_,_,z,_⟩
  .obtain⟨v,h1,h2⟩:=r.fz j t a1;exact⟨v,h1,IsT.up u l t v h2⟩
  .cases z
 .obtain⟨a1,a2,_⟩:=own e;rw[<-a2];exact r'.ow j t a1
 .obtain⟨a1,a2,_⟩:=own e1;obtain⟨b1,b2,_⟩:=own e2;rw[<-a2]at h1;rw[<-b2]at h2;exact r'.ap i j t t' a a1 b1 h1 h2
 .cases rr with
  | no=>exact rs
  | f t=>exact rs
  | o t =>
   obtain⟨a,rfl,h1,h2,h3,h4⟩:=rs;refine⟨a,rfl,h1,h2,h3,fun j u e z=>?_⟩;obtain⟨a1,a2,_⟩:=own e;rw[<-a2]at z;exact h4 j u a1 z
end
theorem Sn{P:Program}{wd:World}{K:PySem.W.Frag}{mg:ZV}{base:Heap}{w:W}{x qual:Str}{st:Stmt}{f:Addr}{fd:FuncData}{N ps:ZD}{k:Nat}{d:Df}(F:Fun K x qual st f fd)(S:Ds N ps (Zk st))(hn:N.length=d.n)(ha:ps.length=d.ar)(hle:ps.length<=N.length)(hrep:Gc N (Zk st) d.code (Y2 st)=true)
  (bn:∀x∈Jy,mg x=none) (fn:∀f as r,w.C f as=some r->∃ps,as.length=ps.length/\Fn P wd K mg base k f ps (spC K mg ps.length (w.C f))) (gl:∀x t,w.gl x=some t->∃v u,mg x=some u/\RelV v u/\∀H F,IsT K mg H F t v) :
  Dj P wd K mg base uy (k+1) f fd ps (spC K mg ps.length (Od d w)):=by
 refine F.ok S (fun vs H Q E h=>h.1) fun cdv A outer s H vs Q E hr h=>?_;obtain⟨hv,F0,G,as,r,ec,rel,kq⟩:=h;unfold Od at ec
 split at ec
 .rename_i hal
  obtain⟨⟨fl,p'⟩,e1,e2⟩:=ZO.mp ec;have c:Ctx (Hl uy P wd K mg base N qual (Zk st) f cdv A outer s H E).nox w k N (Zk st).names:=⟨rfl,S.nd,fun y kd e=>.inl e,rfl,hr,bn,fn,gl,rfl,fun _ _=>rfl⟩;refine⟨LS K mg w (Vh as) d.code,(oj (sc:=Zk st) (pt:=Vh as) c rfl d.code).2 _ hrep,F0,G,_,fl,p',xj rel hn (by rw[hv];omega),by rw[hal];exact e1,fun F' H' σ' l u Yz kp=>?_⟩
  have hσ:∀i:Nat,i<vs.length->(L2.start N vs)[i]?=(vs.map some)[i]?:=fun i h=>by
   unfold L2.start;rw[G0l (by rw[Z4];exact h)]
  cases fl with
  | nx =>
   obtain⟨ts,e3,e4⟩:=Yj.mp (show (Uw as p').map _=some r from e2);cases e4;obtain⟨g1,g2⟩:=X8 (v:=.non) (rr:=.f .non) rel hσ e3 l u Yz kp rfl;exact kq F' H' .non l u g1 g2
  | rt rr =>
   obtain⟨ts,e3,e4⟩:=Yj.mp (show (Uw as p').map _=some r from e2);cases e4;intro v rs;obtain⟨g1,g2⟩:=X8 rel hσ e3 l u Yz kp rs;exact kq F' H' v l u g1 g2
  | bk=>cases e2
  | ct=>cases e2
 .cases ec
def wF(d:Df)(w:W)(as:List Sl)(Q:Sl×ZZ->Prop):Prop:=if as.length=d.ar then wS w (Vh as) d.code (as++List.replicate (d.n - d.ar) .no) ⟨fun p=>on (fin as (.f .non) p) Q,fun r p=>on (fin as r p) Q,fun _=>False,fun _=>False⟩ else False
theorem Kq{d:Df}{w:W}{as:List Sl}{Q:Sl×ZZ->Prop}(h:wF d w as Q):∃x,Od d w as=some x/\Q x:=by
 unfold wF at h
 split at h
 .rename_i ha
  obtain⟨f,p',e,h⟩:=wS_ex w (Vh as) d.code _ _ h;unfold Od;rw[if_pos ha,e];cases f with
  | nx=>exact Yg h
  | rt r=>exact Yg h
  | bk=>exact h.elim
  | ct=>exact h.elim
 .exact h.elim
noncomputable def Cn(tab:Str->Option Df)(gl:Str->Option T):Nat->Cs
 | 0=>fun _ _=>none
 | n+1=>fun f as=>(tab f).bind fun d=>Od d ⟨Cn tab gl n,gl⟩ as
structure B9(K:W.Frag)(mg:ZV)(f:Str)(d:Df):Prop where
 ex:∃st a fd N ps,Fun K f f st a fd/\mg f=some (.ref a)/\Ds N ps (Zk st)/\N.length=d.n/\ps.length=d.ar/\ps.length<=N.length/\Gc N (Zk st) d.code (Y2 st)=true/\Binds K fd ps []
theorem knot{P:Program}{wd:World}{K:W.Frag}{mg:ZV}{base:Heap}{tab:Str->Option Df}{gl:Str->Option T}(bn:∀x∈Jy,mg x=none)(ft:∀f d,tab f=some d->B9 K mg f d)(hg:∀x t,gl x=some t->∃v u,mg x=some u/\RelV v u/\∀H F,IsT K mg H F t v) :
  ∀n f as r,Cn tab gl n f as=some r->∃ps,as.length=ps.length/\Fn P wd K mg base n f ps (spC K mg ps.length (Cn tab gl n f))
 | 0,f,as,r,h=>by cases h
 | n+1,f,as,r,h=>by
  obtain⟨d,e1,e2⟩:=ZO.mp (show (tab f).bind _=some r from h);obtain⟨st,a,fd,N,ps,F,hm,S,hn,ha,hle,hrep,hb⟩:=(ft f d e1).ex
  have ec:Cn tab gl (n+1) f=Od d ⟨Cn tab gl n,gl⟩:=by
   funext as
   show (tab f).bind _=_;rw[e1]
   rfl
  refine⟨ps, ?_,a,fd, ?_,hb,F.kp,hm⟩
  .unfold Od at e2
   split at e2
   .rename_i q;rw[ha];exact q
   .cases e2
  .rw[ec];exact Sn F S hn ha hle hrep bn (knot bn ft hg n) hg
end PV
namespace PV
open PySem
abbrev Zi(a:E):E:=.cons a .nil
abbrev Zy(a b:E):E:=.cons a (.cons b .nil)
abbrev Mf(a b c:E):E:=.cons a (.cons b (.cons c .nil))
abbrev ro4(a b c d:E):E:=.cons a (.cons b (.cons c (.cons d .nil)))
abbrev ki(i:Int):E:=.k (.int i)
abbrev ks(x:Str):E:=.k (.str x)
abbrev Zl(a b:E):E:=.pr .ix (.cons a (.cons b .nil))
noncomputable abbrev B4(a b:E):E:=.pr (.cm .eq) (.cons a (.cons b .nil))
abbrev Gn(a b:E):E:=.pr (.op .add) (.cons a (.cons b .nil))
abbrev Wa(a:E):E:=.pr .len (.cons a .nil)
abbrev Ub(a:S):S:=.seq a .nil
end PV
namespace PV
open PySem PySem.Spec PyProof.Rows L2
theorem Zze{Z:Type}{o:Option Z}{Q Q':Z->Prop}(h:on o Q)(q:∀x,Q x->Q' x):on o Q':=by
 obtain⟨a,e,h⟩:=Yg h;rw[e];exact q a h
theorem Kj{body:T->P->(Option T->P->Prop)->Prop}(I:ZZ->ZZ->P->Prop)(st:∀x r acc p K,I (x::r) acc p->(∀y p',I r (acc++[y]) p'->K (some y) p')->(∀p',I r acc p'->K none p')->body x p K) :
  ∀(xs acc:ZZ) (p:P) (Q:ZZ->P->Prop),I xs acc p->(∀acc p,I [] acc p->Q acc p)->D5 body xs acc p Q
 | [],acc,p,Q,h,q=>q acc p h
 | x::r,acc,p,Q,h,q=>st x r acc p _ h (fun y p' h'=>Kj I st r (acc++[y]) p' Q h' q) fun p' h'=>Kj I st r acc p' Q h' q
theorem P1{body:T->P->En->Prop}(I:ZZ->P->Prop)(B:P->Prop)(R:Sl->P->Prop)
  (st:∀x r p (D:En),I (x::r) p->(∀q,I r q->D.nx q)->(∀q,I r q->D.ct q)->(∀q,B q->D.bk q)->(∀s q,R s q->D.rt s q)->body x p D) :
  ∀(xs:ZZ) (p:P) (D:En),I xs p->(∀q,I [] q->D.nx q)->(∀q,B q->D.nx q)->(∀s q,R s q->D.rt s q)->Gm body xs p D
 | [],p,D,h,q,_,_=>q p h
 | x::r,p,D,h,q,b,t=>st x r p _ h (fun p' h'=>P1 I B R st r p' D h' q b t) (fun p' h'=>P1 I B R st r p' D h' q b t) b t
theorem W9{body:T->P->En->Prop}{xs:ZZ}{p:P}{D:En}(I:ZZ->P->Prop)(h:I xs p)(st:∀x r p (D:En),I (x::r) p->(∀q,I r q->D.nx q)->(∀q,I r q->D.ct q)->body x p D)(q:∀q,I [] q->D.nx q):Gm body xs p D :=
 P1 I (fun _=>False) (fun _ _=>False) (fun x r p D h n c _ _=>st x r p D h n c) xs p D h q (fun _ z=>z.elim) fun _ _ z=>z.elim
theorem Cu{body:T->P->(Option T->P->Prop)->Prop}{xs:ZZ}{p:P}{Q:ZZ->P->Prop}(I:ZZ->ZZ->P->Prop)(h:I xs [] p)(st:∀x r acc p K,I (x::r) acc p->(∀y p',I r (acc++[y]) p'->K (some y) p')->(∀p',I r acc p'->K none p')->body x p K)(q:∀acc p,I [] acc p->Q acc p):D5 body xs [] p Q :=
 Kj I st xs [] p Q h q
theorem wWhI{test:P->(Bool->P->Prop)->Prop}{body:P->En->Prop}(I:Nat->P->Prop){D:En}
  (st:∀m p (K:Bool->P->Prop),I m p->(∀q,(∀D':En,(∀m' q',m'<m->I m' q'->D'.nx q')->(∀m' q',m'<m->I m' q'->D'.ct q')->(∀q',D.nx q'->D'.bk q')->(∀s q',D.rt s q'->D'.rt s q')->body q D')->K true q)->(∀q,D.nx q->K false q)->test p K) :
  ∀(m n:Nat) (p:P),m<n->I m p->wWh test body n p D:=by
 intro m
 induction m using Nat.strongRecOn with
 | ind m ih =>
  intro n p h i
  match n,h with
  | n+1,h =>
   refine st m p _ i (fun q g=>?_) fun q g=>?_
   .show if (true:Bool)=true then _ else _
    rw[if_pos rfl];exact g _ (fun m' q' l i'=>ih m' l n q' (by omega) i') (fun m' q' l i'=>ih m' l n q' (by omega) i') (fun _ z=>z) fun _ _ z=>z
   .show if (false:Bool)=true then _ else _
    rw[if_neg (fun z=>nomatch z)];exact g
theorem callW{tab:Str->Option Df}{gl:Str->Option T}{n:Nat}{f:Str}{as:List Sl}{Q:Sl×ZZ->Prop}{d:Df}(e:tab f=some d)(h:wF d ⟨Cn tab gl n,gl⟩ as Q):on (Cn tab gl (n+1) f as) Q:=by
 obtain⟨x,h1,h2⟩:=Kq h;exact Zm (a:=x) (by show (tab f).bind _=_;rw[e];exact h1) h2
theorem Ms(a:Int):∀zs:ZL,My (.int a) (zs.map .int)=some (zs.any fun z=>decide (z=a))
 | []=>rfl
 | z::zs=>by
  show (My (.int a) (zs.map .int)).map (decide (z=a) || ·)=_;rw[Ms a zs];rfl
theorem Zxb(a:Int)(zs:ZL):E4 (.int a) (.lst (zs.map .int))=some (zs.any fun z=>decide (z=a)):=by
 cases zs with
 | nil=>rfl
 | cons z zs=>exact Ms a (z::zs)
theorem cv(a:Int)(zs:ZL):E4 (.int a) (.tup (zs.map .int))=some (zs.any fun z=>decide (z=a)):=by
 cases zs with
 | nil=>rfl
 | cons z zs =>
  show (if L8 (.int a)=true/\((z::zs).map T.int).all L8=true then My (.int a) ((z::zs).map T.int) else none)=_;rw[if_pos ⟨rfl,by rw[List.all_map,Pt];intro x _;rfl⟩,Ms]
theorem strs_map:∀ss:ZD,Z7 (ss.map .str)=some ss
 | []=>rfl
 | s::ss=>by show (Z7 (ss.map .str)).map (s::·)=_;rw[strs_map ss];rfl
theorem ints_map:∀ss:ZL,Nb (ss.map .int)=some ss
 | []=>rfl
 | s::ss=>by show (Nb (ss.map .int)).map (s::·)=_;rw[ints_map ss];rfl
theorem L4(s:Str)(ss:ZD):Nb ((s::ss).map .str)=none:=rfl
theorem cg(x:Str)(ss:ZD):E4 (.str x) (.lst (ss.map .str))=some (ss.any fun y=>decide (y=x)):=by
 show (match Z7 (ss.map .str) with | some ss=>jv (.str x) ss | none=>_)=_;rw[strs_map];rfl
theorem srt_ints(zs:ZL)(h:zs.length<64):M8 (zs.map .int)=some ((SRT.Bb zs).map .int):=by
 unfold M8;rw[if_pos (by rw[Z4];exact h),ints_map]
theorem srt_strs(ss:ZD)(h:ss.length<64):M8 (ss.map .str)=some ((SRT.Yq ss).map .str):=by
 unfold M8;rw[if_pos (by rw[Z4];exact h)];cases ss with
 | nil=>rfl
 | cons s ss=>rw[L4,strs_map];rfl
theorem Oq(ss:ZD)(h:ss.length<64):Oj (ss.map .str)=some ((SRT.Yq (SRT.Jm ss)).map .str):=by
 unfold Oj;rw[if_pos (by rw[Z4];exact h)];cases ss with
 | nil=>rfl
 | cons s ss=>rw[L4,strs_map];rfl
theorem Ax{Z:Type}{xs:List Z}{i:Int}(h0:0<=i)(h1:i<xs.length):∃x,Jd xs i=some x/\xs[i.toNat]?=some x/\x∈xs:=by
 have hj:i.toNat<xs.length:=by omega
 refine⟨xs[i.toNat], ?_,V0 hj,wu hj⟩;unfold Jd Qr;rw[if_pos h0,if_pos h1];exact V0 hj
theorem ixP{ts:ZZ}{r:Int}{Q:Sl->Prop}(h0:0<=r)(h1:r<ts.length)(q:∀x,ts[r.toNat]?=some x->x∈ts->Q (.f x)):on ((O7 (.lst ts) (.int r)).map Sl.f) Q:=by
 obtain⟨x,hx,e,mx⟩:=Ax h0 h1;exact Zm (a:=Sl.f x) (by show (Jd _ _).map _=_;rw[hx];rfl) (q x e mx)
theorem k8{n:Nat}{d:Nat}{i:Int}(h0:0<=i)(h1:i<=n):HT.Yl n d (some i)=i.toNat:=by
 obtain⟨k,rfl⟩:=Int.eq_ofNat_of_zero_le h0;rw[HT.Ic,XG];omega
theorem B5{ts:ZZ}{i:Int}(h0:0<=i)(h1:i<=ts.length):Zn ts none (some i)=ts.take i.toNat:=by
 unfold Zn;rw[k8 h0 h1];show (ts.drop 0).take (i.toNat - 0)=_;simp
theorem G5{ts:ZZ}{i:Int}(h0:0<=i)(h1:i<=ts.length):Zn ts (some i) none=ts.drop i.toNat:=by
 unfold Zn;rw[k8 h0 h1];show (ts.drop i.toNat).take (ts.length - i.toNat)=_;rw[List.take_of_length_le (by rw[List.length_drop];omega)]
theorem t8(n:Nat):(Builtin.Str.strSliceIndices (some 1) none 1 n).length<=n - 1:=by
 unfold Builtin.Str.strSliceIndices sliceRange;simp only[show (1:Int)>0 by decide,if_true,Z4,XJ]<;>(split<;>(try split)<;>(try split)<;>(try simp only[Int.ediv_one])<;>omega)
theorem Of(x:Str):(Txt.slice x (some 1) none).length<=x.length - 1:=by
 have h:=t8 x.length;unfold Txt.slice
 split
 .rename_i c
  simp only[Y8,beq_iff_eq]at c;omega
 .show (List.filterMap _ (Builtin.Str.strSliceIndices (some 1) none 1 x.length)).toArray.size<=_;rw[Vy];exact U0 (List.length_filterMap_le _ _) h
theorem Zxw{a:T}{l:ZZ}:(O7 (.tup (a::l)) (.int 0)).map Sl.f=some (.f a):=by
 show (Jd _ _).map _=_;unfold Jd Qr;rw[if_pos (by omega),if_pos (by rw[Gs];omega)]
 rfl
theorem ix_snd{a b:T}{l:ZZ}:(O7 (.tup (a::b::l)) (.int 1)).map Sl.f=some (.f b):=by
 show (Jd _ _).map _=_;unfold Jd Qr;rw[if_pos (by omega),if_pos (by rw[Gs,Gs];omega)]
 rfl
theorem ixE{ts:ZZ}{r:Int}{x:T}(e:Jd ts r=some x):(O7 (.lst ts) (.int r)).map Sl.f=some (.f x):=by show (Jd ts r).map _=_;rw[e];rfl
theorem ixTE{ts:ZZ}{r:Int}{x:T}(e:Jd ts r=some x):(O7 (.tup ts) (.int r)).map Sl.f=some (.f x):=by show (Jd ts r).map _=_;rw[e];rfl
theorem ixDE{XB:ZX}{k:Str}{x:T}(e:Vx XB (.inr k)=some x):(O7 (.dct XB) (.str k)).map Sl.f=some (.f x):=by show (Vx XB (.inr k)).map _=_;rw[e];rfl
theorem popP{ts:ZZ}{i:Int}{Q:T×T->Prop}(h0:0<=i)(h1:i<ts.length)(q:∀x,ts[i.toNat]?=some x->x∈ts->Q (.lst (ts.eraseIdx i.toNat),x)):on (mtT .popAt (.lst ts) [.int i]) Q:=by
 have hj:i.toNat<ts.length:=by omega
 refine Zm (a:=(.lst (ts.eraseIdx i.toNat),ts[i.toNat])) ?_ (q _ (V0 hj) (wu hj));show (Qr ts.length i).bind _=_;unfold Qr;rw[if_pos h0,if_pos h1];show (ts[i.toNat]?).map _=_;rw[V0 hj]
 rfl
theorem notinP{a:Int}{zs:ZL}{Q:Sl->Prop}(q:Q (.f (.bl (!(zs.any fun z=>decide (z=a)))))):on ((T7 .notin (.int a) (.lst (zs.map .int))).map fun r=>Sl.f (.bl r)) Q:=Zm (by show ((E4 _ _).map not).map _=_;rw[Zxb];rfl) q
theorem Zz2{a:Int}{zs:ZL}{Q:Sl->Prop}(q:Q (.f (.bl (!(zs.any fun z=>decide (z=a)))))):on ((T7 .notin (.int a) (.tup (zs.map .int))).map fun r=>Sl.f (.bl r)) Q:=Zm (by show ((E4 _ _).map not).map _=_;rw[cv];rfl) q
theorem insP{a:Str}{zs:ZD}{Q:Sl->Prop}(q:Q (.f (.bl (zs.any fun z=>decide (z=a))))):on ((T7 .isin (.str a) (.lst (zs.map .str))).map fun r=>Sl.f (.bl r)) Q:=Zm (by show (E4 (.str a) (.lst (zs.map .str))).map _=_;rw[cg];rfl) q
theorem any_ne{zs:ZL}{a:Int}(h:(!(zs.any fun z=>decide (z=a)))=true):∀z∈zs,z≠a:=fun z m e=>by
 have:(zs.any fun z=>decide (z=a))=true:=XZ.mpr ⟨z,m,Mi e⟩;rw[this]at h;cases h
theorem ixHd{a:T}{l:ZZ}{Q:Sl->Prop}(q:Q (.f a)):on ((O7 (.tup (a::l)) (.int 0)).map Sl.f) Q:=Zm Zxw q
theorem ixSn{a b:T}{l:ZZ}{Q:Sl->Prop}(q:Q (.f b)):on ((O7 (.tup (a::b::l)) (.int 1)).map Sl.f) Q:=Zm ix_snd q
theorem O8{ts:ZZ}{r:Int}{x:T}{Q:Sl->Prop}(e:Jd ts r=some x)(q:Q (.f x)):on ((O7 (.lst ts) (.int r)).map Sl.f) Q:=Zm (ixE e) q
theorem ixUP{ts:ZZ}{r:Int}{x:T}{Q:Sl->Prop}(e:Jd ts r=some x)(q:Q (.f x)):on ((O7 (.tup ts) (.int r)).map Sl.f) Q:=Zm (ixTE e) q
theorem t9{XB:ZX}{k:Str}{x:T}{Q:Sl->Prop}(e:Vx XB (.inr k)=some x)(q:Q (.f x)):on ((O7 (.dct XB) (.str k)).map Sl.f) Q:=Zm (ixDE e) q
theorem Mg{d:Df}{w:W}{as:List Sl}{Q:Sl×ZZ->Prop}(ha:as.length=d.ar)(h:∀D:En,(∀r p,on (fin as r p) Q->D.rt r p)->(∀p,on (fin as (.f .non) p) Q->D.nx p)->wS w (Vh as) d.code (as++List.replicate (d.n - d.ar) .no) D):wF d w as Q:=by
 unfold wF;rw[if_pos ha];exact h _ (fun _ _ z=>z) fun _ z=>z
theorem srtP{ts us:ZZ}{Q:Sl->Prop}(e:xk ts=some us)(q:Q (.o (.lst us))):on ((xk ts).map fun us=>Sl.o (.lst us)) Q:=Zm (by rw[e];rfl) q
theorem A7{ts us:ZZ}{Q:Sl->Prop}(e:M8 ts=some us)(q:Q (.o (.lst us))):on ((M8 ts).map fun us=>Sl.o (.lst us)) Q:=Zm (by rw[e];rfl) q
theorem rngP{m:Int}{Q:ZZ->Prop}(h0:-1000000<=m)(h1:m<=1000000)(q:Q ((List.range m.toNat).map fun k=>T.int (k:Nat))):on (ip (.int m)) Q:=by
 refine Zm (a:=(List.range m.toNat).map fun k=>T.int (k:Nat)) ?_ q;show (if -1000000<=m/\m<=1000000 then some ((List.range m.toNat).map fun k=>T.int (k:Nat)) else none)=_;rw[if_pos ⟨h0,h1⟩]
theorem Ze{C:Cs}{f:Str}{as:List Sl}{Q Q':Sl×ZZ->Prop}(h:on (C f as) Q)(q:∀x,Q x->Q' x):on (C f as) Q':=Zze h q
theorem boolP'{b:Bool}{K:Bool->Prop}(h:b=true->K true)(h':b=false->K false):K b:=by
 cases b with
 | true=>exact h rfl
 | false=>exact h' rfl
theorem ifS{c:Prop}[Decidable c]{Z:Type}{a:Z}{o:Option Z}{Q:Z->Prop}(h:c)(q:Q a):on (if c then some a else o) Q:=by rw[if_pos h];exact q
theorem Zjs{a b:ZZ}{Q:Sl->Prop}(h:a.length+b.length<=sizeLine)(q:Q (.o (.lst (a++b)))):on (opT .add (.lst a) (.lst b)) Q:=ifS h q
theorem sy{a b:ZZ}{Q:Sl->Prop}(h:a.length+b.length<=sizeLine)(q:Q (.f (.tup (a++b)))):on (opT .add (.tup a) (.tup b)) Q:=ifS h q
theorem whS{w:W}{pt:Nat->Bool}{c:E}{b r:S}{p:P}{D:En}(h:wWh (fun s K=>wE w c s fun r q=>wx r fun b=>K b q) (fun s D=>wS w pt b s D) 1000000 p ⟨fun q=>wS w pt r q D,D.rt,D.bk,D.ct⟩):wS w pt (.seq (.wh c b) r) p D:=h
theorem gh{p:P}{i:Nat}{t:T}(h:p[i]?=some (.o t)\/p[i]?=some (.f t)):read p i=some (t,p.set i (.f t)):=by
 rcases h with h | h
 .unfold read;rw[h]
 .have e:p.set i (.f t)=p:=by
   refine List.ext_getElem? fun j=>?_;by_cases z:i=j
   .subst z;rw[List.getElem?_set_self (Bz.mp h).1,h]
   .rw[List.getElem?_set_ne z]
  unfold read;rw[h,e]
def OF(s:Sl)(t:T):Prop:=s=.o t\/s=.f t
theorem Ia{p:P}{i:Nat}{s:Sl}{t:T}{Q:T×P->Prop}(h:OF s t)(e:p[i]?=some s)(q:Q (t,p.set i (.f t))):on (read p i) Q:=by
 refine Zm (gh ?_) q;rcases h with rfl | rfl
 .exact .inl e
 .exact .inr e
theorem Y9{body:T->P->(Option T->P->Prop)->Prop}{xs:ZZ}{p:P}{Q:ZZ->P->Prop}(g:T->T)(St:P->Prop)(h0:St p)(st:∀x∈xs,∀p K,St p->(∀p',St p'->K (some (g x)) p')->body x p K)(q:∀p,St p->Q (xs.map g) p):D5 body xs [] p Q:=by
 refine Cu (fun r acc p=>St p/\(∀x∈r,x∈xs)/\acc++r.map g=xs.map g) ⟨h0,fun _ m=>m,rfl⟩ (fun x r acc p K hi ky _=>?_) fun acc p hi=>?_
 .obtain⟨h1,h2,h3⟩:=hi;exact st x (h2 x Vt) p K h1 fun p' h'=>ky _ p' ⟨h',fun y m=>h2 y (Vf _ m),by rw[XX];exact h3⟩
 .obtain⟨h1,_,h3⟩:=hi;rw[List.map_nil,XQ]at h3;rw[h3];exact q p h1
theorem wCompF{body:T->P->(Option T->P->Prop)->Prop}{xs:ZZ}{p:P}{Q:ZZ->P->Prop}(g:T->Option T)(St:P->Prop)(h0:St p)(st:∀x∈xs,∀p K,St p->(∀p',St p'->K (g x) p')->body x p K)(q:∀p,St p->Q (xs.filterMap g) p):D5 body xs [] p Q:=by
 refine Cu (fun r acc p=>St p/\(∀x∈r,x∈xs)/\acc++r.filterMap g=xs.filterMap g) ⟨h0,fun _ m=>m,rfl⟩ (fun x r acc p K hi ky kn=>?_) fun acc p hi=>?_
 .obtain⟨h1,h2,h3⟩:=hi;refine st x (h2 x Vt) p K h1 fun p' h'=>?_;cases e:g x with
  | some y=>exact ky y p' ⟨h',fun y m=>h2 y (Vf _ m),by rw[XX];rw[List.filterMap_cons_some e]at h3;exact h3⟩
  | none=>exact kn p' ⟨h',fun y m=>h2 y (Vf _ m),by rw[List.filterMap_cons_none e]at h3;exact h3⟩
 .obtain⟨h1,_,h3⟩:=hi;rw[List.filterMap_nil,XQ]at h3;rw[h3];exact q p h1
theorem Eo(f:T->Bool):∀xs:ZZ,allB (xs.map fun x=>.bl (f x))=some (xs.map f)
 | []=>rfl
 | x::xs=>by show (allB (xs.map fun x=>.bl (f x))).map (f x::·)=_;rw[Eo f xs];rfl
theorem Ea{f:T->Bool}{xs:ZZ}{Q:Sl->Prop}(q:Q (.f (.bl (xs.all f)))):on ((allB (xs.map fun x=>.bl (f x))).map fun bs=>Sl.f (.bl (bs.all id))) Q:=Zm (by rw[Eo];show some (Sl.f (.bl ((xs.map f).all id)))=_;rw[List.all_map];rfl) q
def okK:Key->Prop
 | .inl i=>i.natAbs<=10 ^ 19
 | .inr x=>∀c∈x.cps.toList,c<16 ^ 8
def wtK:Key->Nat
 | .inl _=>70
 | .inr x=>x.length
mutual
noncomputable def U5(n:Nat):T->Prop
 | .int i=>i.natAbs<=10 ^ 19
 | .str x=>∀c∈x.cps.toList,c<16 ^ 8
 | .tup ts=>ts.length<=n/\Nv n ts
 | .lst ts=>ts.length<=n/\Nv n ts
 | .dct XB=>O1 n XB
 | .fn _=>False
 | .non=>True
 | .bl _=>True
noncomputable def Nv(n:Nat):ZZ->Prop
 | []=>True
 | t::r=>U5 n t/\Nv n r
noncomputable def O1(n:Nat):ZX->Prop
 | []=>True
 | (k,t)::r=>okK k/\U5 n t/\O1 n r
end
mutual
noncomputable def Mu:T->Nat
 | .int _=>70
 | .str x=>x.length
 | .tup ts=>Yw ts
 | .lst ts=>Yw ts
 | .dct XB=>uf XB
 | .fn _=>0
 | .non=>0
 | .bl _=>0
noncomputable def Yw:ZZ->Nat
 | []=>0
 | t::r=>Mu t+1+Yw r
noncomputable def uf:ZX->Nat
 | []=>0
 | (k,t)::r=>wtK k+Mu t+2+uf r
end
mutual
noncomputable def zx:T->Nat
 | .tup ts=>Va ts+1
 | .lst ts=>Va ts+1
 | .dct XB=>Zqw XB+1
 | _=>0
noncomputable def Va:ZZ->Nat
 | []=>0
 | t::r=>max (zx t) (Va r)
noncomputable def Zqw:ZX->Nat
 | []=>0
 | (_,t)::r=>max (zx t) (Zqw r)
end
theorem Cv{i:Int}(h:i.natAbs<=10 ^ 19):(if i == 0 then 0 else i.natAbs.log2+1)<=70/\i.natAbs.log2<1920:=by
 have:i.natAbs.log2<64:=by
  by_cases z:i.natAbs=0
  .rw[z];decide
  .exact(Nat.log2_lt z).mpr (N0o h (by decide))
 exact⟨by split<;>omega,by omega⟩
theorem lenS(s:String):(Str.ofString s).length=s.toList.length:=by
 rw[Str.ofString_eq_toList];simp[Str.length]
theorem L5{i:Int}(h:i.natAbs<=10 ^ 19):(PyData.shown (.int i)).length<=30:=by
 show (Str.ofString (toString i)).length<=30;have hb:i.natAbs<10 ^ 20:=N0o h (by decide);rw[lenS];have hd:(Nat.toDigits 10 i.natAbs).length<=20:=(Nat.length_toDigits_le_iff (by decide) (by decide)).mpr hb;cases i with
 | ofNat n =>
  show (Nat.repr n).toList.length<=30;rw[Nat.toList_repr];exact U0 hd (by decide)
 | negSucc n =>
  show ("-" ++ Nat.repr (n+1)).toList.length<=30;rw[String.toList_append,Gg,Nat.toList_repr];have hd:(Nat.toDigits 10 (n+1)).length<=20:=hd;show 1+_<=30;omega
structure Shn(n:Nat)(t:T)(x:PyData):Prop where
 e:toPy t=some x
 s:x.showable=true
 l:x.leavesShort 30=true
 w:x.weight<=Mu t
 d:x.depth=zx t
theorem Zxx{k:Key}(h:okK k):(I8 k).showable=true/\(I8 k).leavesShort 30=true/\(I8 k).weight<=wtK k/\(I8 k).depth=0:=by
 cases k with
 | inl i=>exact⟨Mi (Cv h).2,Mi (L5 h),(Cv h).1,rfl⟩
 | inr x=>exact⟨rfl,Pt.mpr fun c m=>Mi (h c m),Z5 _,rfl⟩
mutual
theorem Qb(n:Nat):∀t:T,U5 n t->∃x,Shn n t x
 | .int i,h=>⟨.int i,rfl,Mi (Cv h).2,Mi (L5 h),(Cv h).1,rfl⟩
 | .str x,h=>⟨.str x,rfl,rfl,Pt.mpr fun c m=>Mi (h c m),Z5 _,rfl⟩
 | .non,_=>⟨.none,rfl,rfl,rfl,Z5 _,rfl⟩
 | .bl b,_=>⟨.bool b,rfl,rfl,rfl,Z5 _,rfl⟩
 | .fn _,h=>h.elim
 | .tup ts,h=>by
  obtain⟨xs,a,b,c,d,e⟩:=Rj n ts h.2;exact⟨.tuple xs,by show (Ud ts).map _=_;rw[a];rfl,b,c,d,by show PyData.depthAll xs+1=_;rw[e];rfl⟩
 | .lst ts,h=>by
  obtain⟨xs,a,b,c,d,e⟩:=Rj n ts h.2;exact⟨.list xs,by show (Ud ts).map _=_;rw[a];rfl,b,c,d,by show PyData.depthAll xs+1=_;rw[e];rfl⟩
 | .dct XB,h=>by
  obtain⟨xs,a,b,c,d,e⟩:=O0 n XB h;exact⟨.dict xs,by show (D6 XB).map _=_;rw[a];rfl,b,c,d,by show PyData.depthKv xs+1=_;rw[e];rfl⟩
theorem Rj(n:Nat):∀ts:ZZ,Nv n ts->∃xs,Ud ts=some xs/\PyData.showableAll xs=true/\PyData.leavesShortAll 30 xs=true/\PyData.weightAll xs<=Yw ts/\PyData.depthAll xs=Va ts
 | [],_=>⟨[],rfl,rfl,rfl,Z5 _,rfl⟩
 | t::ts,h=>by
  obtain⟨x,a1,b1,c1,d1,e1⟩:=Qb n t h.1;obtain⟨xs,a,b,c,d,e⟩:=Rj n ts h.2;refine⟨x::xs,by show (toPy t).bind _=_;rw[a1];show (Ud ts).map _=_;rw[a];rfl,by show (x.showable && _)=true;rw[b1,b];rfl,by show (x.leavesShort 30 && _)=true;rw[c1,c];rfl, ?_, ?_⟩
  .show x.weight+1+PyData.weightAll xs<=Mu t+1+Yw ts;omega
  .show max x.depth (PyData.depthAll xs)=max (zx t) (Va ts);rw[e1,e]
theorem O0(n:Nat):∀ts:ZX,O1 n ts->∃xs,D6 ts=some xs/\PyData.showableKv xs=true/\PyData.leavesShortKv 30 xs=true/\PyData.weightKv xs<=uf ts/\PyData.depthKv xs=Zqw ts
 | [],_=>⟨[],rfl,rfl,rfl,Z5 _,rfl⟩
 | (k,t)::ts,h=>by
  obtain⟨x,a1,b1,c1,d1,e1⟩:=Qb n t h.2.1;obtain⟨xs,a,b,c,d,e⟩:=O0 n ts h.2.2;obtain⟨k1,k2,k3,k4⟩:=Zxx h.1;refine⟨(I8 k,x)::xs,by show (toPy t).bind _=_;rw[a1];show (D6 ts).map _=_;rw[a];rfl,by show ((I8 k).showable && x.showable && _)=true;rw[k1,b1,b];rfl,by show ((I8 k).leavesShort 30 && x.leavesShort 30 && _)=true;rw[k2,c1,c];rfl, ?_, ?_⟩
  .show (I8 k).weight+x.weight+2+PyData.weightKv xs<=wtK k+Mu t+2+uf ts;omega
  .show max (max (I8 k).depth x.depth) (PyData.depthKv xs)=max (zx t) (Zqw ts);rw[e1,e,k4,Nat.zero_max]
end
theorem rpT_ok{n:Nat}{t:T}(h:U5 n t)(hw:Mu t<=400000)(hd:zx t<=100):∃z,rpT t=some z:=by
 obtain⟨x,e,s,l,w,d⟩:=Qb n t h;have:=PyData.shown_le 30 (by decide) x l;refine⟨x.shown, ?_⟩;unfold rpT;rw[e];show (if _ then _ else _)=_;rw[if_pos ⟨s,by rw[sizeLine_eq];omega,by rw[d];exact hd⟩]
theorem Zh{n:Nat}:∀{ts:ZZ},Nv n ts↔∀t∈ts,U5 n t
 | []=>⟨fun _ t m=>absurd m V4,fun _=>trivial⟩
 | t::ts=>⟨fun h u m=>by
   rcases Y3.mp m with rfl | m
   .exact h.1
   .exact Zh.mp h.2 u m,fun h=>⟨h t Vt,Zh.mpr fun u m=>h u (Vf _ m)⟩⟩
theorem Yv:∀a b:ZZ,Yw (a++b)=Yw a+Yw b
 | [],b=>(Nat.zero_add _).symm
 | t::a,b=>by show Mu t+1+Yw (a++b)=Mu t+1+Yw a+Yw b;rw[Yv a b];omega
theorem zp(n:Nat)(a:ZZ):Yw (a.take n)<=Yw a:=by
 have:=Yv (a.take n) (a.drop n);rw[List.take_append_drop]at this;omega
theorem zu(n:Nat)(a:ZZ):Yw (a.drop n)<=Yw a:=by
 have:=Yv (a.take n) (a.drop n);rw[List.take_append_drop]at this;omega
theorem Pe:∀a:ZZ,Yw a.reverse=Yw a
 | []=>rfl
 | t::a=>by rw[List.reverse_cons,Yv,Pe a];show _+(Mu t+1+0)=Mu t+1+Yw a;omega
theorem Cr(a:ZZ)(lo hi:ZR):Yw (Zn a lo hi)<=Yw a:=U0 (zp _ _) (zu _ _)
theorem Vw{a:ZZ}{lo hi:ZR}{t:T}(m:t∈Zn a lo hi):t∈a:=List.mem_of_mem_drop (List.mem_of_mem_take m)
theorem Mr{ts:ZZ}{lo hi:ZR}:(Zn ts lo hi).length<=ts.length:=by
 unfold Zn;rw[pz,List.length_drop];omega
theorem vb{t:T}:∀{ts:ZZ},t∈ts->Mu t+1<=Yw ts
 | u::ts,m=>by
  show _<=Mu u+1+Yw ts;rcases Y3.mp m with rfl | m
  .omega
  .have:=vb m;omega
mutual
theorem U5.mono{n m:Nat}(h:n<=m):∀t:T,U5 n t->U5 m t
 | .int _,g=>g
 | .str _,g=>g
 | .non,g=>g
 | .bl _,g=>g
 | .fn _,g=>g
 | .tup ts,g=>⟨U0 g.1 h,Nv.mono h ts g.2⟩
 | .lst ts,g=>⟨U0 g.1 h,Nv.mono h ts g.2⟩
 | .dct ts,g=>O1.mono h ts g
theorem Nv.mono{n m:Nat}(h:n<=m):∀t:ZZ,Nv n t->Nv m t
 | [],_=>trivial
 | t::ts,g=>⟨U5.mono h t g.1,Nv.mono h ts g.2⟩
theorem O1.mono{n m:Nat}(h:n<=m):∀t:ZX,O1 n t->O1 m t
 | [],_=>trivial
 | (k,t)::ts,g=>⟨g.1,U5.mono h t g.2.1,O1.mono h ts g.2.2⟩
end
end PV
namespace PV
open PySem PySem.Spec PyProof.Rows L2 SRT
noncomputable def Pn(a b:Str):Bool:=decide (a.cps.toList<b.cps.toList)
theorem Cw{a b:Str}:Pn a b=!Rg b a:=by unfold Pn Rg;simp
theorem K9{a b:Str}(h:Pn a b=true):Rg a b=true:=by
 rw[Cw]at h;exact Lu (by intro z;rw[z]at h;cases h)
theorem qu{a b c:Str}(h:Pn a b=true)(h':Pn b c=true):Pn a c=true:=by
 have l1:=K9 h;have l2:=K9 h';rw[Cw]at h' ⊢;cases e:Rg c a with
 | false=>rfl
 | true =>
  have:=Bh e l1;rw[this]at h';cases h'
theorem Xm{a:Str}:¬ Pn a a=true:=fun h=>by
 unfold Pn at h;exact absurd (Pa h) (List.lt_irrefl _)
noncomputable def Ym:ZD->Bool
 | a::b::r=>Pn a b && Ym (b::r)
 | _=>true
theorem Lb:∀{ss:ZD},Ym ss=true->ss.Pairwise fun a b=>Pn a b=true
 | [],_=>List.Pairwise.nil
 | [a],_=>List.pairwise_singleton _ _
 | a::b::r,h=>by
  unfold Ym at h;obtain⟨h1,h2⟩:=uk.mp h;have p:=Lb h2;refine ZE.mpr ⟨fun x m=>?_,p⟩;rcases Y3.mp m with rfl | m
  .exact h1
  .exact qu h1 ((ZE.mp p).1 x m)
theorem Bc:∀{ss:ZD},(ss.Pairwise fun a b=>Pn a b=true)->Ym ss=true
 | [],_=>rfl
 | [a],_=>rfl
 | a::b::r,h=>by
  obtain⟨h1,h2⟩:=ZE.mp h;unfold Ym;rw[h1 b Vt,Bc h2]
  rfl
theorem Ot{ss:ZD}:Ym ss=decide (ss=Yq (Jm ss)):=by
 cases e:Ym ss with
 | true =>
  have p:=Lb e;have nd:ss.Nodup:=p.imp fun h z=>by subst z;exact Xm h
  have pm:ss.Perm (Yq (Jm ss)):=(Rw nd fun x=>Iff.rfl).trans (Z3 _).symm;have q:ss=Yq (Jm ss):=List.Perm.eq_of_pairwise (le:=fun a b=>Rg a b=true) (fun a b _ _ h1 h2=>Ng h1 h2) (p.imp K9) (Gu _) pm;exact(Mi q).symm
 | false =>
  refine(Mp fun q=>?_).symm;have s:=Gu (Jm ss);have nd:(Yq (Jm ss)).Nodup:=(Z3 _).nodup_iff.mpr Rv;rw[<-q]at s nd
  have:ss.Pairwise fun a b=>Pn a b=true:=(s.and nd).imp fun {a b} h=>by
   rw[Cw];cases z:Rg b a with
   | false=>rfl
   | true=>exact absurd (Ng h.1 z) h.2
  rw[Bc this]at e;cases e
noncomputable def ltP:T->Bool
 | .tup [.str a,.str b]=>Pn a b
 | _=>false
theorem Ah:∀(a:Str) (ss:ZD),((((a::ss).map T.str).zip (ss.map .str)).map fun p=>T.tup [p.1,p.2]).all ltP=Ym (a::ss)
 | a,[]=>rfl
 | a,b::r=>by
  show (Pn a b && ((((b::r).map T.str).zip (r.map .str)).map fun p=>T.tup [p.1,p.2]).all ltP)=(Pn a b && Ym (b::r));rw[Ah b r]
theorem Ap(ss:ZD):(Cd (ss.map .str) (Zn (ss.map .str) (some 1) none)).all ltP=Ym ss:=by
 cases ss with
 | nil=>rfl
 | cons a ss =>
  rw[G5 (by omega) (by rw[Z4,Gs];omega)];exact Ah a ss
theorem By:∀ss:ZD,Gd (ss.map .str)=some (ss.map .str)
 | []=>rfl
 | s::ss=>by show (some (D.str s)).bind _=_;show (Gd (ss.map .str)).map _=_;rw[By ss];rfl
theorem L9:∀a b:ZD,Ml (a.map .str) (b.map .str)=decide (a=b)
 | [],[]=>rfl
 | [],_::_=>rfl
 | _::_,[]=>rfl
 | x::a,y::b=>by
  show (Yp (.str x) (.str y) && Ml (a.map .str) (b.map .str))=_;rw[L9 a b];show ((x == y) && decide (a=b))=_;by_cases h:x=y
  .by_cases h':a=b
   .simp[h,h']
   .simp[h,h']
  .simp[h]
theorem Fz:∀a:ZD,Na (a.map .str)=0
 | []=>rfl
 | x::a=>by show max 0 (Na (a.map .str))=0;rw[Fz a];rfl
theorem X7(a b:ZD):eqT (.lst (a.map .str)) (.lst (b.map .str))=some (decide (a=b)):=by
 show (((Gd (a.map .str)).map D.lst).bind fun x=>((Gd (b.map .str)).map D.lst).bind fun y=>if Jw x<=100 then some (Yp x y) else none)=_;rw[By,By];show (if Na (a.map .str)+1<=100 then some (Ml (a.map .str) (b.map .str)) else none)=_;rw[Fz,if_pos (by decide),L9]
theorem eqsP{a b:ZD}{Q:Sl->Prop}(q:Q (.f (.bl (decide (a=b))))):on ((T7 .eq (.lst (a.map .str)) (.lst (b.map .str))).map fun r=>Sl.f (.bl r)) Q:=Zm (by show (eqT (.lst (a.map .str)) (.lst (b.map .str))).map _=_;rw[X7];rfl) q
theorem nesP{a b:ZD}{Q:Sl->Prop}(q:Q (.f (.bl (!decide (a=b))))):on ((T7 .ne (.lst (a.map .str)) (.lst (b.map .str))).map fun r=>Sl.f (.bl r)) Q:=Zm (by show ((eqT (.lst (a.map .str)) (.lst (b.map .str))).map not).map _=_;rw[X7];rfl) q
theorem Bf:∀{ts:ZZ} {ss:ZD},Z7 ts=some ss->ts=ss.map .str
 | [],ss,h=>by cases h;rfl
 | .str x::r,ss,h=>by
  obtain⟨r',e,rfl⟩:=Yj.mp (show (Z7 r).map _=some ss from h);rw[Bf e];rfl
 | .non::_,_,h=>by cases h
 | .bl _::_,_,h=>by cases h
 | .int _::_,_,h=>by cases h
 | .tup _::_,_,h=>by cases h
 | .lst _::_,_,h=>by cases h
 | .dct _::_,_,h=>by cases h
 | .fn _::_,_,h=>by cases h
theorem le_int{a b:Int}:(!decide (b<a))=decide (a<=b):=by
 by_cases h:a<=b
 .rw[Mi h,Mp (by omega)];rfl
 .rw[Mp h,Mi (by omega)];rfl
theorem rk(a b:Int):T7 .le (.int a) (.int b)=some (decide (a<=b)):=by
 show some (!decide (b<a))=_;rw[le_int]
theorem c2P{a b c:Int}{Q:Sl->Prop}(q:Q (.f (.bl (decide (a<=b) && decide (b<=c))))):on (K3 (.c2 .le .le) [.int a,.int b,.int c]) Q:=by
 refine Zm ?_ q;show ((T7 .le (.int a) (.int b)).bind fun r=>if r=true then (T7 .le (.int b) (.int c)).map fun r=>Sl.f (.bl r) else some (Sl.f (.bl false)))=_;rw[rk,rk];show (if decide (a<=b)=true then some (Sl.f (.bl (decide (b<=c)))) else _)=_;by_cases h:a<=b
 .rw[Mi h];rfl
 .rw[Mp h];rfl
theorem lenP{x:Str}{Q:Sl->Prop}(h:x.length<=sizeLine)(q:Q (.f (.int x.length))):on (K3 .len [.str x]) Q:=by
 have e:Zz7 (.str x)=some x.length:=if_pos h;refine Zm ?_ q;show ((Zz7 (.str x)).bind fun a=>some (a:Int)).map (fun n=>Sl.f (.int n))=_;rw[e]
 rfl
theorem Zqu{x:Str}{Q:ZZ->Prop}(h:x.length<=sizeLine)(q:Q (x.cps.toList.map fun c=>.str ⟨#[c]⟩)):on (M0 (.str x)) Q:=Zm (by show (if x.length<=sizeLine then some _ else none)=_;rw[if_pos h]) q
theorem glP{gl:Str->Option T}{x:Str}{t:T}{Q:T->Prop}(e:gl x=some t)(q:Q t):on (gl x) Q:=Zm e q
theorem Mz{b:Bool}(h:(!b)=true):b=false:=by
 cases b with
 | true=>cases h
 | false=>rfl
theorem G1{b:Bool}(h:(!b)=false):b=true:=by
 cases b with
 | true=>rfl
 | false=>cases h
end PV
namespace PV
open PySem PySem.Spec PyProof.Rows L2
def Iz(K:W.Frag):Sp:=fun vs H Q _=>∃(a:Addr) (ns:ZL),vs=[.ref a]/\Vi K H a (ns.map V.int)/\ns.length<=63/\∀H',Q (.bl true) H'
noncomputable def notList:Value->Bool
 | .type n=>!decide (n = "list")
 | _=>true
noncomputable def K6(K:W.Frag):Bool:=K.all fun p=>notList p.2.cls
theorem lookup_mem{Z:Type}{a:Addr}{o:Z}:∀{K:List (Addr×Z)},K.lookup a=some o->∃b,(b,o)∈K
 | [],h=>by cases h
 | (b,o')::K,h=>by
  rw[List.lookup_cons]at h
  split at h
  .cases h;exact⟨b,Vt⟩
  .obtain⟨c,m⟩:=lookup_mem h;exact⟨c,Vf _ m⟩
theorem rd_of{K:W.Frag}{H:Hp}{a:Addr}{vs:ZQ}(hK:K6 K=true)(h:Vi K H a vs):Rd H a (.lst vs):=by
 rcases h with h | ⟨o,XM,n,lk,hc,_⟩
 .exact h
 .obtain⟨b,m⟩:=lookup_mem lk;have:=Pt.mp hK _ m;rw[show ((b,o):Addr×Obj).2.cls=.type "list" from hc]at this;cases this
theorem Ff{K:W.Frag}{mg:ZV}{H F:Hp}:∀zs:ZL,Zq K mg H F (zs.map .int) (zs.map .int)
 | []=>rfl
 | z::zs=>⟨_,_,rfl,rfl,Ff zs⟩
theorem Zz9{K:W.Frag}{mg:ZV}{c:List Sl->Option (Sl×ZZ)}(hK:K6 K=true)(hc:∀zs:ZL,zs.length<=63->c [.f (.lst (zs.map .int))]=some (.f (.bl true),[])):∀vs H Q E,Iz K vs H Q E->spC K mg 1 c vs H Q E:=by
 intro vs H Q E h;obtain⟨a,ns,rfl,hS,hl,hq⟩:=h;have rd:=rd_of hK hS;have sl:=sizeLine_eq;refine⟨rfl,fun b=>if b=a then H a else none,fun _=>none,_,_,hc ns hl,⟨⟨fun b o e=>?_,fun _ _ z=>(nomatch z),fun _ _=>rfl⟩,fun i t e=>?_,fun i t e=>?_,fun i j t u b e _ _ _=>?_,rfl⟩,fun F' H' v l u r rs=>?_⟩
 .split at e
  .rename_i z;rw[z];exact e
  .cases e
 .match i,e with
  | 0,e =>
   cases e;refine⟨.ref a,rfl,a,ns.map .int,rfl, ?_,by rw[Z4];omega,Ff ns⟩;rcases rd with h | ⟨o,h⟩
   .exact .inl (by show (if a=a then H a else none)=_;rw[if_pos rfl];exact h)
   .exact .inr ⟨o,by show (if a=a then H a else none)=_;rw[if_pos rfl];exact h⟩
  | i+1,e=>simp at e
 .match i,e with
  | 0,e=>cases e
  | i+1,e=>simp at e
 .match i,e with
  | 0,e=>cases e
  | i+1,e=>simp at e
 .have:v=.bl true:=rs;rw[this];exact hq H'
theorem walkP'{l:W.OpenLaw}{q:Program}{loose:ZD}{XP:(ZV)->Heap->Prop}{YP:World->Heap->Prop}{d:DefRec}{K:Params->W.Frag}{k:Nat}(hn:l.most=some 63)(hdf:d.params.defaults=[])(hr:U4 k callerA)
  (hY:∀(w:World) (h:Heap),YP w h->(K w.params).In h)
  (F:∀(w:World) (mg:ZV) (fa:Addr) (h:Heap),(K w.params).In h->h.Ns mainGlobals mg->mg d.name=some (.ref fa) ->
   ∃fd:FuncData,(∀(s:Shared) (u:Value),BindsTo s fd ⟨[u],[]⟩ [("_law_script",u)])/\∀base:Heap,(K w.params).In base->base.Ns mainGlobals mg->Dj l.prog w (K w.params) mg base uy k fa fd ["_law_script"] (Iz (K w.params))) :
  W.WalkO q loose XP YP l.row.toRowW d [] (fun f vs=>PySem.call f vs) :=
 L2.um (n:=63) (k:=k) (x:="_law_script") (CX:=fun _=>uy) (sp:=fun w=>Iz (K w.params)) hn (by decide) hdf hr hY F (fun _ _ a ns hl _ hS=>⟨a,ns,rfl,hS,hl,fun _=>rfl⟩) fun _ _ _ _ _ z=>z
structure FA(K:W.Frag)(x:Str)(st:Stmt)(f:Addr)(fd:FuncData):Prop where
 a:W.nsIn K mainGlobals x=some (some (.ref f))
 F:Fun K x x st f fd
noncomputable def chk(N:ZD)(d:Df)(st:Stmt):Bool :=
 (match (Zk st).kind with | .function=>true | _=>false) && (!(Zk st).isCoroutine && (!(Zk st).isGenerator && (decide N.Nodup && (decide (N.take (N.take d.ar).length=N.take d.ar) && (((N.take d.ar).all fun x=>decide ((Zk st).names.lookup x=some .local) || decide ((Zk st).names.lookup x=some .cell)) && (((Zk st).names.all fun y=>!decide (y.2=.free)) && (decide (N.length=d.n) && (decide ((N.take d.ar).length=d.ar) && (decide ((N.take d.ar).length<=N.length) && Gc N (Zk st) d.code (Y2 st))))))))))
theorem rg{N:ZD}{d:Df}{st:Stmt}(h:chk N d st=true):Ds N (N.take d.ar) (Zk st)/\N.length=d.n/\(N.take d.ar).length=d.ar/\(N.take d.ar).length<=N.length/\Gc N (Zk st) d.code (Y2 st)=true:=by
 unfold chk at h;simp only[Y8,decide_eq_true_eq]at h;obtain⟨h1,h2,h3,h4,h5,h6,h7,h8,h9,h10,h11⟩:=h;refine⟨⟨?_,by simpa using h2,by simpa using h3,h4,h5,fun x m=>?_,fun y m=>?_⟩,h8,h9,h10,h11⟩
 .split at h1
  .assumption
  .cases h1
 .have:=Pt.mp h6 x m;simpa using this
 .have:=Pt.mp h7 y m;simpa using this
theorem FA.fc{K:W.Frag}{mg:ZV}{h:Heap}{x:Str}{st:Stmt}{f:Addr}{fd:FuncData}{d:Df}{N:ZD}(A:FA K x st f fd)(X:K.In h)(G:h.Ns mainGlobals mg)(hc:chk N d st=true)
  (hb:∀(kV doc pm:Value) (an:ZP) (cdv ct:Value) (us:ZM),us.length=(N.take d.ar).length->bindArgs (W.fnOf x x (J3 st) (Y2 st) (Zk st) .none kV doc pm an cdv ct) ⟨us,[]⟩=pure ((N.take d.ar).zip us)):B9 K mg x d :=
 let ⟨S,hn,ha,hl,hr⟩:=rg hc
 ⟨⟨st,f,fd,N,N.take d.ar,A.F,W.mg_of X G A.a,S,hn,ha,hl,hr,A.F.binds hb⟩⟩
def FC(x:Str)(st:Stmt)(d:Df):Prop:=∀{K:W.Frag} {mg:ZV} {h:Heap} {f:Addr} {fd:FuncData},K.In h->h.Ns mainGlobals mg->FA K x st f fd->B9 K mg x d
theorem tab_of{K:W.Frag}{mg:ZV}{L:List (Str×Df)}(h:∀p∈L,B9 K mg p.1 p.2)(f:Str)(d:Df)(e:((L.find? fun p=>decide (p.1=f)).map (·.2))=some d):B9 K mg f d:=by
 obtain⟨p,hp,rfl⟩:=Yj.mp e;have t:=List.find?_some hp;have this:p.1=f:=Pa t;have q:=h p (List.mem_of_find?_eq_some hp);rw[this]at q;exact q
theorem usS{n:Nat}{us:ZM}(h:us.length=n+1):∃a r,us=a::r/\r.length=n:=by
 cases us with
 | nil=>cases h
 | cons a r=>exact⟨a,r,rfl,Nat.succ.inj h⟩
theorem us0{us:ZM}(h:us.length=0):us=[]:=List.eq_nil_of_length_eq_zero h
theorem us1{us:ZM}(h:us.length=1):∃a,us=[a]:=by
 obtain⟨a,r,rfl,g⟩:=usS h;cases us0 g;exact⟨a,rfl⟩
theorem z0{us:ZM}(h:us.length=2):∃a b,us=[a,b]:=by
 obtain⟨a,r,rfl,g⟩:=usS h;obtain⟨b,rfl⟩:=us1 g;exact⟨a,b,rfl⟩
theorem us3{us:ZM}(h:us.length=3):∃a b c,us=[a,b,c]:=by
 obtain⟨a,r,rfl,g⟩:=usS h;obtain⟨b,c,rfl⟩:=z0 g;exact⟨a,b,c,rfl⟩
theorem us4{us:ZM}(h:us.length=4):∃a b c d,us=[a,b,c,d]:=by
 obtain⟨a,r,rfl,g⟩:=usS h;obtain⟨b,c,d,rfl⟩:=us3 g;exact⟨a,b,c,d,rfl⟩
theorem us5{us:ZM}(h:us.length=5):∃a b c d e,us=[a,b,c,d,e]:=by
 obtain⟨a,r,rfl,g⟩:=usS h;obtain⟨b,c,d,e,rfl⟩:=us4 g;exact⟨a,b,c,d,e,rfl⟩
end PV
namespace K77
open PySem PySem.Spec PyProof.Rows L2 PV
noncomputable def je:S:=(.seq (.ite (.or (.not (.pr (.isi .str) (Zi (.v 0)))) (.not (.pr (.c2 .le .le) (Mf (ki 1) (Wa (.v 0)) (.g "LONGEST_NAME")))))
    (Ub (.ret (.k (.bl false))))
    .nil)
   (.seq (.ret (.pr .all (Zi (.comp (.v 0) (.v 0) .nil (.pr (.cm .isin) (Zy (.v 0) (.g "LETTERS"))) [none] ["sign"]))))
   .nil))
def Dr:Df:=⟨1,1,je⟩
noncomputable def Zqf:S:=(Ub (.ret (.pr .all (Zi (.comp (.tup (Zy (.v 0) (.v 1))) (.itr .zip (Zy (.v 0) (.pr (.sl true false) (Zy (.v 0) (ki 1))))) .nil (.pr (.cm .lt) (Zy (.v 0) (.v 1))) [none,none] ["one","other"])))))
def Dt:Df:=⟨1,1,Zqf⟩
noncomputable def Pj:S:=(Ub (.ret (.and (.pr .all (Zi (.comp (.v 0) (.v 0) .nil (.cal 1 (Zi (.v 0))) [none,some 1] ["thing","is_label"]))) (.call "rises" (Zi (.v 0))))))
def V3:Df:=⟨2,2,Pj⟩
def Hi:S:=(Ub (.ret (.call "is_fleet_of" (Zy (.pr .list (Zi (.v 0))) (.v 1)))))
def Gw:Df:=⟨2,2,Hi⟩
noncomputable def W2:S:=(.seq (.ite (.or (.not (.pr (.isi .tuple) (Zi (.v 1)))) (.pr (.cm .ne) (Zy (Wa (.v 1)) (ki 2))))
    (Ub (.ret (.k (.bl false))))
    .nil)
   (.seq (.set 2 (Zl (.v 1) (ki 0)))
   (.seq (.set 3 (Zl (.v 1) (ki 1)))
   (.seq (.ite (.or (.not (.pr (.isi .tuple) (Zi (.v 2)))) (.or (.not (.pr (.isi .tuple) (Zi (.v 3)))) (.not (.call "are_labels" (Zy (.v 2) (.g "is_name"))))))
    (Ub (.ret (.k (.bl false))))
    .nil)
   (.seq (.ite (.or (.not (.pr .all (Zi (.comp (.v 0) (.v 2) .nil (.pr (.cm .isin) (Zy (.v 0) (.v 1))) [none,some 0] ["name","names"])))) (.not (.pr .all (Zi (.comp (.v 0) (.v 3) .nil (.call "is_program" (Mf (.v 1) (.v 2) (.v 0))) [none,some 0,some 2] ["part","names","files"])))))
    (Ub (.ret (.k (.bl false))))
    .nil)
   (.seq (.ret (.call "are_labels" (Zy (.comp (.v 0) (.v 3) .nil (Zl (.v 0) (ki 0)) [none] ["program"]) (.g "is_name"))))
   .nil))))))
def Vd:Df:=⟨4,2,W2⟩
noncomputable def Pq:S:=(Ub (.ret (.and (.pr (.isi .tuple) (Zi (.v 2))) (.and (B4 (Wa (.v 2)) (ki 3)) (.and (.pr (.cm .isin) (Zy (Zl (.v 2) (ki 1)) (.v 0))) (.pr (.cm .isin) (Zy (Zl (.v 2) (ki 2)) (.v 1))))))))
def V2:Df:=⟨3,3,Pq⟩
noncomputable def W0:S:=(.seq (.ite (.pr (.cm .lt) (Zy (.v 1) (Wa (.v 0))))
    (Ub (.ret (Zl (.v 0) (.v 1))))
    .nil)
   (.seq (.ret (ki 0))
   .nil))
def Vm:Df:=⟨2,2,W0⟩
noncomputable def Ue:S:=(.seq (.set 2 (.lst .nil))
   (.seq (.set 3 (ki 0))
   (.seq (.ite (.pr (.cm .ge) (Zy (.v 0) (.pr (.op .pow) (Zy (ki 10) (ki 18)))))
    (Ub (.set 3 (.v 0)))
    .nil)
   (.seq (.set 4 (Gn (.pr (.op .mod) (Zy (.v 0) (ki 2147483629))) (ki 48271)))
   (.seq (.loop (.v 5) (.itr .rng (Zi (.v 1)))
    (.seq (.set 4 (.pr (.op .mod) (Zy (Gn (Gn (.pr (.op .mul) (Zy (.v 4) (.v 4))) (.pr (.op .mul) (Zy (ki 48271) (.v 4)))) (.pr (.op .mul) (Zy (ki 7) (.v 5)))) (ki 2147483647))))
   (.seq (.ite (.pr (.cm .gt) (Zy (.v 3) (ki 0)))
    (.seq (.ex (.mt .append 2 (Zi (.pr (.op .mod) (Zy (.v 3) (ki 720720))))))
   (.seq (.set 3 (.pr (.op .fdiv) (Zy (.v 3) (ki 720720))))
   .nil))
    (Ub (.ex (.mt .append 2 (Zi (.pr (.op .fdiv) (Zy (.pr (.op .mod) (Zy (Gn (.pr (.op .mul) (Zy (.v 4) (ki 69621))) (.pr (.op .mul) (Zy (ki 13) (.v 5)))) (ki 2147483629))) (ki 3))))))))
   .nil)))
   (.seq (.ret (.mv 2))
   .nil))))))
def Ua:Df:=⟨6,2,Ue⟩
noncomputable def Hu:S:=(.seq (.put 0 (ki 1) (Gn (Zl (.v 0) (ki 1)) (ki 1)))
   (.seq (.ret (.pr (.op .mod) (Zy (Zl (Zl (.v 0) (ki 0)) (.pr (.op .mod) (Zy (.pr (.op .sub) (Zy (Zl (.v 0) (ki 1)) (ki 1))) (Wa (Zl (.v 0) (ki 0)))))) (.v 1))))
   .nil))
def J4:Df:=⟨2,2,Hu⟩
noncomputable def Ef:S:=(.seq (.set 2 (.call "_law_take" (Zy (.io 0) (ki 10))))
   (.seq (.set 3 (Zl (.v 1) (.call "_law_take" (Zy (.io 0) (Wa (.v 1))))))
   (.seq (.set 4 (.call "_law_take" (Zy (.io 0) (ki 4))))
   (.seq (.ite (.pr (.cm .lt) (Zy (.v 2) (ki 2)))
    (.seq (.set 5 (Zl (.lst (.cons (.pr .neg (Zi (ki 5))) (.cons (ki 0) (.cons (ki 0) (.cons (ki 3) (.cons (.pr .neg (Zi (.pr (.op .pow) (Zy (ki 10) (ki 18))))) .nil)))))) (.call "_law_take" (Zy (.io 0) (ki 5)))))
   (.seq (.ret (.tup (Mf (ks "whole") (.v 5) (Gn (.v 5) (Zl (.lst (ro4 (ki 0) (ki 1) (ki 6) (ki 300))) (.v 4))))))
   .nil))
    .nil)
   (.seq (.ite (.pr (.cm .lt) (Zy (.v 2) (ki 4)))
    (Ub (.ret (Zl (.lst (Zy (.tup (Zi (ks "truth"))) (.tup (Zy (ks "text") (Zl (.lst (ro4 (ki 0) (ki 1) (ki 2) (ki 5))) (.v 4)))))) (.pr (.op .sub) (Zy (.v 2) (ki 2))))))
    .nil)
   (.seq (.ite (.pr (.cm .lt) (Zy (.v 2) (ki 6)))
    (Ub (.ret (.tup (Mf (Zl (.lst (Zy (ks "row") (ks "map"))) (.pr (.op .sub) (Zy (.v 2) (ki 4)))) (.v 3) (.v 4)))))
    .nil)
   (.seq (.ite (.pr (.cm .lt) (Zy (.v 2) (ki 8)))
    (Ub (.ret (.tup (Mf (ks "record") (.tup .nil) (.tup .nil)))))
    .nil)
   (.seq (.ret (.tup (ro4 (ks "choice") (.tup .nil) (.tup .nil) (.pr (.cm .lt) (Zy (.v 4) (ki 2))))))
   .nil))))))))
def Us:Df:=⟨6,2,Ef⟩
def R1:S:=(Ub (.ret (.pr (.cm .notin) (Zy (Zl (.v 0) (ki 0)) (.tup (Zy (ks "record") (ks "choice")))))))
def Vq:Df:=⟨1,1,R1⟩
noncomputable def We:S:=(.seq (.set 2 (.call "_law_take" (Zy (.io 0) (ki 4))))
   (.seq (.ite (.or (.pr (.cm .lt) (Zy (.v 2) (ki 2))) (.not (.call "_law_is_plain" (Zi (.v 1)))))
    (Ub (.ret (.tup .nil)))
    .nil)
   (.seq (.ite (B4 (Zl (.v 1) (ki 0)) (ks "whole"))
    (Ub (.ret (.tup (Zi (Zl (.v 1) (.pr (.op .sub) (Zy (.v 2) (ki 1))))))))
    .nil)
   (.seq (.ite (B4 (Zl (.v 1) (ki 0)) (ks "truth"))
    (Ub (.ret (.tup (Zi (B4 (.v 2) (ki 2))))))
    .nil)
   (.seq (.ret (.ite (B4 (Zl (.v 1) (ki 0)) (ks "text")) (.tup (Zi (.pr (.op .mul) (Zy (ks "b") (.pr .min (Zy (Zl (.v 1) (ki 1)) (.pr (.op .sub) (Zy (.v 2) (ki 2))))))))) (.tup (Zi (.tup .nil)))))
   .nil)))))
def Vb:Df:=⟨3,2,We⟩
noncomputable def Ha:S:=(.seq (.set 5 (Zl (.pr .sorted (Zi (.v 1))) (.call "_law_take" (Zy (.io 0) (Wa (.v 1))))))
   (.seq (.ite (.not (.v 4))
    (Ub (.ret (.lst (Zi (.tup (Mf (.v 2) (.v 3) (.v 5)))))))
    .nil)
   (.seq (.ret (.pr (.op .mul) (Zy (.lst (Zi (.tup (ro4 (.v 2) (.v 3) (.v 5) (.call "_law_default" (Zy (.io 0) (Zl (.v 1) (.v 5)))))))) (.pr .int (Zi (.or (B4 (.v 2) (ki 1)) (.call "_law_is_plain" (Zi (Zl (.v 1) (.v 5))))))))))
   .nil)))
def Gz:Df:=⟨6,5,Ha⟩
noncomputable def Ui:S:=(.seq (.set 3 (.lst .nil))
   (.seq (.loop (.v 4) (.itr .rng (Zi (ki 7)))
    (Ub (.ite (.and (B4 (.call "_law_take" (Zy (.io 0) (ki 2))) (ki 0)) (.pr (.cm .lt) (Zy (Wa (.v 3)) (ki 4))))
    (Ub (.set 3 (Gn (.v 3) (.call "_law_part" (.cons (.io 0) (.cons (.io 1) (.cons (Zl (.lst (.cons (ki 1) (.cons (ki 2) (.cons (ki 9) (.cons (ki 10) (.cons (ki 99) (.cons (ki 100) (.cons (ki 999) .nil)))))))) (.v 4)) (.cons (.pr (.op .mul) (Zy (Zl (ks "fgh") (.pr (.op .mod) (Zy (.v 4) (ki 3)))) (Gn (ki 1) (.v 4)))) (.cons (.v 2) .nil)))))))))
    .nil)))
   (.seq (.ret (.pr .tuple (Zi (.v 3))))
   .nil)))
def Uh:Df:=⟨5,3,Ui⟩
noncomputable def Y5:S:=(.seq (.set 1 (.lst (.cons (ks "a") (.cons (ks "bb") (.cons (ks "form") (.cons (ks "c") (.cons (ks "must") (.cons (ks "text") (.cons (ks "ab") (.cons (ks "none") .nil))))))))))
   (.seq (.set 2 (.call "_law_take" (Zy (.io 0) (ki 8))))
   (.seq (.set 3 (.pr (.sl false true) (Zy (Gn (.pr (.sl true false) (Zy (.v 1) (.v 2))) (.pr (.sl false true) (Zy (.v 1) (.v 2)))) (Gn (ki 2) (.call "_law_take" (Zy (.io 0) (ki 5)))))))
   (.seq (.set 4 (.pr .dnew .nil))
   (.seq (.loop (.v 5) (.v 3)
    (Ub (.put 4 (.v 5) (.call "_law_shape" (Zy (.io 0) (.v 3))))))
   (.seq (.ite (.and (.pr (.cm .gt) (Zy (.call "_law_take" (Zy (.io 0) (ki 4))) (ki 0))) (.call "_law_is_plain" (Zi (Zl (.v 4) (Zl (.v 3) (ki 0))))))
    (Ub (.put 4 (Zl (.v 3) (ki 0)) (.tup (Mf (ks "record") (.tup .nil) (.tup .nil)))))
    .nil)
   (.seq (.loop (.v 5) (.v 3)
    (.seq (.set 6 (Zl (.v 4) (.v 5)))
   (.seq (.set 7 (Zl (.lst (Zy (.tup .nil) (.tup (Zi (ki 500))))) (.call "_law_take" (Zy (.io 0) (ki 2)))))
   (.seq (.ite (B4 (Zl (.v 6) (ki 0)) (ks "record"))
    (Ub (.put 4 (.v 5) (.tup (Mf (ks "record") (.call "_law_parts" (Mf (.io 0) (.io 4) (.k (.bl true)))) (.v 7)))))
    .nil)
   (.seq (.ite (B4 (Zl (.v 6) (ki 0)) (ks "choice"))
    (Ub (.put 4 (.v 5) (.tup (ro4 (ks "choice") (.call "_law_parts" (Mf (.io 0) (.io 4) (.k (.bl false)))) (.v 7) (Zl (.v 6) (ki 3))))))
    .nil)
   .nil)))))
   (.seq (.ret (.tup (Zy (Zl (.v 3) (ki 0)) (.v 4))))
   .nil))))))))
def Gx:Df:=⟨8,1,Y5⟩
noncomputable def Ho:S:=(.seq (.ite (B4 (Zl (.v 0) (ki 0)) (ks "whole"))
    (Ub (.ret (.tup (Zi (Zl (.v 0) (ki 2))))))
    .nil)
   (.seq (.ite (.pr (.cm .isin) (Zy (Zl (.v 0) (ki 0)) (.tup (Zy (ks "truth") (ks "text")))))
    (Ub (.ret (.tup (Zi (Zl (.lst (Zy (.k (.bl true)) (ks ""))) (.pr .int (Zi (B4 (Zl (.v 0) (ki 0)) (ks "text")))))))))
    .nil)
   (.seq (.ret (.ite (.call "_law_is_plain" (Zi (.v 0))) (.tup (Zi (.tup .nil))) (.tup .nil)))
   .nil)))
def Gj:Df:=⟨1,1,Ho⟩
noncomputable def N5:S:=(.seq (.set 3 (Zl (.lst (Mf (.pr .neg (Zi (ki 1))) (ki 1) (ki 2))) (.call "_law_take" (Zy (.io 0) (ki 3)))))
   (.seq (.set 4 (.call "_law_take" (Zy (.io 0) (ki 4))))
   (.seq (.ite (B4 (Zl (.v 2) (ki 0)) (ks "whole"))
    (.seq (.set 5 (.pr .min (Zy (Zl (.v 2) (ki 2)) (.pr .max (Zy (.pr (.op .sub) (Zy (Zl (.v 2) (ki 1)) (.v 3))) (.pr .neg (Zi (.pr (.op .pow) (Zy (ki 10) (ki 18))))))))))
   (.seq (.set 6 (.lst (Mf (.tup (Mf (ks "whole") (.v 5) (Zl (.v 2) (ki 2)))) (.tup (Mf (ks "whole") (Zl (.v 2) (ki 1)) (.pr .max (Zy (Zl (.v 2) (ki 1)) (Gn (Zl (.v 2) (ki 2)) (.v 3)))))) (.tup (Zi (ks "truth"))))))
   (.seq (.ret (Zl (.v 6) (.pr (.op .mod) (Zy (.v 4) (ki 3)))))
   .nil)))
    .nil)
   (.seq (.ite (B4 (Zl (.v 2) (ki 0)) (ks "truth"))
    (Ub (.ret (Zl (.lst (ro4 (.tup (Mf (ks "whole") (ki 0) (ki 1))) (.tup (Mf (ks "whole") (.pr .min (Zy (.v 3) (ki 0))) (ki 1))) (.tup (Mf (ks "whole") (ki 0) (.pr .max (Zy (.v 3) (ki 0))))) (.tup (Mf (ks "whole") (ki 1) (ki 1))))) (.v 4))))
    .nil)
   (.seq (.ite (.call "_law_is_plain" (Zi (.v 2)))
    (Ub (.ret (Gn (.pr (.sl false true) (Zy (.v 2) (.pr .neg (Zi (ki 1))))) (.tup (Zi (.pr .max (Zy (ki 0) (Gn (Zl (.v 2) (.pr .neg (Zi (ki 1)))) (.v 3)))))))))
    .nil)
   (.seq (.set 7 (.pr .list (Zi (Zl (.v 2) (ki 1)))))
   (.seq (.set 8 (.call "_law_take" (Zy (.io 0) (Gn (Wa (.v 7)) (ki 1)))))
   (.seq (.set 9 (.call "_law_part" (.cons (.io 0) (.cons (.io 1) (.cons (ki 7) (.cons (ks "new") (.cons (B4 (Zl (.v 2) (ki 0)) (ks "record")) .nil)))))))
   (.seq (.ite (.and (B4 (.v 4) (ki 0)) (.and (.pr (.cm .notin) (Zy (ki 7) (.comp (.v 0) (.v 7) .nil (Zl (.v 0) (ki 0)) [none] ["_law_part_here"]))) (.pr (.cm .notin) (Zy (ki 7) (Zl (.v 2) (ki 2))))))
    (Ub (.ret (Gn (.tup (Mf (Zl (.v 2) (ki 0)) (.pr .tuple (Zi (.pr .sorted (Zi (Gn (.v 7) (.v 9)))))) (Zl (.v 2) (ki 2)))) (.pr (.sl true false) (Zy (.v 2) (ki 3))))))
    .nil)
   (.seq (.ite (.and (B4 (.v 4) (ki 1)) (.pr (.cm .lt) (Zy (.v 8) (Wa (.v 7)))))
    (.seq (.set 10 (.mt .popAt 7 (Zi (.v 8))))
   (.seq (.ret (Gn (.tup (Mf (Zl (.v 2) (ki 0)) (.pr .tuple (Zi (.v 7))) (.pr .tuple (Zi (.pr .sorted (Zi (Gn (Zl (.v 2) (ki 2)) (.tup (Zi (Zl (.v 10) (ki 0))))))))))) (.pr (.sl true false) (Zy (.v 2) (ki 3)))))
   .nil))
    .nil)
   (.seq (.ite (.and (B4 (.v 4) (ki 2)) (.pr (.cm .lt) (Zy (.v 8) (Wa (.v 7)))))
    (.seq (.set 11 (.call "_law_part" (.cons (.io 0) (.cons (.io 1) (.cons (Zl (Zl (.v 7) (.v 8)) (ki 0)) (.cons (Gn (ks "x") (.pr (.sl true false) (Zy (Zl (Zl (.v 7) (.v 8)) (ki 1)) (ki 1)))) (.cons (B4 (Zl (.v 2) (ki 0)) (ks "record")) .nil)))))))
   (.seq (.ret (Gn (.tup (Mf (Zl (.v 2) (ki 0)) (.pr .tuple (Zi (Gn (Gn (.pr (.sl false true) (Zy (.v 7) (.v 8))) (.v 11)) (.pr (.sl true false) (Zy (.v 7) (Gn (.v 8) (ki 1))))))) (Zl (.v 2) (ki 2)))) (.pr (.sl true false) (Zy (.v 2) (ki 3)))))
   .nil))
    .nil)
   (.seq (.ret (.ite (B4 (Zl (.v 2) (ki 0)) (ks "record")) (.v 2) (Gn (.pr (.sl false true) (Zy (.v 2) (ki 3))) (.tup (Zi (.not (Zl (.v 2) (ki 3))))))))
   .nil))))))))))))
def Yc:Df:=⟨12,3,N5⟩
noncomputable def Px:S:=(.seq (.set 2 (.pr .dict (Zi (Zl (.v 1) (ki 1)))))
   (.seq (.set 3 (.comp (.v 0) (.itr .rng (Zi (.call "_law_take" (Zy (.io 0) (ki 4))))) .nil (Zl (.pr .sorted (Zi (.v 1))) (.call "_law_take" (Zy (.io 2) (Wa (.v 1))))) [none,some 2,some 0] ["_law_k","_law_forms","_law_tape"]))
   (.seq (.loop (.v 4) (.v 3)
    (Ub (.put 2 (.v 4) (.call "_law_other_shape" (Mf (.io 0) (.io 2) (Zl (.v 2) (.v 4)))))))
   (.seq (.loop (.v 4) (.pr .sorted (Zi (.v 2)))
    (Ub (.ite (B4 (Zl (Zl (.v 2) (.v 4)) (ki 0)) (ks "record"))
    (.seq (.set 5 (.lst .nil))
   (.seq (.loop (.v 6) (Zl (Zl (.v 2) (.v 4)) (ki 1))
    (.seq (.ite (.and (.pr (.cm .ne) (Zy (Zl (.v 6) (ki 3)) (.tup .nil))) (.pr (.cm .isin) (Zy (Zl (.v 6) (ki 2)) (.v 3))))
    (Ub (.set 6 (Gn (.pr (.sl false true) (Zy (.v 6) (ki 3))) (.tup (Zi (.call "_law_base" (Zi (Zl (.v 2) (Zl (.v 6) (ki 2))))))))))
    .nil)
   (.seq (.ex (.mt .append 5 (Zi (.v 6))))
   .nil)))
   (.seq (.put 2 (.v 4) (.tup (Mf (ks "record") (.pr .tuple (Zi (.v 5))) (Zl (Zl (.v 2) (.v 4)) (ki 2)))))
   .nil)))
    .nil)))
   (.seq (.ret (.tup (Zy (Zl (.v 1) (ki 0)) (.v 2))))
   .nil)))))
def V1:Df:=⟨7,2,Px⟩
noncomputable def Eb:S:=(.seq (.set 2 (.lst (Zy (Gn (.call "_law_draws" (Zy (.call "_law_cell_at" (Zy (.v 0) (ki 0))) (ki 60))) (.call "_law_draws" (Zy (.call "_law_cell_at" (Zy (.v 0) (ki 1))) (ki 60)))) (ki 0))))
   (.seq (.set 3 (.lst (Zi (.call "_law_make" (Zi (.io 2))))))
   (.seq (.set 2 (.lst (Zy (Gn (.call "_law_draws" (Zy (.call "_law_cell_at" (Zy (.v 0) (ki 2))) (ki 60))) (.call "_law_draws" (Zy (.call "_law_cell_at" (Zy (.v 0) (ki 3))) (ki 60)))) (ki 0))))
   (.seq (.set 4 (Gn (.v 1) (.call "_law_take" (Zy (.io 2) (.pr (.op .sub) (Zy (ki 4) (.v 1)))))))
   (.seq (.wh (.pr (.cm .lt) (Zy (Wa (.v 3)) (.v 4)))
    (.seq (.set 5 (Zl (.v 3) (.call "_law_take" (Zy (.io 2) (Wa (.v 3))))))
   (.seq (.ex (.mt .append 3 (Zi (.ite (B4 (.call "_law_take" (Zy (.io 2) (ki 8))) (ki 0)) (.call "_law_make" (Zi (.io 2))) (.call "_law_second" (Zy (.io 2) (.v 5)))))))
   .nil)))
   (.seq (.set 6 (.call "_law_take" (Zy (.io 2) (ki 3))))
   (.seq (.set 7 (.pr (.sl false true) (Zy (Gn (.pr (.sl true false) (Zy (.lst (Mf (ks "old") (ks "newer") (ks "b"))) (.v 6))) (.pr (.sl false true) (Zy (.lst (Mf (ks "old") (ks "newer") (ks "b"))) (.v 6)))) (.v 4))))
   (.seq (.ret (.pr .dict (Zi (.comp (.v 0) (.itr .rng (Zi (.v 4))) .nil (.tup (Zy (Zl (.v 1) (.v 0)) (Zl (.v 2) (.v 0)))) [none,some 7,some 3] ["_law_k","_law_names","_law_some"]))))
   .nil))))))))
def Uu:Df:=⟨8,2,Eb⟩
noncomputable def R3:S:=(.seq (.ite (.or (.not (.pr (.isi .tuple) (Zi (.v 1)))) (.or (.pr (.cm .ne) (Zy (Wa (.v 1)) (ki 2))) (.not (.pr (.isi .tuple) (Zi (Zl (.v 1) (ki 0)))))))
    (Ub (.ret (.k (.bl false))))
    .nil)
   (.seq (.ite (.or (.not (.pr (.isi .tuple) (Zi (Zl (.v 1) (ki 1))))) (.not (.pr .all (Zi (.comp (.v 0) (Zl (.v 1) (ki 0)) .nil (.and (.pr (.isi .str) (Zi (.v 0))) (.pr (.cm .isin) (Zy (.v 0) (.v 1)))) [none,some 0] ["_law_one","_law_stock"])))))
    (Ub (.ret (.k (.bl false))))
    .nil)
   (.seq (.set 2 (.lst .nil))
   (.seq (.loop (.v 3) (Zl (.v 1) (ki 1))
    (.seq (.ite (.or (.not (.pr (.isi .tuple) (Zi (.v 3)))) (.or (.pr (.cm .ne) (Zy (Wa (.v 3)) (ki 3))) (.not (.pr .all (Zi (.comp (.v 0) (.v 3) .nil (.pr (.isi .str) (Zi (.v 0))) [none] ["_law_one"]))))))
    (Ub (.ret (.k (.bl false))))
    .nil)
   (.seq (.ite (.or (.pr (.cm .notin) (Zy (Zl (.v 3) (ki 1)) (.v 0))) (.or (.pr (.cm .notin) (Zy (Zl (.v 3) (ki 2)) (Zl (.v 1) (ki 0)))) (.not (.pr (.c2 .le .le) (Mf (ki 1) (Wa (Zl (.v 3) (ki 0))) (ki 8))))))
    (Ub (.ret (.k (.bl false))))
    .nil)
   (.seq (.ite (.pr (.cm .ne) (Zy (.comp (.v 0) (Zl (.v 3) (ki 0)) (.pr (.cm .notin) (Zy (.v 0) (ks "abcdefghijklmnopqrstuvwxyz"))) (.v 0) [none] ["_law_sign"]) (.lst .nil)))
    (Ub (.ret (.k (.bl false))))
    .nil)
   (.seq (.ex (.mt .append 2 (Zi (Zl (.v 3) (ki 0)))))
   .nil)))))
   (.seq (.ret (.and (B4 (.pr .list (Zi (Zl (.v 1) (ki 0)))) (.pr .sset (Zi (Zl (.v 1) (ki 0))))) (B4 (.v 2) (.pr .sset (Zi (.v 2))))))
   .nil)))))
def Vj:Df:=⟨4,2,R3⟩
noncomputable def ji:S:=(.seq (.set 2 (.comp (.v 0) (.v 1) (B4 (.call "_law_take" (Zy (.io 1) (ki 2))) (ki 0)) (.v 0) [none,some 0] ["_law_name","_law_tape"]))
   (.seq (.set 3 (.lst .nil))
   (.seq (.loop (.v 4) (.pr (.sl false true) (Zy (.lst (Mf (ks "p") (ks "qq") (ks "zzzzzzzz"))) (.call "_law_take" (Zy (.io 0) (ki 4)))))
    (.seq (.ex (.mt .append 3 (Zi (.tup (Mf (.v 4) (Zl (.v 1) (.call "_law_take" (Zy (.io 0) (Wa (.v 1))))) (Zl (.v 1) (.call "_law_take" (Zy (.io 0) (Wa (.v 1))))))))))
   (.seq (.ex (.mt .append 2 (Zi (Zl (Zl (.v 3) (.pr .neg (Zi (ki 1)))) (ki 2)))))
   .nil)))
   (.seq (.ret (.tup (Zy (.pr .tuple (Zi (.pr .sset (Zi (.v 2))))) (.pr .tuple (Zi (.v 3))))))
   .nil))))
def Dl:Df:=⟨5,2,ji⟩
noncomputable def jo:S:=(.seq (.set 3 (.lst (.cons (.k .non) (.cons (.k (.bl true)) (.cons (ki 1) (.cons (ks "") (.cons (ks "p") (.cons (ks "Old") (.cons (ks "ninesigns") (.cons (.tup .nil) (.cons (.lst .nil) (.cons (Zl (.v 1) (ki 0)) (.cons (.tup (Mf (ks "p") (Zl (.v 1) (ki 0)) (Zl (.v 1) (ki 0)))) (.cons (.tup (Zy (.tup .nil) (.tup .nil))) (.cons (.pr .dnew .nil) .nil)))))))))))))))
   (.seq (.ite (.pr (.isi .tuple) (Zi (.v 2)))
    (Ub (.set 3 (Gn (.v 3) (.pr (.op .mul) (Zy (.lst (.cons (.pr .list (Zi (.v 2))) (.cons (.pr .rev (Zi (.v 2))) (.cons (Gn (.v 2) (.pr (.sl false true) (Zy (.v 2) (ki 1)))) (.cons (.pr (.sl false true) (Zy (.v 2) (.pr .neg (Zi (ki 1))))) (.cons (.pr (.sl true false) (Zy (.v 2) (ki 1))) (.cons (.tup (Zi (.v 2))) .nil))))))) (ki 3))))))
    .nil)
   (.seq (.ret (Zl (.v 3) (.call "_law_take" (Zy (.io 0) (Wa (.v 3))))))
   .nil)))
def Dc:Df:=⟨4,3,jo⟩
noncomputable def R4:S:=(.seq (.ite (.or (.not (.pr (.isi .tuple) (Zi (.v 2)))) (.or (B4 (.v 2) (.tup .nil)) (.or (B4 (.v 3) (ki 0)) (B4 (.call "_law_take" (Zy (.io 0) (ki 4))) (ki 0)))))
    (Ub (.ret (.call "_law_odd" (Mf (.io 0) (.v 1) (.v 2)))))
    .nil)
   (.seq (.set 4 (.call "_law_take" (Zy (.io 0) (Wa (.v 2)))))
   (.seq (.ret (Gn (Gn (.pr (.sl false true) (Zy (.v 2) (.v 4))) (.tup (Zi (.call "_law_bent" (ro4 (.io 0) (.v 1) (Zl (.v 2) (.v 4)) (.pr (.op .sub) (Zy (.v 3) (ki 1)))))))) (.pr (.sl true false) (Zy (.v 2) (Gn (.v 4) (ki 1))))))
   .nil)))
def Gq:Df:=⟨5,4,R4⟩
noncomputable def Zjd:S:=(.seq (.set 1 (.call "_law_makes" (Zy (.v 0) (ki 1))))
   (.seq (.set 2 (.pr .sorted (Zi (.v 1))))
   (.seq (.loop (.v 3) (.itr .rng (Zi (ki 20)))
    (.seq (.set 4 (.lst (Zy (.call "_law_draws" (Zy (Gn (.call "_law_cell_at" (Zy (.v 0) (Gn (ki 4) (.v 3)))) (.pr (.op .mul) (Zy (ki 61) (.v 3)))) (ki 40))) (ki 0))))
   (.seq (.set 5 (.call "_law_any" (Zy (.io 4) (.v 2))))
   (.seq (.ite (.pr (.cm .isnt) (Zy (.call "is_fleet" (Zy (.v 1) (.v 5))) (.k (.bl true))))
    (Ub (.ret (.k (.bl false))))
    .nil)
   (.seq (.loop (.v 6) (.itr .rng (Zi (Gn (ki 1) (.call "_law_take" (Zy (.io 4) (ki 2))))))
    (Ub (.set 5 (.call "_law_bent" (ro4 (.io 4) (.v 2) (.v 5) (ki 4))))))
   (.seq (.set 7 (.pr .repr (Zi (.v 5))))
   (.seq (.ite (.or (.pr (.cm .ne) (Zy (.pr .repr (Zi (.call "is_fleet" (Zy (.v 1) (.v 5))))) (.pr .repr (Zi (.call "_law_is_fleet" (Zy (.v 1) (.v 5))))))) (.pr (.cm .ne) (Zy (.pr .repr (Zi (.v 5))) (.v 7))))
    (Ub (.ret (.k (.bl false))))
    .nil)
   .nil)))))))
   (.seq (.loop (.v 5) (.lst (.cons (.k .non) (.cons (ki 7) (.cons (ks "fleet") (.cons (.lst (Zy (.tup .nil) (.tup .nil))) (.cons (.tup (Mf (.tup .nil) (.tup .nil) (.tup .nil))) (.cons (.tup (Zi (.tup .nil))) (.cons (.tup (Zy (.v 2) (.tup .nil))) (.cons (.tup (Zy (.tup (Zy (Zl (.v 2) (ki 0)) (Zl (.v 2) (ki 0)))) (.tup .nil))) .nil)))))))))
    (Ub (.ite (.pr (.cm .isnt) (Zy (.call "is_fleet" (Zy (.v 1) (.v 5))) (.k (.bl false))))
    (Ub (.ret (.k (.bl false))))
    .nil)))
   (.seq (.ret (.pr (.cm .is) (Zy (.call "is_fleet" (Zy (.v 1) (.tup (Zy (.tup .nil) (.tup .nil))))) (.k (.bl true)))))
   .nil)))))
def Fx:Df:=⟨8,1,Zjd⟩
noncomputable def lp:Nat->S->S
 | k,.seq (.loop _ _ b) r=>match k with
  | 0=>b
  | k+1=>lp k r
 | k,.seq _ r=>lp k r
 | _,s=>s
noncomputable def Zj(ds:ZL)(i:Int):T:=.lst [.lst (ds.map .int),.int i]
theorem Js{c:Prop}[Decidable c]{Z:Type}{a:Z}{o:Option Z}{Q:Z->Prop}(h:c)(q:Q a):on (if c then some a else o) Q:=by rw[if_pos h];exact q
theorem Zc{b:Bool}{A B:Prop}(h:b=true->A)(h':b=false->B):if b=true then A else B:=by
 cases b with
 | true=>exact h rfl
 | false=>exact h' rfl
theorem mulP{a b:Int}{Q:Sl->Prop}(h:0<=a/\a<2 ^ 64)(q:Q (.f (.int (a * b)))):on (opT .mul (.int a) (.int b)) Q:=Js (.inl ⟨by omega,h.2⟩) q
theorem W3{ts:ZZ}{x:T}{Q:T×T->Prop}(h:ts.length<sizeLine)(q:Q (.lst (ts++[x]),.non)):on (mtT .append (.lst ts) [x]) Q:=Js h q
theorem Rh{w:W}{D:En}(c m:Int):∀(ks acc:ZL) (num mix:Int) (kk:Sl),(∀k∈ks,0<=k/\k<1000)->0<=mix->mix<4294967296->acc.length+ks.length<=1000 ->
  (∀(W4:ZL) (df mix':Int) (kk':Sl),W4.length=acc.length+ks.length->D.nx [.f (.int c),.f (.int m),.o (.lst (W4.map .int)),.f (.int df),.f (.int mix'),kk']) ->
  Gm (fun x s D=>on (asg (.v 5) x s) fun s1=>wS w (Vh [.f (.int c),.f (.int m)]) (lp 0 Ue) s1 D) (ks.map .int) [.f (.int c),.f (.int m),.o (.lst (acc.map .int)),.f (.int num),.f (.int mix),kk] D
 | [],acc,num,mix,kk,hk,h1,h2,hl,q=>q acc num mix kk rfl
 | k::ks,acc,num,mix,kk,hk,h1,h2,hl,q=>by
  have k1:=hk k Vt;have sl:=sizeLine_eq;have ll:(acc.map T.int).length<sizeLine:=by rw[Z4];rw[Gs]at hl;omega
  refine mulP (a:=mix) (b:=mix) ⟨h1,by omega⟩ ?_;obtain⟨mx,hm⟩:∃mx,mx=(mix * mix+48271 * mix+7 * k) % 2147483647:=⟨_,rfl⟩;have m1:0<=mx:=by rw[hm];exact Int.emod_nonneg _ (by omega)
  have m2:mx<2147483647:=by rw[hm];exact Int.emod_lt_of_pos _ (by omega)
  have nx:∀(y df:Int),Gm (fun x s D=>on (asg (.v 5) x s) fun s1=>wS w (Vh [.f (.int c),.f (.int m)]) (lp 0 Ue) s1 D) (ks.map .int) [.f (.int c),.f (.int m),.o (.lst (acc.map T.int++[.int y])),.f (.int df),.f (.int mx),.f (.int k)] D:=fun y df=>by
   have:=Rh (w:=w) (D:=D) c m ks (acc++[y]) df mx (.f (.int k)) (fun k m=>hk k (Vf _ m)) m1 (by omega) (by rw[Gg,ZI];rw[Gs]at hl;omega) (fun W4 n' m' kk' e=>q W4 n' m' kk' (by rw[e,Gg,ZI,Gs];omega));rw[Am]at this;exact this
  rw[hm]at nx m1 m2;refine Zc (b:=decide (0<num)) (fun hn=>?_) fun hn=>?_
  .refine W3 ll ?_;exact nx _ _
  .refine mulP (b:=69621) ⟨m1,by omega⟩ ?_;refine W3 ll ?_;exact nx _ _
theorem lu{w:W}(c:Int)(m:Nat)(hm:m<=1000):wF Ua w [.f (.int c),.f (.int m)] fun x=>∃ds:ZL,ds.length=m/\x=(.o (.lst (ds.map .int)),[]):=by
  have go:∀num:Int,Gm (fun x s D=>on (asg (.v 5) x s) fun s1=>wS w (Vh [.f (.int c),.f (.int m)]) (lp 0 Ue) s1 D) (((List.range m).map fun i:Nat=>(i:Int)).map .int) [.f (.int c),.f (.int m),.o (.lst []),.f (.int num),.f (.int (c % 2147483629+48271)),.no]
      ⟨fun p=>wS w (Vh [.f (.int c),.f (.int m)]) (.seq (.ret (.mv 2)) .nil) p ⟨fun p=>on (fin [.f (.int c),.f (.int m)] (.f .non) p) fun x=>∃ds:ZL,ds.length=m/\x=(.o (.lst (ds.map .int)),[]),fun r p=>on (fin [.f (.int c),.f (.int m)] r p) fun x=>∃ds:ZL,ds.length=m/\x=(.o (.lst (ds.map .int)),[]),fun _=>False,fun _=>False⟩,
       fun r p=>on (fin [.f (.int c),.f (.int m)] r p) fun x=>∃ds:ZL,ds.length=m/\x=(.o (.lst (ds.map .int)),[]),fun _=>False,fun _=>False⟩:=fun num=>by
    have h1:=Int.emod_nonneg c (show (2147483629:Int)≠0 by omega);have h2:=Int.emod_lt_of_pos c (show (0:Int)<2147483629 by omega);refine Rh c m _ [] num _ .no (fun k mk=>?_) (by omega) (by omega) (by simp;omega) fun W4 n' m' kk' e=>?_
    . obtain⟨i,mi,rfl⟩:=Gr.mp mk
      have:=List.mem_range.mp mi;omega
    . refine⟨W4, ?_,rfl⟩
      simpa using e
  have er:ip (.int m)=some (((List.range m).map fun i:Nat=>(i:Int)).map .int):=by
    show (if -1000000<=(m:Int)/\(m:Int)<=1000000 then some ((List.range (Int.toNat m)).map fun k=>T.int (k:Nat)) else none)=_;rw[if_pos (by omega),List.map_map]
    rfl
  refine Zc (b:=decide ((10:Int) ^ 18<=c)) (fun _=>?_) fun _=>?_
  . refine Zm er ?_
    exact go c
  . refine Zm er ?_
    exact go 0
theorem Pw{Z:Type}{xs:List Z}{i:Int}(h0:0<=i)(h1:i<xs.length):∃x,Jd xs i=some x/\x∈xs:=by
 have hj:i.toNat<xs.length:=by omega
 refine⟨xs[i.toNat], ?_,wu hj⟩;unfold Jd Qr;rw[if_pos h0,if_pos h1];exact V0 hj
theorem ax{w:W}(ds:ZL)(i m:Int)(hd:0<ds.length)(hm:0<m):wF J4 w [.o (Zj ds i),.f (.int m)] fun x=>∃r,(0<=r/\r<m)/\x=(.f (.int r),[Zj ds (i+1)]):=by
 have hl:(0:Int)<((ds.map T.int).length:Nat):=by rw[Z4];omega
 refine Js (a:=Sl.f (.int ((i+1 - 1) % ((ds.map T.int).length:Nat)))) hl ?_;obtain⟨x,hx,mx⟩:=Pw (xs:=ds.map T.int) (i:=(i+1 - 1) % ((ds.map T.int).length:Nat)) (Int.emod_nonneg _ (by omega)) (Int.emod_lt_of_pos _ hl);obtain⟨y,_,rfl⟩:=Gr.mp mx;refine Zm (a:=Sl.f (.int y)) (by show (Jd _ _).map _=_;rw[hx];rfl) ?_;refine Js (a:=Sl.f (.int (y % m))) hm ?_;exact⟨y % m,⟨Int.emod_nonneg _ (by omega),Int.emod_lt_of_pos _ hm⟩,rfl⟩
def Ve(C:Cs):Prop:=∀(ds:ZL) (i m:Int),0<ds.length->0<m->∃r,(0<=r/\r<m)/\C "_law_take" [.o (Zj ds i),.f (.int m)]=some (.f (.int r),[Zj ds (i+1)])
theorem Z6{C:Cs}(h:Ve C){ds:ZL}{i m:Int}{Q:Sl×ZZ->Prop}(hd:0<ds.length)(hm:0<m)(q:∀r,0<=r->r<m->Q (.f (.int r),[Zj ds (i+1)])):on (C "_law_take" [.o (Zj ds i),.f (.int m)]) Q:=by
 obtain⟨r,⟨h1,h2⟩,e⟩:=h ds i m hd hm;rw[e];exact q r h1 h2
theorem Zqk{w:W}(zs:ZL)(k:Int)(hk:0<=k):wF Vm w [.f (.lst (zs.map .int)),.f (.int k)] fun x=>∃c:Int,x=(.f (.int c),[]):=by
 refine Zc (b:=decide (k<((zs.map T.int).length:Nat))) (fun h=>?_) fun h=>?_
 .have h:=Pa h;obtain⟨x,hx,mx⟩:=Pw (xs:=zs.map T.int) hk h;obtain⟨y,_,rfl⟩:=Gr.mp mx;refine Zm (a:=Sl.f (.int y)) (by show (Jd _ _).map _=_;rw[hx];rfl) ?_;exact⟨y,rfl⟩
 .exact⟨0,rfl⟩
def Shp(ns:ZD)(t:T):Prop:=(∃lo hi:Int,t=.tup [.str "whole",.int lo,.int hi]/\lo<=hi)\/t=.tup [.str "truth"]\/(∃n:Int,t=.tup [.str "text",.int n]/\0<=n/\n<=5)\/(∃(s x:Str) (n:Int),(s = "row" \/ s = "map")/\x∈ns/\t=.tup [.str s,.str x,.int n]/\0<=n/\n<=3)
 \/ t=.tup [.str "record",.tup [],.tup []]\/∃b,t=.tup [.str "choice",.tup [],.tup [],.bl b]
theorem D9{ts:ZZ}{r:Int}{Q:Sl->Prop}(h0:0<=r)(h1:r<ts.length)(q:∀x∈ts,Q (.f x)):on ((O7 (.lst ts) (.int r)).map Sl.f) Q:=by
 obtain⟨x,hx,mx⟩:=Pw h0 h1;refine Zm (a:=Sl.f x) (by show (Jd _ _).map _=_;rw[hx];rfl) (q x mx)
theorem Az{r:Int}(h0:0<=r)(h:r<4):r=0\/r=1\/r=2\/r=3:=by omega
theorem km{w:W}(hT:Ve w.C)(ds:ZL)(i:Int)(ns:ZD)(hd:0<ds.length)(hn:0<ns.length):wF Us w [.o (Zj ds i),.f (.lst (ns.map .str))] fun x=>∃t j,Shp ns t/\x=(.f t,[Zj ds j]):=by
 refine Z6 hT hd (by omega) fun a a0 a1=>?_;refine Z6 hT hd (by rw[Z4];omega) fun b b0 b1=>?_;obtain⟨x,hx,mx⟩:=Pw (xs:=ns.map T.str) b0 b1;obtain⟨y,my,rfl⟩:=Gr.mp mx;refine Zm (a:=Sl.f (.str y)) (by show (Jd _ _).map _=_;rw[hx];rfl) ?_;refine Z6 hT hd (by omega) fun c c0 c1=>?_;refine Zc (b:=decide (a<2)) (fun h=>?_) fun h=>?_
 .refine Z6 hT hd (by omega) fun e e0 e1=>?_;refine D9 e0 e1 fun x mx=>?_
  obtain⟨lo,rfl⟩:∃lo:Int,x=.int lo:=by
   simp only[Y3,V4,or_false]at mx;rcases mx with rfl | rfl | rfl | rfl | rfl<;>exact⟨_,rfl⟩
  refine D9 c0 c1 fun z mz=>?_
  obtain⟨up,rfl,hu⟩:∃up:Int,z=.int up/\0<=up:=by
   simp only[Y3,V4,or_false]at mz;rcases mz with rfl | rfl | rfl | rfl<;>exact⟨_,rfl,by omega⟩
  exact⟨_,_,.inl ⟨lo,lo+up,rfl,by omega⟩,rfl⟩
 .refine Zc (b:=decide (a<4)) (fun h4=>?_) fun h4=>?_
  .have h:=of_decide_eq_false h;have h4:=Pa h4;rcases(show a=2\/a=3 by omega) with rfl | rfl<;>rcases Az c0 c1 with rfl | rfl | rfl | rfl
   all_goals first
    | exact⟨_,_,.inr (.inl rfl),rfl⟩
    | exact⟨_,_,.inr (.inr (.inl ⟨_,rfl,by omega,by omega⟩)),rfl⟩
  .refine Zc (b:=decide (a<6)) (fun h6=>?_) fun h6=>?_
   .have h4:=of_decide_eq_false h4;have h6:=Pa h6;rcases(show a=4\/a=5 by omega) with rfl | rfl
    .exact⟨_,_,.inr (.inr (.inr (.inl ⟨_,_,_,.inl rfl,my,rfl,c0,by omega⟩))),rfl⟩
    .exact⟨_,_,.inr (.inr (.inr (.inl ⟨_,_,_,.inr rfl,my,rfl,c0,by omega⟩))),rfl⟩
   .refine Zc (b:=decide (a<8)) (fun h8=>?_) fun h8=>?_
    .exact⟨_,_,.inr (.inr (.inr (.inr (.inl rfl)))),rfl⟩
    .exact⟨_,_,.inr (.inr (.inr (.inr (.inr ⟨_,rfl⟩)))),rfl⟩
def Pp(n:Nat)(t:T):Prop:=∃(i:Int) (x y:Str) (l:ZZ),t=.tup (.int i::.str x::.str y::l)/\l.length=n/\x.length<=10/\∀u∈l,∃v,u=.tup v
noncomputable def num:T->Int
 | .tup (.int i::_)=>i
 | _=>0
def Yo(N n:Nat)(ps:ZZ):Prop:=ps.length<=N/\(ps.map num).Nodup/\∀t∈ps,Pp n t
def Ac(N:Nat)(t:T):Prop:=∃zs:ZL,t=.tup (zs.map .int)/\zs.length<=N
inductive Yi(N:Nat):T->Prop
 | whole(lo hi:Int):Yi N (.tup [.str "whole",.int lo,.int hi])
 | truth:Yi N (.tup [.str "truth"])
 | text (n:Int) (h:0<=n):Yi N (.tup [.str "text",.int n])
 | row (x:Str) (n:Int):Yi N (.tup [.str "row",.str x,.int n])
 | map (x:Str) (n:Int):Yi N (.tup [.str "map",.str x,.int n])
 | record (ps:ZZ) (s:T) (h:Yo N 1 ps) (hs:Ac N s):Yi N (.tup [.str "record",.tup ps,s])
 | choice (b:Bool) (ps:ZZ) (s:T) (h:Yo N 0 ps) (hs:Ac N s):Yi N (.tup [.str "choice",.tup ps,s,.bl b])
noncomputable def C6:T->Bool
 | .tup (.str s::_)=>!([("record" : Str),"choice"].any fun y=>decide (y=s))
 | _=>false
theorem O9{w:W}{N:Nat}{t:T}(h:Yi N t):wF Vq w [.f t] fun x=>x=(.f (.bl (C6 t)),[]):=by
 cases h<;>exact rfl
def Mh(C:Cs):Prop:=∀(N:Nat) (t:T),Yi N t->C "_law_is_plain" [.f t]=some (.f (.bl (C6 t)),[])
theorem Uj{C:Cs}(h:Mh C){N:Nat}{t:T}{Q:Sl×ZZ->Prop}(g:Yi N t)(q:Q (.f (.bl (C6 t)),[])):on (C "_law_is_plain" [.f t]) Q:=by rw[h N t g];exact q
theorem Hn{w:W}(hT:Ve w.C)(hP:Mh w.C){N:Nat}{t:T}(g:Yi N t)(ds:ZL)(i:Int)(hd:0<ds.length):wF Vb w [.o (Zj ds i),.f t] fun x=>∃l j,x=(.f (.tup l),[Zj ds j]):=by
 refine Z6 hT hd (by omega) fun a a0 a1=>?_;refine Zc (b:=decide (a<2)) (fun h=>?_) fun h=>?_
 .exact⟨_,_,rfl⟩
 .have h:=of_decide_eq_false h;refine Uj hP g ?_;cases g with
  | record ps s h hs=>exact⟨_,_,rfl⟩
  | choice b ps s h hs=>exact⟨_,_,rfl⟩
  | whole lo hi=>rcases(show a=2\/a=3 by omega) with rfl | rfl<;>exact⟨_,_,rfl⟩
  | truth=>exact⟨_,_,rfl⟩
  | row x n=>exact⟨_,_,rfl⟩
  | map x n=>exact⟨_,_,rfl⟩
  | text n hn =>
   refine Js (a:=Sl.f (.str (repS "b" (if a - 2<n then a - 2 else n).toNat))) ⟨by split<;>omega,by split<;>omega,by decide⟩ ?_;exact⟨_,_,rfl⟩
def D4(N:Nat)(XB:ZX):Prop:=(∃ss:ZD,XB.map (·.1)=ss.map Sum.inr)/\0<XB.length/\XB.length<64/\∀k t,Vx XB k=some t->Yi N t
theorem La:∀{XB:ZX} {ss:ZD},XB.map (·.1)=ss.map Sum.inr->Z7 (XB.map fun p=>Te p.1)=some ss/\Nb (XB.map fun p=>Te p.1)=(if ss=[] then some [] else none)
 | [],[],_=>⟨rfl,rfl⟩
 | [],_::_,h=>by simp at h
 | _::_,[],h=>by simp at h
 | (k,t)::XB,s::ss,h=>by
  rw[Gh,Gh]at h
  injection h with h1 h2
  have h1:k=Sum.inr s:=h1;subst h1;obtain⟨g1,g2⟩:=La h2;refine⟨?_, ?_⟩
  .show (Z7 (XB.map fun p=>Te p.1)).map (s::·)=_;rw[g1];rfl
  .rw[if_neg (by simp)];rfl
theorem get_mem{XB:ZX}{k:Key}(h:k∈XB.map (·.1)):∃t,Vx XB k=some t:=by
 unfold Vx;obtain⟨p,mp,e⟩:=Gr.mp h;cases f:XB.find? fun p=>decide (p.1=k) with
 | none =>
  have:=List.find?_eq_none.mp f p mp;simp[e]at this
 | some q=>exact⟨q.2,rfl⟩
theorem D4.srt{N:Nat}{XB:ZX}(h:D4 N XB):∃us:ZD,M8 (XB.map fun p=>Te p.1)=some (us.map .str)/\us.length=XB.length/\∀x∈us,∃t,Vx XB (.inr x)=some t/\Yi N t:=by
 obtain⟨⟨ss,e⟩,h0,h1,h2⟩:=h;obtain⟨g1,g2⟩:=La e;have el:ss.length=XB.length:=by have:=congrArg List.length e;simpa using this.symm
 refine⟨SRT.Yq ss, ?_,by rw[(SRT.Z3 ss).length_eq,el],fun x mx=>?_⟩
 .unfold M8;rw[if_pos (by rw[Z4];exact h1),g2,if_neg (by intro z;rw[z]at el;simp at el;omega),g1]
  rfl
 .have:(Sum.inr x:Key)∈XB.map (·.1):=by rw[e];exact List.mem_map_of_mem ((SRT.Z3 ss).mem_iff.mp mx)
  obtain⟨t,ht⟩:=get_mem this;exact⟨t,ht,h2 _ _ ht⟩
def Ww(C:Cs):Prop:=∀(N:Nat) (t:T),Yi N t->∀(ds:ZL) (i:Int),0<ds.length->∃l j,C "_law_default" [.o (Zj ds i),.f t]=some (.f (.tup l),[Zj ds j])
theorem l9{C:Cs}(h:Ww C){N:Nat}{t:T}{ds:ZL}{i:Int}{Q:Sl×ZZ->Prop}(g:Yi N t)(hd:0<ds.length)(q:∀l j,Q (.f (.tup l),[Zj ds j])):on (C "_law_default" [.o (Zj ds i),.f t]) Q:=by
 obtain⟨l,j,e⟩:=h N t g ds i hd;rw[e];exact q l j
theorem Zzm{w:W}(hT:Ve w.C)(hP:Mh w.C)(hD:Ww w.C){N:Nat}{XB:ZX}(f:D4 N XB)(ds:ZL)(i:Int)(hd:0<ds.length)(n:Int)(x:Str)(b:Bool)(hx:x.length<=10) :
  wF Gz w [.o (Zj ds i),.o (.dct XB),.f (.int n),.f (.str x),.f (.bl b)] fun r=>∃ps j,r=(.o (.lst ps),[Zj ds j,.dct XB])/\ps.length<=1/\∀t∈ps,Pp (if b then 1 else 0) t/\num t=n:=by
 obtain⟨us,e1,e2,e3⟩:=f.srt;refine Zm (a:=Sl.o (.lst (us.map .str))) (by show (M8 _).map _=_;rw[e1];rfl) ?_;refine Z6 hT hd (by have:=f.2.1;omega) fun r r0 r1=>?_;refine D9 r0 (by rw[Z4,e2];exact r1) fun u mu=>?_;obtain⟨y,my,rfl⟩:=Gr.mp mu;obtain⟨t,ht,g⟩:=e3 y my;cases b with
 | false =>
  refine⟨_,_,rfl,Z5 _,fun t m=>?_⟩;cases B8.mp m;exact⟨⟨n,x,y,[],rfl,rfl,hx,fun u m=>absurd m V4⟩,rfl⟩
 | true =>
  refine Zm (a:=Sl.f t) (by show (Vx XB (.inr y)).map _=_;rw[ht];rfl) ?_;refine l9 hD g hd fun l j=>?_
  have one:∃ps j',((.o (.lst [.tup [.int n,.str x,.str y,.tup l]]),[Zj ds j,.dct XB]):Sl×ZZ)=(.o (.lst ps),[Zj ds j',.dct XB])/\ps.length<=1/\∀t∈ps,Pp (if true=true then 1 else 0) t/\num t=n:=by
   refine⟨_,_,rfl,Z5 _,fun t m=>?_⟩;cases B8.mp m;exact⟨⟨n,x,y,[.tup l],rfl,rfl,hx,fun u m=>⟨l,by cases B8.mp m;rfl⟩⟩,rfl⟩
  have non:∃ps j',((.o (.lst []),[Zj ds j,.dct XB]):Sl×ZZ)=(.o (.lst ps),[Zj ds j',.dct XB])/\ps.length<=1/\∀t∈ps,Pp (if true=true then 1 else 0) t/\num t=n:=⟨[],_,rfl,Ma _,fun t m=>absurd m V4⟩;refine Zc (b:=decide (n=1)) (fun _=>?_) fun _=>?_
  .exact one
  .refine Zm (a:=Sl.f t) (by show (Vx XB (.inr y)).map _=_;rw[ht];rfl) ?_;refine Uj hP g ?_;cases C6 t with
   | true=>exact one
   | false=>exact non
def Ei(C:Cs):Prop:=∀(N:Nat) (XB:ZX),D4 N XB->∀(ds:ZL) (i:Int),0<ds.length->∀(n:Int) (x:Str) (b:Bool),x.length<=10 ->
 ∃ps j,C "_law_part" [.o (Zj ds i),.o (.dct XB),.f (.int n),.f (.str x),.f (.bl b)]=some (.o (.lst ps),[Zj ds j,.dct XB])/\ps.length<=1/\∀t∈ps,Pp (if b then 1 else 0) t/\num t=n
theorem mr{C:Cs}(h:Ei C){N:Nat}{XB:ZX}(f:D4 N XB){ds:ZL}{i n:Int}{x:Str}{b:Bool}{Q:Sl×ZZ->Prop}(hd:0<ds.length)(hx:x.length<=10)
  (q:∀ps j,ps.length<=1->(∀t∈ps,Pp (if b then 1 else 0) t/\num t=n)->Q (.o (.lst ps),[Zj ds j,.dct XB])):on (C "_law_part" [.o (Zj ds i),.o (.dct XB),.f (.int n),.f (.str x),.f (.bl b)]) Q:=by
 obtain⟨ps,j,e,h1,h2⟩:=h N XB f ds i hd n x b hx;rw[e];exact q ps j h1 h2
noncomputable def Ab(k:Nat):Int:=[1,2,9,10,99,100,999].getD k 1000
theorem Yo.more{N n:Nat}{acc ps:ZZ}{m:Int}(h:Yo N n acc)(hl:∀t∈acc,num t<m)(h1:ps.length<=1)(h2:∀t∈ps,Pp n t/\num t=m)(hN:acc.length<N):Yo N n (acc++ps):=by
 refine⟨by rw[Gg];omega, ?_,fun t mt=>?_⟩
 .match ps,h1,h2 with
  | [],_,_=>rw[XQ];exact h.2.1
  | [t],_,h2 =>
   rw[Am,List.nodup_append];refine⟨h.2.1,by simp,fun a ma b mb=>?_⟩;obtain⟨u,mu,rfl⟩:=Gr.mp ma;have eb:b=num t:=by simpa using mb
   have:=hl u mu;have:=(h2 t (by simp)).2;omega
  | _::_::_,h1,_=>simp at h1
 .rcases Cb.mp mt with mt | mt
  .exact h.2.2 t mt
  .exact(h2 t mt).1
theorem Y4{w:W}{D:En}(hT:Ve w.C)(hP:Ei w.C){N:Nat}{XB:ZX}(f:D4 N XB){ds:ZL}(hd:0<ds.length)(b:Bool)(k:Nat)(hk:k<7)(rest:ZZ)(i0:Int)(acc:ZZ)(i:Int)(kk:Sl)
  (h:Yo 4 (if b then 1 else 0) acc) (hl:∀t∈acc,num t<Ab k)
  (q:∀W4 j,Yo 4 (if b then 1 else 0) W4->(∀t∈W4,num t<=Ab k)->Gm (fun x s D=>on (asg (.v 4) x s) fun s1=>wS w (Vh [.o (Zj ds i0),.o (.dct XB),.f (.bl b)]) (lp 0 Ui) s1 D) rest [.o (Zj ds j),.o (.dct XB),.f (.bl b),.o (.lst W4),.f (.int k)] D) :
  Gm (fun x s D=>on (asg (.v 4) x s) fun s1=>wS w (Vh [.o (Zj ds i0),.o (.dct XB),.f (.bl b)]) (lp 0 Ui) s1 D) (.int k::rest) [.o (Zj ds i),.o (.dct XB),.f (.bl b),.o (.lst acc),kk] D:=by
 have sl:=sizeLine_eq;refine Z6 hT hd (by omega) fun r r0 r1=>?_;refine Zc (b:=decide (r=0)) (fun _=>?_) fun _=>?_
 .refine Zc (b:=decide ((acc.length:Int)<4)) (fun h4=>?_) fun _=>?_
  .have h4:=Pa h4
   have go:∀ps j,ps.length<=1->(∀t∈ps,Pp (if b then 1 else 0) t/\num t=Ab k)->Gm (fun x s D=>on (asg (.v 4) x s) fun s1=>wS w (Vh [.o (Zj ds i0),.o (.dct XB),.f (.bl b)]) (lp 0 Ui) s1 D) rest [.o (Zj ds j),.o (.dct XB),.f (.bl b),.o (.lst (acc++ps)),.f (.int k)] D:=fun ps j h1 h2=>q (acc++ps) j (h.more hl h1 h2 (by omega)) fun t m=>by
    rcases Cb.mp m with m | m
    .exact Int.le_of_lt (hl t m)
    .exact Int.le_of_eq (h2 t m).2
   have hl4:acc.length<4:=by omega
   rcases(show k=0\/k=1\/k=2\/k=3\/k=4\/k=5\/k=6 by omega) with rfl | rfl | rfl | rfl | rfl | rfl | rfl
   all_goals
    refine mr hP f hd ?_ fun ps j h1 h2=>?_
    .decide
    .refine Js (a:=Sl.o (.lst (acc++ps))) (by omega) ?_;exact go ps j h1 h2
  .exact q acc _ h fun t m=>Int.le_of_lt (hl t m)
 .exact q acc _ h fun t m=>Int.le_of_lt (hl t m)
theorem mf{w:W}(hT:Ve w.C)(hP:Ei w.C){N:Nat}{XB:ZX}(f:D4 N XB)(ds:ZL)(i:Int)(hd:0<ds.length)(b:Bool) :
  wF Uh w [.o (Zj ds i),.o (.dct XB),.f (.bl b)] fun r=>∃ps j,r=(.f (.tup ps),[Zj ds j,.dct XB])/\Yo 4 (if b then 1 else 0) ps:=by
 have lt:∀{k m:Nat} {acc:ZZ},Ab k<Ab m->(∀t∈acc,num t<=Ab k)->∀t∈acc,num t<Ab m:=fun h g t m=>Int.lt_of_le_of_lt (g t m) h;refine Y4 hT hP f hd b 0 (by omega) _ i [] i .no ⟨Ma _,List.Pairwise.nil,fun t m=>absurd m V4⟩ (fun t m=>absurd m V4) fun a1 j1 p1 l1=>?_;refine Y4 hT hP f hd b 1 (by omega) _ i a1 j1 _ p1 (lt (by decide) l1) fun a2 j2 p2 l2=>?_;refine Y4 hT hP f hd b 2 (by omega) _ i a2 j2 _ p2 (lt (by decide) l2) fun a3 j3 p3 l3=>?_;refine Y4 hT hP f hd b 3 (by omega) _ i a3 j3 _ p3 (lt (by decide) l3) fun a4 j4 p4 l4=>?_;refine Y4 hT hP f hd b 4 (by omega) _ i a4 j4 _ p4 (lt (by decide) l4) fun a5 j5 p5 l5=>?_;refine Y4 hT hP f hd b 5 (by omega) _ i a5 j5 _ p5 (lt (by decide) l5) fun a6 j6 p6 l6=>?_;refine Y4 hT hP f hd b 6 (by omega) _ i a6 j6 _ p6 (lt (by decide) l6) fun a7 j7 p7 l7=>?_;exact⟨a7,j7,rfl,p7⟩
noncomputable def Ez{Z:Type}(ts:List Z)(lo hi:ZR):List Z:=(ts.drop (HT.Yl ts.length 0 lo)).take (HT.Yl ts.length ts.length hi - HT.Yl ts.length 0 lo)
theorem Q4(ss:ZD)(lo hi:ZR):Zn (ss.map .str) lo hi=(Ez ss lo hi).map .str:=by
 unfold Zn Ez;rw[Z4,List.map_take,List.map_drop]
noncomputable def Ug:ZD:=["a","bb","form","c","must","text","ab","none"]
theorem di(a r:Int)(a0:0<=a)(a1:a<8)(r0:0<=r)(r1:r<5):let ns:=Ez (Ez Ug (some a) none++Ez Ug none (some a)) none (some (2+r));0<ns.length/\ns.length<64/\ns.Nodup:=by
 rcases(show a=0\/a=1\/a=2\/a=3\/a=4\/a=5\/a=6\/a=7 by omega) with rfl | rfl | rfl | rfl | rfl | rfl | rfl | rfl<;>rcases(show r=0\/r=1\/r=2\/r=3\/r=4 by omega) with rfl | rfl | rfl | rfl | rfl<;>decide +kernel
theorem Sd(XB:ZX)(k k':Key)(v:T):Vx (Vn XB k v) k'=if k=k' then some v else Vx XB k':=by
 unfold Vn
 split
 .rename_i h
  induction XB with
  | nil=>simp at h
  | cons p r ih =>
   rw[List.any_cons,Bool.or_eq_true]at h;unfold Vx at ih ⊢;rw[Gh,List.find?_cons];by_cases e:p.1=k
   .rw[if_pos e];by_cases e':k=k'
    .rw[Mi (show (p.1,v).1=k' from e.trans e'),if_pos e'];rfl
    .rw[Mp (show ¬ (p.1,v).1=k' from fun z=>e' (e.symm.trans z)),if_neg e',List.find?_cons,Mp (show ¬ p.1=k' from fun z=>e' (e.symm.trans z))];by_cases hr:(r.any fun p=>decide (p.1=k))=true
     .have:=ih hr;rw[if_neg e']at this;exact this
     .have em:(r.map fun p=>if p.1=k then (p.1,v) else p)=r:=by
       conv=>rhs;rw[<-List.map_id r]
       refine List.map_congr_left fun q mq=>?_;rw[if_neg]
       .rfl
       .intro z;exact hr (XZ.mpr ⟨q,mq,Mi z⟩)
      rw[em]
   .rw[if_neg e];by_cases e':p.1=k'
    .rw[Mi e',List.find?_cons,Mi e',if_neg (fun z=>e (e'.trans z.symm))]
    .rw[Mp e',List.find?_cons,Mp e'];exact ih (h.resolve_left (by simp[e]))
 .rename_i h
  unfold Vx;rw[List.find?_append];by_cases e':k=k'
  .subst e';rw[if_pos rfl];have:XB.find? (fun p=>decide (p.1=k))=none:=List.find?_eq_none.mpr fun p mp z=>h (XZ.mpr ⟨p,mp,z⟩);rw[this];simp
  .rw[if_neg e'];have:[(k,v)].find? (fun p=>decide (p.1=k'))=none:=by simp[e']
   rw[this];simp
theorem Jl{XB:ZX}{k:Key}{v:T}(h:k∈XB.map (·.1)):(Vn XB k v).map (·.1)=XB.map (·.1):=by
 unfold Vn;rw[if_pos]
 .rw[List.map_map];refine List.map_congr_left fun p _=>?_;show (if p.1=k then (p.1,v) else p).1=p.1
  split<;>rfl
 .obtain⟨p,mp,e⟩:=Gr.mp h;exact XZ.mpr ⟨p,mp,Mi e⟩
theorem i7{XB:ZX}{k:Key}{v:T}(h:¬ k∈XB.map (·.1)):(Vn XB k v).map (·.1)=XB.map (·.1)++[k]:=by
 unfold Vn;rw[if_neg]
 .rw[Am];rfl
 .intro z;obtain⟨p,mp,e⟩:=XZ.mp z;exact h (Gr.mpr ⟨p,mp,Pa e⟩)
theorem D4.put{N:Nat}{XB:ZX}(h:D4 N XB){k:Key}{v:T}(hk:k∈XB.map (·.1))(g:Yi N v):D4 N (Vn XB k v):=by
 obtain⟨⟨ss,e⟩,h0,h1,h2⟩:=h;have ek:=Jl (v:=v) hk;have el:(Vn XB k v).length=XB.length:=by have:=congrArg List.length ek;simpa using this
 refine⟨⟨ss,by rw[ek,e]⟩,by omega,by omega,fun k' t ht=>?_⟩;rw[Sd]at ht
 split at ht
 .cases ht;exact g
 .exact h2 k' t ht
theorem Yi.of{ns:ZD}{t:T}(h:Shp ns t){N:Nat}:Yi N t:=by
 have nil:∀n,Yo N n []:=fun n=>⟨Ma _,List.Pairwise.nil,fun t m=>absurd m V4⟩;have ni:Ac N (.tup []):=⟨[],rfl,Ma _⟩;rcases h with ⟨lo,hi,rfl,_⟩ | rfl | ⟨n,rfl,h0,_⟩ | ⟨s,x,n,rfl | rfl,_,rfl,_⟩ | rfl | ⟨b,rfl⟩
 .exact .whole _ _
 .exact .truth
 .exact .text _ h0
 .exact .row _ _
 .exact .map _ _
 .exact .record _ _ (nil 1) ni
 .exact .choice _ _ _ (nil 0) ni
def j9(N M:Nat)(XB:ZX):Prop:=(∃ss:ZD,XB.map (·.1)=ss.map Sum.inr)/\XB.length<=M/\∀k t,Vx XB k=some t->Yi N t
theorem j9.put{N M:Nat}{XB:ZX}(h:j9 N M XB){x:Str}{v:T}(g:Yi N v):j9 N (M+1) (Vn XB (.inr x) v)/\(∀k,k∈XB.map (·.1)\/k=.inr x->k∈(Vn XB (.inr x) v).map (·.1)):=by
 obtain⟨⟨ss,e⟩,h1,h2⟩:=h
 have hg:∀k t,Vx (Vn XB (.inr x) v) k=some t->Yi N t:=fun k' t ht=>by
  rw[Sd]at ht
  split at ht
  .cases ht;exact g
  .exact h2 k' t ht
 by_cases hk:(Sum.inr x:Key)∈XB.map (·.1)
 .have ek:=Jl (v:=v) hk;have el:(Vn XB (.inr x) v).length=XB.length:=by have:=congrArg List.length ek;simpa using this
  refine⟨⟨⟨ss,by rw[ek,e]⟩,by omega,hg⟩,fun k m=>?_⟩;rw[ek];rcases m with m | rfl
  .exact m
  .exact hk
 .have ek:=i7 (v:=v) hk;have el:(Vn XB (.inr x) v).length=XB.length+1:=by have:=congrArg List.length ek;simpa using this
  refine⟨⟨⟨ss++[x],by rw[ek,e,Am];rfl⟩,by omega,hg⟩,fun k m=>?_⟩;rw[ek,Cb];rcases m with m | rfl
  .exact .inl m
  .exact .inr (by simp)
def Wj(C:Cs):Prop:=∀(ds:ZL) (i:Int) (ns:ZD),0<ds.length->0<ns.length->∃t j,Shp ns t/\C "_law_shape" [.o (Zj ds i),.f (.lst (ns.map .str))]=some (.f t,[Zj ds j])
theorem shapeP{C:Cs}(h:Wj C){ds:ZL}{i:Int}{ns:ZD}{Q:Sl×ZZ->Prop}(hd:0<ds.length)(hn:0<ns.length)(q:∀t j,Shp ns t->Q (.f t,[Zj ds j])):on (C "_law_shape" [.o (Zj ds i),.f (.lst (ns.map .str))]) Q:=by
 obtain⟨t,j,g,e⟩:=h ds i ns hd hn;rw[e];exact q t j g
theorem Zjw{w:W}{D:En}(hS:Wj w.C){ds:ZL}(hd:0<ds.length)(i0:Int){ns:ZD}(hn:0<ns.length)(W1 A2:Sl):∀(ss:ZD) (i:Int) (XB:ZX) (nm:Sl) (M:Nat),j9 4 M XB->M+ss.length<64 ->
  (∀(j:Int) (Vz:ZX) (pf:Sl),j9 4 (M+ss.length) Vz->(∀k,k∈XB.map (·.1)\/k∈ss.map Sum.inr->k∈Vz.map (·.1))->D.nx [.o (Zj ds j),W1,A2,.f (.lst (ns.map .str)),.o (.dct Vz),pf,.no,.no]) ->
  Gm (fun x s D=>on (asg (.v 5) x s) fun s1=>wS w (Vh [.o (Zj ds i0)]) (lp 0 Y5) s1 D) (ss.map .str) [.o (Zj ds i),W1,A2,.f (.lst (ns.map .str)),.o (.dct XB),nm,.no,.no] D
 | [],i,XB,nm,M,f,hM,q=>q i XB nm f fun k m=>m.resolve_right (by simp)
 | x::ss,i,XB,nm,M,f,hM,q=>by
  refine shapeP hS hd hn fun t j g=>?_;obtain⟨f',hk⟩:=f.put (x:=x) (Yi.of g);rw[Gs]at hM;refine Js (a:=T.dct (Vn XB (.inr x) t)) (by have:=f.2.1;have:=sizeLine_eq;omega) ?_
  exact Zjw hS hd i0 hn W1 A2 ss j _ _ (M+1) f' (by omega) fun j' Vz pf f2 h2=>q j' Vz pf (by rw[Gs,show M+(ss.length+1)=M+1+ss.length by omega];exact f2) fun k m=>by
   rcases m with m | m
   .exact h2 k (.inl (hk k (.inl m)))
   .rw[Gh]at m;rcases Y3.mp m with rfl | m
    .exact h2 _ (.inl (hk _ (.inr rfl)))
    .exact h2 k (.inr m)
def Pb(C:Cs):Prop:=∀(N:Nat) (XB:ZX),D4 N XB->∀(ds:ZL) (i:Int),0<ds.length->∀b:Bool,∃ps j,C "_law_parts" [.o (Zj ds i),.o (.dct XB),.f (.bl b)]=some (.f (.tup ps),[Zj ds j,.dct XB])/\Yo 4 (if b then 1 else 0) ps
theorem mn{C:Cs}(h:Pb C){N:Nat}{XB:ZX}(f:D4 N XB){ds:ZL}{i:Int}{b:Bool}{Q:Sl×ZZ->Prop}(hd:0<ds.length)(q:∀ps j,Yo 4 (if b then 1 else 0) ps->Q (.f (.tup ps),[Zj ds j,.dct XB])):on (C "_law_parts" [.o (Zj ds i),.o (.dct XB),.f (.bl b)]) Q:=by
 obtain⟨ps,j,e,g⟩:=h N XB f ds i hd b;rw[e];exact q ps j g
theorem tq{w:W}{D:En}(hT:Ve w.C)(hP:Pb w.C){ds:ZL}(hd:0<ds.length)(i0:Int)(W1 A2 N3:Sl):∀(ss:ZD) (i:Int) (XB:ZX) (nm s6 s7:Sl),D4 4 XB->(∀x∈ss,(Sum.inr x:Key)∈XB.map (·.1)) ->
  (∀(j:Int) (Vz:ZX) (pf s6' s7':Sl),D4 4 Vz->Vz.map (·.1)=XB.map (·.1)->D.nx [.o (Zj ds j),W1,A2,N3,.o (.dct Vz),pf,s6',s7']) ->
  Gm (fun x s D=>on (asg (.v 5) x s) fun s1=>wS w (Vh [.o (Zj ds i0)]) (lp 1 Y5) s1 D) (ss.map .str) [.o (Zj ds i),W1,A2,N3,.o (.dct XB),nm,s6,s7] D
 | [],i,XB,nm,s6,s7,f,hs,q=>q i XB nm s6 s7 f rfl
 | x::ss,i,XB,nm,s6,s7,f,hs,q=>by
  have sl:=sizeLine_eq;have hx:=hs x Vt;obtain⟨t,ht⟩:=get_mem hx;have g:=f.2.2.2 _ _ ht;refine Zm (a:=Sl.f t) (by show (Vx XB (.inr x)).map _=_;rw[ht];rfl) ?_;refine Z6 hT hd (by omega) fun r r0 r1=>?_;refine D9 r0 r1 fun st mst=>?_
  have Bo:Ac 4 st:=by
   simp only[Y3,V4,or_false]at mst;rcases mst with rfl | rfl
   .exact⟨[],rfl,Ma _⟩
   .exact⟨[500],rfl,by decide⟩
  have put:∀v j,Yi 4 v->Gm (fun x s D=>on (asg (.v 5) x s) fun s1=>wS w (Vh [.o (Zj ds i0)]) (lp 1 Y5) s1 D) (ss.map .str) [.o (Zj ds j),W1,A2,N3,.o (.dct (Vn XB (.inr x) v)),.f (.str x),.f t,.f st] D:=fun v j gv =>
   tq hT hP hd i0 W1 A2 N3 ss j _ _ _ _ (f.put hx gv) (fun y my=>by rw[Jl hx];exact hs y (Vf _ my)) fun j' Vz a b c f' e'=>q j' Vz a b c f' (by rw[e',Jl hx])
  have same:∀j,Gm (fun x s D=>on (asg (.v 5) x s) fun s1=>wS w (Vh [.o (Zj ds i0)]) (lp 1 Y5) s1 D) (ss.map .str) [.o (Zj ds j),W1,A2,N3,.o (.dct XB),.f (.str x),.f t,.f st] D:=fun j =>
   tq hT hP hd i0 W1 A2 N3 ss j _ _ _ _ f (fun y my=>hs y (Vf _ my)) q
  have hz:XB.length<sizeLine:=by have:=f.2.2.1;omega
  cases g with
  | whole lo hi=>exact same _
  | truth=>exact same _
  | text n h=>exact same _
  | row y n=>exact same _
  | map y n=>exact same _
  | record ps s h h' =>
   refine mn hP f hd fun ps' j hp=>?_;refine Js (a:=T.dct (Vn XB (.inr x) (.tup [.str "record",.tup ps',st]))) hz ?_;exact put _ _ (.record _ _ hp Bo)
  | choice b ps s h h' =>
   refine mn hP f hd fun ps' j hp=>?_;refine Js (a:=T.dct (Vn XB (.inr x) (.tup [.str "choice",.tup ps',st,.bl b]))) hz ?_;exact put _ _ (.choice _ _ _ hp Bo)
theorem zw{ts:ZZ}{lo hi:ZR}:(Zn ts lo hi).length<=ts.length:=by
 unfold Zn;rw[pz,List.length_drop];omega
theorem ix0(n:Str)(nr:ZD):(O7 (.lst ((n::nr).map .str)) (.int 0)).map Sl.f=some (.f (.str n)):=by
 show (Jd _ _).map _=_;unfold Jd Qr;rw[if_pos (by omega),if_pos (by rw[Z4,Gs];omega)]
 rfl
theorem make0'{w:W}{D:En}(hS:Wj w.C){ds:ZL}(hd:0<ds.length)(i0:Int){ns:ZD}(hn:0<ns.length)(W1 A2:Sl)(names:ZZ)(e:names=ns.map .str)(i:Int)(h64:ns.length<64)
  (q:∀(j:Int) (Vz:ZX) (pf:Sl),j9 4 (0+ns.length) Vz->(∀k,k∈([]:ZX).map (·.1)\/k∈ns.map Sum.inr->k∈Vz.map (·.1))->D.nx [.o (Zj ds j),W1,A2,.f (.lst (ns.map .str)),.o (.dct Vz),pf,.no,.no]) :
  Gm (fun x s D=>on (asg (.v 5) x s) fun s1=>wS w (Vh [.o (Zj ds i0)]) (lp 0 Y5) s1 D) names [.o (Zj ds i),W1,A2,.f (.lst names),.o (.dct []),.no,.no,.no] D:=by
 subst e;exact Zjw hS hd i0 hn W1 A2 ns i [] .no 0 ⟨⟨[],rfl⟩,Z5 _,fun k t e=>by cases e⟩ (by omega) q
theorem Zz5{w:W}(hT:Ve w.C)(hS:Wj w.C)(hL:Mh w.C)(hP:Pb w.C)(ds:ZL)(i:Int)(hd:0<ds.length):wF Gx w [.o (Zj ds i)] fun r=>∃x XB j,r=(.f (.tup [.str x,.dct XB]),[Zj ds j])/\D4 4 XB:=by
  have sl:=sizeLine_eq;refine Z6 hT hd (by omega) fun a a0 a1=>?_;have l1:=zw (ts:=Ug.map .str) (lo:=some a) (hi:=none);have l2:=zw (ts:=Ug.map .str) (lo:=none) (hi:=some a);have l8:(Ug.map T.str).length=8:=rfl;refine Js (a:=Sl.o (.lst (Zn (Ug.map .str) (some a) none++Zn (Ug.map .str) none (some a)))) (show (Zn (Ug.map .str) (some a) none).length+(Zn (Ug.map .str) none (some a)).length<=sizeLine by omega) ?_;refine Z6 hT hd (by omega) fun r r0 r1=>?_;obtain⟨n0,n64,nd⟩:=di a r a0 a1 r0 r1;generalize E5:Ez (Ez Ug (some a) none++Ez Ug none (some a)) none (some (2+r))=ns at n0 n64 nd;refine make0' hS hd i n0 (.o (.lst (Ug.map .str))) (.f (.int a)) (Zn (Zn (Ug.map .str) (some a) none++Zn (Ug.map .str) none (some a)) none (some (2+r))) (by rw[Q4,Q4, <-Am,Q4,E5]) _ n64 fun j XB nm f hk=>?_
  obtain⟨n,nr,rfl⟩:∃n nr,ns=n::nr:=by
    cases ns with
    | nil=>simp at n0
    | cons n nr=>exact⟨n,nr,rfl⟩
  have hin:∀x∈n::nr,(Sum.inr x:Key)∈XB.map (·.1):=fun x m=>hk _ (.inr (List.mem_map_of_mem m));have h0:=hin n Vt;have hF:D4 4 XB:=⟨f.1,by have:=List.length_pos_of_mem h0;simpa using this,by have:=f.2.1;omega,f.2.2⟩;obtain⟨t,ht⟩:=get_mem h0;have g:=hF.2.2.2 _ _ ht
  have fin:∀Vz j',D4 4 Vz->Vz.map (·.1)=XB.map (·.1)->∀pf,Gm (fun x s D=>on (asg (.v 5) x s) fun s1=>wS w (Vh [.o (Zj ds i)]) (lp 1 Y5) s1 D) ((n::nr).map .str) [.o (Zj ds j'),.o (.lst (Ug.map .str)),.f (.int a),.f (.lst ((n::nr).map .str)),.o (.dct Vz),pf,.no,.no]
      ⟨fun p=>wS w (Vh [.o (Zj ds i)]) (.seq (.ret (.tup (.cons (.pr .ix (.cons (.v 3) (.cons (.k (.int 0)) .nil))) (.cons (.v 4) .nil)))) .nil) p ⟨fun p=>on (PV.fin [.o (Zj ds i)] (.f .non) p) fun r=>∃x XB j,r=(.f (.tup [.str x,.dct XB]),[Zj ds j])/\D4 4 XB,fun r p=>on (PV.fin [.o (Zj ds i)] r p) fun r=>∃x XB j,r=(.f (.tup [.str x,.dct XB]),[Zj ds j])/\D4 4 XB,fun _=>False,fun _=>False⟩,
       fun r p=>on (PV.fin [.o (Zj ds i)] r p) fun r=>∃x XB j,r=(.f (.tup [.str x,.dct XB]),[Zj ds j])/\D4 4 XB,fun _=>False,fun _=>False⟩:=fun Vz j' f' e' pf=>by
    refine tq hT hP hd i _ _ _ (n::nr) j' Vz _ _ _ f' (fun x m=>by rw[e'];exact hin x m) fun j2 kvs2 nm2 s6 s7 f2 e2=>?_;refine Zm (ix0 n nr) ?_;exact⟨n,kvs2,j2,rfl,f2⟩
  refine Z6 hT hd (by omega) fun c c0 c1=>?_;refine Zc (b:=decide (0<c)) (fun _=>?_) fun _=>?_
  . refine Zm (ix0 n nr) ?_
    refine Zm (a:=Sl.f t) (by show (Vx XB (.inr n)).map _=_;rw[ht];rfl) ?_;refine Uj hL g ?_;cases C6 t with
    | true =>
      refine Zm (o:=(O7 (.lst ((n::nr).map .str)) (.int 0)).map Sl.f) (a:=Sl.f (.str n)) (ix0 n nr) ?_;refine Js (a:=T.dct (Vn XB (.inr n) (.tup [.str "record",.tup [],.tup []]))) (by have:=hF.2.2.1;omega) ?_;exact fin _ _ (hF.put h0 (.record [] (.tup []) ⟨Ma _,List.Pairwise.nil,fun t m=>absurd m V4⟩ ⟨[],rfl,Ma _⟩)) (Jl h0) _
    | false=>exact fin _ _ hF rfl _
  . exact fin _ _ hF rfl _
theorem Zqt{w:W}(hL:Mh w.C){N:Nat}{t:T}(g:Yi N t):wF Gj w [.f t] fun x=>∃l,x=(.f (.tup l),[]):=by
 cases g with
 | whole lo hi=>exact⟨_,rfl⟩
 | truth=>exact⟨_,rfl⟩
 | text n h=>exact⟨_,rfl⟩
 | row x n=>refine Uj hL (.row (N:=N) x n) ?_;exact⟨_,rfl⟩
 | map x n=>refine Uj hL (.map (N:=N) x n) ?_;exact⟨_,rfl⟩
 | record ps s h h'=>refine Uj hL (.record ps s h h') ?_;exact⟨_,rfl⟩
 | choice b ps s h h'=>refine Uj hL (.choice b ps s h h') ?_;exact⟨_,rfl⟩
theorem Ac.mono{N M:Nat}{t:T}(h:Ac N t)(l:N<=M):Ac M t:=let ⟨z,e,q⟩:=h;⟨z,e,U0 q l⟩
theorem Yo.mono{N M n:Nat}{ps:ZZ}(h:Yo N n ps)(l:N<=M):Yo M n ps:=⟨U0 h.1 l,h.2⟩
theorem Yi.mono{N M:Nat}{t:T}(h:Yi N t)(l:N<=M):Yi M t:=by
 cases h with
 | whole lo hi=>exact .whole _ _
 | truth=>exact .truth
 | text n h=>exact .text n h
 | row x n=>exact .row _ _
 | map x n=>exact .map _ _
 | record ps s h h'=>exact .record _ _ (h.mono l) (h'.mono l)
 | choice b ps s h h'=>exact .choice _ _ _ (h.mono l) (h'.mono l)
theorem D4.mono{N M:Nat}{XB:ZX}(h:D4 N XB)(l:N<=M):D4 M XB:=⟨h.1,h.2.1,h.2.2.1,fun k t e=>(h.2.2.2 k t e).mono l⟩
theorem Sk{n:Nat}:∀{ps:ZZ},(∀t∈ps,Pp n t)->Bi ps=some (ps.map num)
 | [],_=>rfl
 | t::ps,h=>by
  obtain⟨i,x,y,l,rfl,_⟩:=h t Vt;show (Bi ps).map (i::·)=_;rw[Sk fun t m=>h t (Vf _ m)]
  rfl
theorem ak{N n:Nat}{ps:ZZ}(h:Yo N n ps)(hN:N<64):∃us,xk ps=some us/\Yo N n us:=by
 have hh:=Sk h.2.2
 have pm:((SRT.C0 ((ps.map num).zip ps)).map (·.2)).Perm ps:=by
  have:=(SRT.Dk ((ps.map num).zip ps)).map (·.2);rw[List.map_snd_zip (by rw[Z4];omega)]at this;exact this
 refine⟨(SRT.C0 ((ps.map num).zip ps)).map (·.2), ?_, ?_, ?_,fun t m=>h.2.2 t (pm.mem_iff.mp m)⟩
 .unfold xk;rw[hh];show (if _ then _ else _)=_;rw[if_pos ⟨h.2.1,by have:=h.1;omega⟩]
 .rw[pm.length_eq];exact h.1
 .exact((pm.map num).nodup_iff).mpr h.2.1
theorem numsC{n:Nat}{ps:ZZ}(h:∀t∈ps,Pp n t){w:W}{Q:ZZ->P->Prop}(q:∀s0,Q ((ps.map num).map .int) [s0]) :
  D5 (fun x s K=>on (asg (.v 0) x s) fun s1=>if isNil .nil=true then wE w (.pr .ix (.cons (.v 0) (.cons (.k (.int 0)) .nil))) s1 fun r s2=>Oe r fun y=>K (some y) s2
   else wE w .nil s1 fun r s2=>wx r fun b=>if b=true then wE w (.pr .ix (.cons (.v 0) (.cons (.k (.int 0)) .nil))) s2 fun r s3=>Oe r fun y=>K (some y) s3 else K none s2) ps [] [.no] Q:=by
 refine Cu (fun r acc s=>(∃s0,s=[s0])/\(∀t∈r,Pp n t)/\acc++(r.map num).map .int=(ps.map num).map .int) ⟨⟨_,rfl⟩,h,rfl⟩ (fun x r acc s K hi ky _=>?_) fun acc s hi=>?_
 .obtain⟨⟨s0,e⟩,h,ea⟩:=hi;subst e;obtain⟨j,a,b,l,rfl,_⟩:=h x Vt;refine ixHd ?_;exact ky (.int j) _ ⟨⟨_,rfl⟩,fun t m=>h t (Vf _ m),by rw[XX];exact ea⟩
 .obtain⟨⟨s0,e⟩,_,ea⟩:=hi;subst e;rw[List.map_nil,List.map_nil,XQ]at ea;rw[ea];exact q s0
theorem Yo.perm{N n:Nat}{ps us:ZZ}(h:Yo N n ps)(p:us.Perm ps):Yo N n us:=⟨by rw[p.length_eq];exact h.1,((p.map num).nodup_iff).mpr h.2.1,fun t m=>h.2.2 t (p.mem_iff.mp m)⟩
theorem Yo.less{N n:Nat}{ps us:ZZ}(h:Yo N n ps)(p:us.Sublist ps):Yo N n us:=⟨U0 p.length_le h.1,(p.map num).nodup h.2.1,fun t m=>h.2.2 t (p.mem m)⟩
theorem Yo.swap{N n:Nat}{ps as bs:ZZ}{t:T}(h:Yo N n ps)(e:ps=as++t::bs){us:ZZ}(h1:us.length<=1)(h2:∀u∈us,Pp n u/\num u=num t):Yo N n (as++us++bs):=by
 subst e
 match us,h1,h2 with
 | [],_,_=>rw[XQ];exact h.less (by simp)
 | [u],_,h2 =>
  obtain⟨g1,g2⟩:=h2 u (by simp);refine⟨by have:=h.1;simp at this ⊢;omega, ?_,fun x m=>?_⟩
  .have:=h.2.1;simp only[Am,Gh,List.map_nil,XX,List.singleton_append]at this ⊢;rw[g2];exact this
  .simp only[XX,List.singleton_append,Cb,Y3]at m;rcases m with m | rfl | m
   .exact h.2.2 x (by simp[m])
   .exact g1
   .exact h.2.2 x (by simp[m])
 | _::_::_,h1,_=>simp at h1
theorem Yo.app{N n:Nat}{ps us:ZZ}(h:Yo N n ps){m:Int}(hm:∀t∈ps,num t≠m)(h1:us.length<=1)(h2:∀t∈us,Pp n t/\num t=m):Yo (N+1) n (ps++us):=by
 refine⟨by rw[Gg];have:=h.1;omega, ?_,fun t mt=>?_⟩
 .match us,h1,h2 with
  | [],_,_=>rw[XQ];exact h.2.1
  | [t],_,h2 =>
   rw[Am,List.nodup_append];refine⟨h.2.1,by simp,fun a ma b mb=>?_⟩;obtain⟨u,mu,rfl⟩:=Gr.mp ma;have eb:b=num t:=by simpa using mb
   have:=hm u mu;rw[eb,(h2 t (by simp)).2];exact this
  | _::_::_,h1,_=>simp at h1
 .rcases Cb.mp mt with mt | mt
  .exact h.2.2 t mt
  .exact(h2 t mt).1
set_option maxHeartbeats 1000000 in
theorem m8{w:W}(hT:Ve w.C)(hP:Ei w.C)(hL:Mh w.C){N:Nat}(hN:N<60){XB:ZX}(f:D4 N XB){t:T}(g:Yi N t)(ds:ZL)(i:Int)(hd:0<ds.length) :
  wF Yc w [.o (Zj ds i),.o (.dct XB),.f t] fun r=>∃t' j,r=(.f t',[Zj ds j,.dct XB])/\Yi (N+1) t':=by
 refine Mg rfl fun D rt rn=>?_;refine Z6 hT hd (by omega) fun a a0 a1=>?_;refine D9 a0 a1 fun st mst=>?_
 obtain⟨s,rfl⟩:∃s:Int,st=.int s:=by
  simp only[Y3,V4,or_false]at mst;rcases mst with rfl | rfl | rfl<;>exact⟨_,rfl⟩
 refine Z6 hT hd (by omega) fun b b0 b1=>?_;show wS w _ _ [.o (Zj ds (i+1+1)),.o (.dct XB),.f t,.f (.int s),.f (.int b),.no,.no,.no,.no,.no,.no,.no] _;have g0:=g;cases g
 case whole lo hi =>
  refine D9 (Int.emod_nonneg _ (by omega)) (Int.emod_lt_of_pos _ (show (0:Int)<3 by omega)) fun x mx=>?_;refine rt _ _ ?_;simp only[Y3,V4,or_false]at mx;rcases mx with rfl | rfl | rfl
  .exact⟨_,_,rfl,.whole _ _⟩
  .exact⟨_,_,rfl,.whole _ _⟩
  .exact⟨_,_,rfl,.truth⟩
 case truth =>
  refine D9 b0 b1 fun x mx=>?_;refine rt _ _ ?_;simp only[Y3,V4,or_false]at mx;rcases mx with rfl | rfl | rfl | rfl
  all_goals exact⟨_,_,rfl,.whole _ _⟩
 case text n h =>
  refine Uj hL g0 ?_;refine rt _ _ ?_;exact⟨_,_,rfl,.text _ (by split<;>omega)⟩
 case row x n =>
  refine Uj hL g0 ?_;refine rt _ _ ?_;exact⟨_,_,rfl,.row _ _⟩
 case map x n =>
  refine Uj hL g0 ?_;refine rt _ _ ?_;exact⟨_,_,rfl,.map _ _⟩
 all_goals
  rename_i ps s' h hs
  refine Uj hL g0 ?_;obtain⟨zs,rfl,hz⟩:=hs;have sl:=sizeLine_eq;have l1:=h.1;refine Z6 hT hd (by omega) fun c c0 c1=>?_;refine mr hP f hd (by decide) fun ms j m1 m2=>?_;show wS w _ _ [.o (Zj ds j),.o (.dct XB),.f _,.f (.int s),.f (.int b),.no,.no,.o (.lst ps),.f (.int c),.o (.lst ms),.no,.no] _;rcases Az b0 b1 with rfl | rfl | rfl | rfl
  .refine numsC h.2.2 fun s0=>?_;refine notinP ?_;refine Zc (b:=!((ps.map num).any fun z=>decide (z=7))) (fun h7=>?_) fun h7=>?_
   .refine Zz2 ?_;refine Zc (b:=!(zs.any fun z=>decide (z=7))) (fun h8=>?_) fun h8=>?_
    .show wS w _ _ [.o (Zj ds j),.o (.dct XB),.f _,.f (.int s),.f (.int 0),.no,.no,.f (.lst ps),.f (.int c),.o (.lst ms),.no,.no] _;obtain⟨us,e1,e2⟩:=ak (h.app (m:=7) (fun t mt=>any_ne h7 _ (List.mem_map_of_mem mt)) m1 m2) (by omega);refine Js (a:=Sl.o (.lst (ps++ms))) (by omega) ?_;refine srtP e1 ?_;refine rt _ _ ?_
     first
      | exact⟨_,_,rfl,.record _ _ e2 ⟨zs,rfl,by omega⟩⟩
      | exact⟨_,_,rfl,.choice _ _ _ e2 ⟨zs,rfl,by omega⟩⟩
    .show wS w _ _ [.o (Zj ds j),.o (.dct XB),.f _,.f (.int s),.f (.int 0),.no,.no,.f (.lst ps),.f (.int c),.o (.lst ms),.no,.no] _;refine rt _ _ ?_;exact⟨_,_,rfl,by first | exact g0.mono (by omega) | exact .choice _ _ _ (h.mono (by omega)) ⟨zs,rfl,by omega⟩⟩
   .show wS w _ _ [.o (Zj ds j),.o (.dct XB),.f _,.f (.int s),.f (.int 0),.no,.no,.f (.lst ps),.f (.int c),.o (.lst ms),.no,.no] _;refine rt _ _ ?_;exact⟨_,_,rfl,by first | exact g0.mono (by omega) | exact .choice _ _ _ (h.mono (by omega)) ⟨zs,rfl,by omega⟩⟩
  .refine Zc (b:=decide (c<(ps.length:Nat))) (fun hc=>?_) fun hc=>?_
   .have hc:=Pa hc;refine popP c0 hc fun x ex mx=>?_;obtain⟨i1,nx,ny,l,rfl,hl,_⟩:=h.2.2 x mx;have e2:Yo (N+1) _ (ps.eraseIdx c.toNat):=(h.less (List.eraseIdx_sublist ps c.toNat)).mono (by omega);have hz2:(SRT.Bb (zs++[i1])).length<=N+1:=by rw[(SRT.V5 _).length_eq,Gg,ZI];omega
    refine ixHd ?_;refine Js (a:=Sl.f (.tup (zs.map .int++[.int i1]))) (show (zs.map T.int).length+1<=sizeLine by rw[Z4];omega) ?_;refine A7 (us:=(SRT.Bb (zs++[i1])).map .int) (by rw[show zs.map T.int++[T.int i1]=(zs++[i1]).map .int by simp,srt_ints _ (by rw[Gg,ZI];omega)]) ?_;refine rt _ _ ?_
    first
     | exact⟨_,_,rfl,.record _ _ e2 ⟨_,rfl,hz2⟩⟩
     | exact⟨_,_,rfl,.choice _ _ _ e2 ⟨_,rfl,hz2⟩⟩
   .refine rt _ _ ?_;exact⟨_,_,rfl,by first | exact g0.mono (by omega) | exact .choice _ _ _ (h.mono (by omega)) ⟨zs,rfl,by omega⟩⟩
  .refine Zc (b:=decide (c<(ps.length:Nat))) (fun hc=>?_) fun hc=>?_
   .have hc:=Pa hc;obtain⟨x,ex,ex',mx⟩:=Ax (xs:=ps) c0 hc;obtain⟨i1,nx,ny,l,e,hl,hnx,_⟩:=h.2.2 x mx;have l2:=Of nx;subst e;refine O8 ex ?_;refine ixHd ?_;refine O8 ex ?_;refine ixSn ?_;refine Js (a:=Sl.f (.str (Txt.slice nx (some 1) none))) (show nx.length<=sizeLine by omega) ?_;refine Js (a:=Sl.f (.str ("x" ++ Txt.slice nx (some 1) none))) (show 1+(Txt.slice nx (some 1) none).length<=sizeLine by omega) ?_;refine mr hP f hd (by rw[Str.length_append];show 1+_<=10;omega) fun ms2 j2 m21 m22=>?_;show wS w _ _ [.o (Zj ds j2),.o (.dct XB),.f _,.f (.int s),.f (.int 2),.no,.no,.o (.lst ps),.f (.int c),.o (.lst ms),.no,.o (.lst ms2)] _
    have e2':∀n,Yo N n ps->(∀u∈ms2,Pp n u/\num u=i1)->Yo (N+1) n (Zn ps none (some c)++ms2++Zn ps (some (c+1)) none):=fun n h m22=>by
     rw[B5 c0 (by omega),G5 (by omega) (by omega)];refine(h.swap (t:=.tup (.int i1::.str nx::.str ny::l)) (as:=ps.take c.toNat) (bs:=ps.drop (c+1).toNat) ?_ m21 fun u mu=>?_).mono (by omega)
     .rw[show (c+1).toNat=c.toNat+1 by omega];obtain⟨hj1,hj2⟩:=Bz.mp ex';rw[<-hj2, <-List.drop_eq_getElem_cons hj1,List.take_append_drop]
     .exact m22 u mu
    have e2:=e2' _ h m22;have k1:(Zn ps none (some c)).length+ms2.length<=sizeLine:=by rw[B5 c0 (by omega),pz];omega
    have k2:(Zn ps none (some c)++ms2).length+(Zn ps (some (c+1)) none).length<=sizeLine:=by rw[B5 c0 (by omega),G5 (by omega) (by omega),Gg,pz,List.length_drop];omega
    refine Js (a:=Sl.o (.lst (Zn ps none (some c)++ms2))) k1 ?_;refine Js (a:=Sl.o (.lst (Zn ps none (some c)++ms2++Zn ps (some (c+1)) none))) k2 ?_;refine rt _ _ ?_
    first
     | exact⟨_,_,rfl,.record _ _ e2 ⟨zs,rfl,by omega⟩⟩
     | exact⟨_,_,rfl,.choice _ _ _ e2 ⟨zs,rfl,by omega⟩⟩
   .refine rt _ _ ?_;exact⟨_,_,rfl,by first | exact g0.mono (by omega) | exact .choice _ _ _ (h.mono (by omega)) ⟨zs,rfl,by omega⟩⟩
  .refine rt _ _ ?_;exact⟨_,_,rfl,by first | exact g0.mono (by omega) | exact .choice _ _ _ (h.mono (by omega)) ⟨zs,rfl,by omega⟩⟩
def sf(C:Cs):Prop:=∀{N:Nat},N<60->∀{XB:ZX},D4 N XB->∀{t:T},Yi N t->∀(ds:ZL) (i:Int),0<ds.length->on (C "_law_other_shape" [.o (Zj ds i),.o (.dct XB),.f t]) fun r=>∃t' j,r=(.f t',[Zj ds j,.dct XB])/\Yi (N+1) t'
def Zjo(C:Cs):Prop:=∀{N:Nat} {t:T},Yi N t->on (C "_law_base" [.f t]) fun x=>∃l,x=(.f (.tup l),[])
theorem Pp.one{t:T}(h:Pp 1 t):∃(i:Int) (x y:Str) (v:ZZ),t=.tup [.int i,.str x,.str y,.tup v]/\x.length<=10:=by
 obtain⟨i,x,y,l,rfl,hl,hx,hv⟩:=h
 match l,hl,hv with
 | [u],_,hv =>
  obtain⟨v,rfl⟩:=hv u (by simp);exact⟨i,x,y,v,rfl,hx⟩
theorem zf{ss:ZD}{x:Str}(h:(ss.any fun y=>decide (y=x))=true):x∈ss:=by
 obtain⟨y,m,e⟩:=XZ.mp h;rw[<-Pa e];exact m
theorem Qm{XB:ZX}{k:Key}{t:T}(h:Vx XB k=some t):k∈XB.map (·.1):=by
 unfold Vx at h;obtain⟨p,hp,_⟩:=Yj.mp h;have:=List.find?_some hp;exact Gr.mpr ⟨p,List.mem_of_find?_eq_some hp,Pa this⟩
set_option maxHeartbeats 1000000 in
theorem xg{w:W}(hT:Ve w.C)(hO:sf w.C)(hB:Zjo w.C){N:Nat}(hN:N<50){x:Str}{XB:ZX}(f:D4 N XB)(ds:ZL)(i:Int)(hd:0<ds.length) :
  wF V1 w [.o (Zj ds i),.f (.tup [.str x,.dct XB])] fun r=>∃Vz j,r=(.f (.tup [.str x,.dct Vz]),[Zj ds j])/\D4 (N+3) Vz:=by
 have sl:=sizeLine_eq;refine Mg rfl fun D rt _=>?_;refine Z6 hT hd (by omega) fun m m0 m1=>?_;refine rngP (by omega) (by omega) ?_;obtain⟨us,e1,e2,e3⟩:=f.srt;refine Cu (fun r acc s=>∃k0 j ss,s=[k0,.o (.dct XB),.o (Zj ds j)]/\acc=ss.map .str/\ss.length+r.length<=3/\∀y∈ss,(.inr y:Key)∈XB.map (·.1)) ⟨.no,_,[],rfl,rfl,by rw[Z4,XJ];show 0+_<=3;omega,fun y m=>absurd m V4⟩ (fun k r acc s K hi ky _=>?_) fun acc s hi=>?_
 .obtain⟨k0,j,ss,rfl,rfl,hl,hs⟩:=hi;refine A7 e1 ?_;refine Z6 hT hd (by have:=f.2.1;omega) fun c c0 c1=>?_;refine D9 c0 (by rw[Z4,e2];exact c1) fun u mu=>?_;obtain⟨y,my,rfl⟩:=Gr.mp mu;refine ky (.str y) _ ⟨_,_,ss++[y],rfl,by rw[Am];rfl,by rw[Gg,ZI];rw[Gs]at hl;omega,fun z mz=>?_⟩;rcases Cb.mp mz with mz | mz
  .exact hs z mz
  .cases B8.mp mz;obtain⟨t,ht,_⟩:=e3 y my;exact Qm ht
 .obtain⟨k0,j,ss,rfl,rfl,hl,hs⟩:=hi;show wS w _ _ [.o (Zj ds j),.f (.tup [.str x,.dct XB]),.o (.dct XB),.o (.lst (ss.map .str)),.no,.no,.no] _
  refine W9 (fun rest p=>∃M j kv rs nm,p=[.o (Zj ds j),.f (.tup [.str x,.dct XB]),.o (.dct kv),.f (.lst (ss.map .str)),nm,.no,.no]/\D4 M kv/\M+rest.length<=N+3/\kv.map (·.1)=XB.map (·.1)/\rest=rs.map .str/\∀y∈rs,(.inr y:Key)∈XB.map (·.1))
   ⟨N,j,XB,ss,_,rfl,f,by rw[Z4];simp at hl;omega,rfl,rfl,hs⟩ (fun u rest p D' hi nx _=>?_) fun p hi=>?_
  .obtain⟨M,j,kv,rs,nm,rfl,fM,hM,hk,er,hr⟩:=hi
   match rs,er,hr with
   | y::rs,er,hr =>
    rw[Gh]at er
    injection er with e4 e5
    subst e4 e5;rw[Gs]at hM;have hy:=hr y Vt;rw[<-hk]at hy;obtain⟨t,ht⟩:=get_mem hy;refine t9 ht ?_;refine Ze (hO (by omega) fM (fM.2.2.2 _ _ ht) ds j hd) fun r hr'=>?_;obtain⟨t',j',rfl,g'⟩:=hr';refine Js (a:=T.dct (Vn kv (.inr y) t')) (by have:=fM.2.2.1;omega) ?_;exact nx _ ⟨M+1,j',_,rs,_,rfl,(fM.mono (by omega)).put hy g',by omega,(Jl hy).trans hk,rfl,fun z mz=>hr z (Vf _ mz)⟩
  .obtain⟨M,j,kv,rs,nm,rfl,fM,hM,hk,er,hr⟩:=hi;have fM:=fM.mono (show M<=N+3 by simpa using hM);obtain⟨vs,e1,e2,e3⟩:=fM.srt;refine A7 e1 ?_
   refine W9 (fun rest p=>∃t7 rs nm fl fd,p=[.o (Zj ds j),.f (.tup [.str x,.dct XB]),.o (.dct t7),.f (.lst (ss.map .str)),nm,fl,fd]/\D4 (N+3) t7/\t7.map (·.1)=XB.map (·.1)/\rest=rs.map .str/\∀y∈rs,(.inr y:Key)∈XB.map (·.1))
    ⟨kv,vs,_,_,_,rfl,fM,hk,rfl,fun y my=>?_⟩ (fun u rest p D' hi nx _=>?_) fun p hi=>?_
   .obtain⟨t,ht,_⟩:=e3 y my;rw[<-hk];exact Qm ht
   .obtain⟨t7,rs,nm,fl,fd,rfl,fM,hk,er,hr⟩:=hi
    match rs,er,hr with
    | y::rs,er,hr =>
     rw[Gh]at er
     injection er with e4 e5
     subst e4 e5;have hy:=hr y Vt;rw[<-hk]at hy;obtain⟨t,ht⟩:=get_mem hy;have g:=fM.2.2.2 _ _ ht;have done:=nx _ ⟨t7,rs,.f (.str y),fl,fd,rfl,fM,hk,rfl,fun z mz=>hr z (Vf _ mz)⟩;refine t9 ht ?_;cases g with
     | whole lo hi=>exact done
     | truth=>exact done
     | text n h=>exact done
     | row y n=>exact done
     | map y n=>exact done
     | choice b ps s h h'=>exact done
     | record ps s h h' =>
      show wS w _ _ [.o (Zj ds j),.f (.tup [.str x,.dct XB]),.o (.dct t7),.f (.lst (ss.map .str)),.f (.str y),fl,fd] _;refine t9 ht ?_
      refine W9 (fun rest p=>∃acc fd,p=[.o (Zj ds j),.f (.tup [.str x,.dct XB]),.o (.dct t7),.f (.lst (ss.map .str)),.f (.str y),.o (.lst acc),fd]/\acc.map num++rest.map num=ps.map num/\(∀t∈acc,Pp 1 t)/\∀t∈rest,Pp 1 t)
       ⟨[],fd,rfl,rfl,fun t m=>absurd m V4,h.2.2⟩ (fun u rest p D2 hi nx2 _=>?_) fun p hi=>?_
      .obtain⟨acc,fd,rfl,ha,h1,h2⟩:=hi;obtain⟨n,nm,of,v,rfl,hx⟩:=(h2 u Vt).one
       have hl:acc.length<sizeLine:=by
        have:=congrArg List.length ha;simp at this;have:=h.1;omega
       have fin2:∀l,D2.nx [.o (Zj ds j),.f (.tup [.str x,.dct XB]),.o (.dct t7),.f (.lst (ss.map .str)),.f (.str y),.o (.lst (acc++[.tup [.int n,.str nm,.str of,.tup l]])),.f (.tup [.int n,.str nm,.str of,.tup l])]:=fun l =>
        nx2 _ ⟨_,_,rfl,by rw[Am,XX];exact ha,fun t mt=>by
         rcases Cb.mp mt with mt | mt
         .exact h1 t mt
         .cases B8.mp mt;exact⟨n,nm,of,[.tup l],rfl,rfl,hx,fun u mu=>⟨l,by cases B8.mp mu;rfl⟩⟩,fun t mt=>h2 t (Vf _ mt)⟩
       refine Zc (b:=!v.isEmpty) (fun _=>?_) fun _=>?_
       .refine insP ?_;refine Zc (b:=ss.any fun z=>decide (z=of)) (fun hin=>?_) fun _=>?_
        .have hof:=hs of (zf hin);rw[<-hk]at hof;obtain⟨t2,ht2⟩:=get_mem hof;refine t9 ht2 ?_;refine Ze (hB (fM.2.2.2 _ _ ht2)) fun r hr'=>?_;obtain⟨l,rfl⟩:=hr';refine W3 hl ?_;exact fin2 l
        .refine W3 hl ?_;exact fin2 v
       .refine W3 hl ?_;exact fin2 v
      .obtain⟨acc,fd,rfl,ha,h1,_⟩:=hi;simp only[List.map_nil,XQ]at ha;refine t9 ht ?_;refine Js (a:=T.dct (Vn t7 (.inr y) (.tup [.str "record",.tup acc,s]))) (by have:=fM.2.2.1;omega) ?_;have hp:Yo (N+3) 1 acc:=⟨by have:=congrArg List.length ha;simp at this;have:=h.1;omega,by rw[ha];exact h.2.1,h1⟩;exact nx _ ⟨_,rs,_,_,_,rfl,fM.put hy (.record _ _ hp h'),(Jl hy).trans hk,rfl,fun z mz=>hr z (Vf _ mz)⟩
   .obtain⟨t7,rs,nm,fl,fd,rfl,fM,hk,er,hr⟩:=hi;exact rt _ _ ⟨t7,j,rfl,fM⟩
def Af(C:Cs):Prop:=∀(c m:Int),0<=m->m<=1000->on (C "_law_draws" [.f (.int c),.f (.int m)]) fun x=>∃ds:ZL,ds.length=m.toNat/\x=(.o (.lst (ds.map .int)),[])
def sh(C:Cs):Prop:=∀(zs:ZL) (k:Int),0<=k->on (C "_law_cell_at" [.f (.lst (zs.map .int)),.f (.int k)]) fun x=>∃c:Int,x=(.f (.int c),[])
def Zja(C:Cs):Prop:=∀(ds:ZL) (i:Int),0<ds.length->on (C "_law_make" [.o (Zj ds i)]) fun r=>∃x XB j,r=(.f (.tup [.str x,.dct XB]),[Zj ds j])/\D4 4 XB
def zd(C:Cs):Prop:=∀{N:Nat},N<50->∀{x:Str} {XB:ZX},D4 N XB->∀(ds:ZL) (i:Int),0<ds.length->on (C "_law_second" [.o (Zj ds i),.f (.tup [.str x,.dct XB])]) fun r=>∃Vz j,r=(.f (.tup [.str x,.dct Vz]),[Zj ds j])/\D4 (N+3) Vz
def px(N:Nat)(t:T):Prop:=∃x XB,t=.tup [.str x,.dct XB]/\D4 N XB
theorem px.mono{N M:Nat}{t:T}(h:px N t)(l:N<=M):px M t:=let ⟨x,k,e,f⟩:=h;⟨x,k,e,f.mono l⟩
noncomputable def si:ZD:=["old","newer","b"]
def Stk(ns:ZD)(XB:ZX):Prop:=XB.map (·.1)=ns.map Sum.inr/\ns.Nodup/\1<=ns.length/\ns.length<=3/\∀n∈ns,n∈si
theorem P5(a b:ZL):T.lst [.lst (a.map .int++b.map .int),.int 0]=Zj (a++b) 0:=by unfold Zj;rw[Am]
set_option maxHeartbeats 1000000 in
theorem tz{w:W}(hT:Ve w.C)(hD:Af w.C)(hC:sh w.C)(hM:Zja w.C)(hS:zd w.C)(zs:ZL) :
  wF Uu w [.f (.lst (zs.map .int)),.f (.int 1)] fun r=>∃ns XB,r=(.o (.dct XB),[])/\Stk ns XB:=by
 have sl:=sizeLine_eq;refine Mg rfl fun D rt _=>?_;refine Ze (hC zs 0 (by omega)) fun r hr=>?_;obtain⟨c0,rfl⟩:=hr;refine Ze (hD c0 60 (by omega) (by omega)) fun r hr=>?_;obtain⟨d0,l0,rfl⟩:=hr;refine Ze (hC zs 1 (by omega)) fun r hr=>?_;obtain⟨c1,rfl⟩:=hr;refine Ze (hD c1 60 (by omega) (by omega)) fun r hr=>?_;obtain⟨d1,l1,rfl⟩:=hr;refine Zjs (by rw[Z4,Z4];omega) ?_;show wS w _ _ [.f (.lst (zs.map .int)),.f (.int 1),.o (.lst [.lst (d0.map .int++d1.map .int),.int 0]),.no,.no,.no,.no,.no] _;rw[P5];have hd:0<(d0++d1).length:=by rw[Gg];omega
 generalize d0++d1=ds at hd;refine Ze (hM ds 0 hd) fun r hr=>?_;obtain⟨x,XB,j,rfl,f⟩:=hr;show wS w _ _ [.f (.lst (zs.map .int)),.f (.int 1),.o (Zj ds j),.o (.lst [.tup [.str x,.dct XB]]),.no,.no,.no,.no] _;refine Ze (hC zs 2 (by omega)) fun r hr=>?_;obtain⟨c2,rfl⟩:=hr;refine Ze (hD c2 60 (by omega) (by omega)) fun r hr=>?_;obtain⟨d2,l2,rfl⟩:=hr;refine Ze (hC zs 3 (by omega)) fun r hr=>?_;obtain⟨c3,rfl⟩:=hr;refine Ze (hD c3 60 (by omega) (by omega)) fun r hr=>?_;obtain⟨d3,l3,rfl⟩:=hr;refine Zjs (by rw[Z4,Z4];omega) ?_;show wS w _ _ [.f (.lst (zs.map .int)),.f (.int 1),.o (.lst [.lst (d2.map .int++d3.map .int),.int 0]),.o (.lst [.tup [.str x,.dct XB]]),.no,.no,.no,.no] _;rw[P5];have hd:0<(d2++d3).length:=by rw[Gg];omega
 generalize d2++d3=ds at hd;refine Z6 hT hd (show (0:Int)<3 by omega) fun m m0 m1=>?_;show wS w _ _ [.f (.lst (zs.map .int)),.f (.int 1),.o (Zj ds _),.o (.lst [.tup [.str x,.dct XB]]),.f (.int (1+m)),.no,.no,.no] _;refine whS ?_
 refine wWhI (fun n p=>∃some j ah,p=[.f (.lst (zs.map .int)),.f (.int 1),.o (Zj ds j),.o (.lst some),.f (.int (1+m)),ah,.no,.no]/\some.length+n=(1+m).toNat/\0<some.length/\∀t∈some,px (1+3 * some.length) t) (fun n p K hi kt kf=>?_) m.toNat 1000000 _ (by omega)
  ⟨[.tup [.str x,.dct XB]],_,_,rfl,by show 1+_=_;omega,Nat.one_pos,fun t mt=>by cases B8.mp mt;exact⟨x,XB,rfl,f⟩⟩
 obtain⟨some,j,ah,rfl,hl,h0,hs⟩:=hi;refine boolP' (b:=decide ((some.length:Int)<1+m)) (K:=fun b=>K b _) (fun h=>?_) fun h=>?_
 .have h:=Pa h;refine kt _ fun D' nx _ _ _=>?_;refine Z6 hT hd (by omega) fun c c0 c1=>?_;refine ixP c0 c1 fun u _ mu=>?_;obtain⟨x',Vz,rfl,f'⟩:=hs u mu
  have fin:∀t j' ah',px (1+3 * (some.length+1)) t->D'.nx [.f (.lst (zs.map .int)),.f (.int 1),.o (Zj ds j'),.o (.lst (some++[t])),.f (.int (1+m)),ah',.no,.no]:=fun t j' ah' ht =>
   nx (n - 1) _ (by omega) ⟨_,_,_,rfl,by rw[Gg,ZI];omega,by rw[Gg,ZI];omega,fun t' mt=>by
    rw[Gg,ZI];rcases Cb.mp mt with mt | mt
    .exact(hs t' mt).mono (by omega)
    .cases B8.mp mt;exact ht⟩
  refine Z6 hT hd (by omega) fun q q0 q1=>?_;refine Zc (b:=decide (q=0)) (fun _=>?_) fun _=>?_
  .refine Ze (hM ds _ hd) fun r hr=>?_;obtain⟨x,XB,j,rfl,f⟩:=hr;refine W3 (by omega) ?_;exact fin _ _ _ ⟨x,XB,rfl,f.mono (by omega)⟩
  .refine Ze (hS (by omega) f' ds _ hd) fun r hr=>?_;obtain⟨XB,j,rfl,f⟩:=hr;refine W3 (by omega) ?_;exact fin _ _ _ ⟨_,XB,rfl,f.mono (by omega)⟩
 .have h:=of_decide_eq_false h;refine kf _ ?_;refine Z6 hT hd (by omega) fun a a0 a1=>?_;have hm:(some.length:Int)=1+m:=by omega
  rcases(show m=0\/m=1\/m=2 by omega) with rfl | rfl | rfl
  .match some,hm with
   | [u],_ =>
    rcases(show a=0\/a=1\/a=2 by omega) with rfl | rfl | rfl
    .exact rt _ _ ⟨["old"],[(.inr "old",u)],rfl,rfl,by decide,by decide,by decide,by decide⟩
    .exact rt _ _ ⟨["newer"],[(.inr "newer",u)],rfl,rfl,by decide,by decide,by decide,by decide⟩
    .exact rt _ _ ⟨["b"],[(.inr "b",u)],rfl,rfl,by decide,by decide,by decide,by decide⟩
  .match some,hm with
   | [u,v],_ =>
    rcases(show a=0\/a=1\/a=2 by omega) with rfl | rfl | rfl
    .exact rt _ _ ⟨["old","newer"],[(.inr "old",u),(.inr "newer",v)],rfl,rfl,by decide,by decide,by decide,by decide⟩
    .exact rt _ _ ⟨["newer","b"],[(.inr "newer",u),(.inr "b",v)],rfl,rfl,by decide,by decide,by decide,by decide⟩
    .exact rt _ _ ⟨["b","old"],[(.inr "b",u),(.inr "old",v)],rfl,rfl,by decide,by decide,by decide,by decide⟩
  .match some,hm with
   | [u,v,w],_ =>
    rcases(show a=0\/a=1\/a=2 by omega) with rfl | rfl | rfl
    .exact rt _ _ ⟨["old","newer","b"],[(.inr "old",u),(.inr "newer",v),(.inr "b",w)],rfl,rfl,by decide,by decide,by decide,by decide⟩
    .exact rt _ _ ⟨["newer","b","old"],[(.inr "newer",u),(.inr "b",v),(.inr "old",w)],rfl,rfl,by decide,by decide,by decide,by decide⟩
    .exact rt _ _ ⟨["b","old","newer"],[(.inr "b",u),(.inr "old",v),(.inr "newer",w)],rfl,rfl,by decide,by decide,by decide,by decide⟩
def ABC:Str:="abcdefghijklmnopqrstuvwxyz"
noncomputable def Bs(x:Str):Bool:=!(Builtin.Str.occurrences ABC x 0 ABC.length 1).isEmpty
def tm:T->Bool
 | .str x=>Bs x
 | _=>false
noncomputable def Wm(x:Str):Bool:=(decide (1<=(x.length:Int)) && decide ((x.length:Int)<=8)) && x.cps.toList.all fun c=>Bs ⟨#[c]⟩
def Pc:T->Bool
 | .str x=>Wm x
 | _=>false
structure GL(gl:Str->Option T):Prop where
 a:gl "LETTERS" = some (.str ABC)
 b:gl "LONGEST_NAME" = some (.int 8)
 c:gl "is_name" = some (.fn "is_name")
def Th(B:Nat)(t:T):Prop:=U5 20 t/\Mu t<=B
theorem Hx{w:W}(G:GL w.gl){t:T}(h:Th 5000 t):wF Dr w [.f t] fun x=>x=(.f (.bl (Pc t)),[]):=by
 have sl:=sizeLine_eq;refine Mg rfl fun D rt _=>?_;cases t with
 | fn x=>exact h.1.elim
 | str x =>
  have hx:x.length<=sizeLine:=by have:=h.2;simp only[Mu]at this;omega
  have e1:Pc (.str x)=Wm x:=rfl;unfold Wm at e1;refine lenP hx ?_;refine glP G.b ?_;refine c2P ?_;refine Zc (b:=!(decide (1<=(x.length:Int)) && decide ((x.length:Int)<=8))) (fun h1=>?_) fun h1=>?_
  .refine rt _ _ ?_;rw[e1,Mz h1]
   rfl
  .refine Zqu hx ?_;refine Y9 (fun t=>.bl (tm t)) (fun p=>∃s0,p=[s0]) ⟨_,rfl⟩ (fun u mu p K hp hk=>?_) fun p hp=>?_
   .obtain⟨s0,rfl⟩:=hp;obtain⟨c,_,rfl⟩:=Gr.mp mu;refine glP G.a ?_;exact hk _ ⟨_,rfl⟩
   .obtain⟨s0,rfl⟩:=hp;refine Ea ?_;refine rt _ _ ?_;rw[e1,G1 h1,List.all_map]
    rfl
 | _=>exact rt _ _ rfl
def Zju(C:Cs):Prop:=∀{t:T},Th 5000 t->on (C "is_name" [.f t]) fun x=>x=(.f (.bl (Pc t)),[])
theorem M7:∀{ts:ZZ},ts.all Pc=true->∃ss:ZD,ts=ss.map .str/\ss.all Wm=true
 | [],_=>⟨[],rfl,rfl⟩
 | t::ts,h=>by
  obtain⟨h1,h2⟩:=uk.mp (show (Pc t && ts.all Pc)=true from h);obtain⟨ss,rfl,e⟩:=M7 h2;cases t with
  | str x=>exact⟨x::ss,rfl,by show (Wm x && ss.all Wm)=true;rw[show Wm x=true from h1,e];rfl⟩
  | _=>cases h1
noncomputable def Vl(ts:ZZ):Bool:=ts.all Pc && (match Z7 ts with | some ss=>Ym ss | none=>false)
theorem xm{w:W}(ss:ZD):wF Dt w [.f (.tup (ss.map .str))] fun x=>x=(.f (.bl (Ym ss)),[]):=by
 refine Mg rfl fun D rt _=>?_;refine Y9 (xs:=Cd (ss.map .str) (Zn (ss.map .str) (some 1) none)) (fun t=>.bl (ltP t)) (fun p=>∃s0 s1,p=[s0,s1]) ⟨_,_,rfl⟩ (fun u mu p K hp hk=>?_) fun p hp=>?_
 .obtain⟨s0,s1,rfl⟩:=hp;obtain⟨⟨a,b⟩,mab,rfl⟩:=Gr.mp mu;obtain⟨m1,m2⟩:=List.of_mem_zip mab;obtain⟨x,_,rfl⟩:=Gr.mp m1;obtain⟨y,_,rfl⟩:=Gr.mp (Vw m2);exact hk _ ⟨_,_,rfl⟩
 .obtain⟨s0,s1,rfl⟩:=hp;refine Ea ?_;refine rt _ _ ?_;rw[Ap]
  rfl
theorem xt{w:W}(ss:ZD):wF Dt w [.f (.lst (ss.map .str))] fun x=>x=(.f (.bl (Ym ss)),[]):=by
 refine Mg rfl fun D rt _=>?_;refine Y9 (xs:=Cd (ss.map .str) (Zn (ss.map .str) (some 1) none)) (fun t=>.bl (ltP t)) (fun p=>∃s0 s1,p=[s0,s1]) ⟨_,_,rfl⟩ (fun u mu p K hp hk=>?_) fun p hp=>?_
 .obtain⟨s0,s1,rfl⟩:=hp;obtain⟨⟨a,b⟩,mab,rfl⟩:=Gr.mp mu;obtain⟨m1,m2⟩:=List.of_mem_zip mab;obtain⟨x,_,rfl⟩:=Gr.mp m1;obtain⟨y,_,rfl⟩:=Gr.mp (Vw m2);exact hk _ ⟨_,_,rfl⟩
 .obtain⟨s0,s1,rfl⟩:=hp;refine Ea ?_;refine rt _ _ ?_;rw[Ap]
  rfl
def sg(C:Cs):Prop:=∀ss:ZD,on (C "rises" [.f (.tup (ss.map .str))]) (fun x=>x=(.f (.bl (Ym ss)),[]))/\on (C "rises" [.f (.lst (ss.map .str))]) (fun x=>x=(.f (.bl (Ym ss)),[]))
theorem qo{w:W}(hN:Zju w.C)(hR:sg w.C){ts:ZZ}(h:∀t∈ts,Th 5000 t)(b:Bool):wF V3 w [.f (if b then .tup ts else .lst ts),.f (.fn "is_name")] fun x=>x=(.f (.bl (Vl ts)),[]):=by
 refine Mg rfl fun D rt _=>?_;cases b with
 | true =>
  refine Y9 (xs:=ts) (fun t=>.bl (Pc t)) (fun p=>∃s0,p=[s0,.f (.fn "is_name")]) ⟨_,rfl⟩ (fun u mu p K hp hk=>?_) fun p hp=>?_
  .obtain⟨s0,rfl⟩:=hp;refine Ze (hN (h u mu)) fun x hx=>?_;subst hx;exact hk _ ⟨_,rfl⟩
  .obtain⟨s0,rfl⟩:=hp;refine Ea ?_;refine Zc (b:=ts.all Pc) (fun h1=>?_) fun h1=>?_
   .obtain⟨ss,rfl,e⟩:=M7 h1;refine Ze (hR ss).1 fun x hx=>?_;subst hx;refine rt _ _ ?_;unfold Vl;rw[h1,PV.strs_map]
    rfl
   .refine rt _ _ ?_;unfold Vl;rw[h1]
    rfl
 | false =>
  refine Y9 (xs:=ts) (fun t=>.bl (Pc t)) (fun p=>∃s0,p=[s0,.f (.fn "is_name")]) ⟨_,rfl⟩ (fun u mu p K hp hk=>?_) fun p hp=>?_
  .obtain⟨s0,rfl⟩:=hp;refine Ze (hN (h u mu)) fun x hx=>?_;subst hx;exact hk _ ⟨_,rfl⟩
  .obtain⟨s0,rfl⟩:=hp;refine Ea ?_;refine Zc (b:=ts.all Pc) (fun h1=>?_) fun h1=>?_
   .obtain⟨ss,rfl,e⟩:=M7 h1;refine Ze (hR ss).2 fun x hx=>?_;subst hx;refine rt _ _ ?_;unfold Vl;rw[h1,PV.strs_map]
    rfl
   .refine rt _ _ ?_;unfold Vl;rw[h1]
    rfl
def Vs:T->ZD->Bool
 | .str x,ss=>ss.any fun y=>decide (y=x)
 | _,_=>false
theorem U5.nofn{n:Nat}{t:T}(h:U5 n t):∀x,t≠.fn x:=fun x e=>by subst e;exact h
theorem inL{t:T}(h:∀x,t≠.fn x)(ss:ZD):E4 t (.lst (ss.map .str))=some (Vs t ss):=by
 show (match Z7 (ss.map .str) with | some ss=>jv t ss | none=>_)=_;rw[PV.strs_map];cases t<;>first | rfl | exact absurd rfl (h _)
theorem inU{t:T}(h:∀x,t≠.fn x)(ss:ZD):E4 t (.tup (ss.map .str))=some (Vs t ss):=by
 show (match Z7 (ss.map .str) with | some ss=>jv t ss | none=>_)=_;rw[PV.strs_map];cases t<;>first | rfl | exact absurd rfl (h _)
theorem inLP{t:T}{ss:ZD}{Q:Sl->Prop}(h:∀x,t≠.fn x)(q:Q (.f (.bl (Vs t ss)))):on (K3 (.cm .isin) [t,.lst (ss.map .str)]) Q:=Zm (by show ((E4 t (.lst (ss.map .str))).map fun r=>Sl.f (.bl r))=_;rw[inL h];rfl) q
theorem inUP{t:T}{ss:ZD}{Q:Sl->Prop}(h:∀x,t≠.fn x)(q:Q (.f (.bl (Vs t ss)))):on (K3 (.cm .isin) [t,.tup (ss.map .str)]) Q:=Zm (by show ((E4 t (.tup (ss.map .str))).map fun r=>Sl.f (.bl r))=_;rw[inU h];rfl) q
theorem ninUP{t:T}{ss:ZD}{Q:Sl->Prop}(h:∀x,t≠.fn x)(q:Q (.f (.bl (!Vs t ss)))):on (K3 (.cm .notin) [t,.tup (ss.map .str)]) Q:=Zm (by show (((E4 t (.tup (ss.map .str))).map not).map fun r=>Sl.f (.bl r))=_;rw[inU h];rfl) q
noncomputable def Dp(ns fs:ZD):T->Bool
 | .tup [_,b,c]=>Vs b ns && Vs c fs
 | _=>false
theorem Th.mem{B:Nat}{ts:ZZ}(h:Th B (.tup ts)){t:T}(m:t∈ts):Th B t:=⟨Zh.mp h.1.2 t m,by have:=vb m;have:=h.2;simp only[Mu]at this;omega⟩
theorem Wc{w:W}{t:T}(h:Th 5000 t)(ns fs:ZD):wF V2 w [.f (.lst (ns.map .str)),.f (.tup (fs.map .str)),.f t] fun x=>x=(.f (.bl (Dp ns fs t)),[]):=by
 refine Mg rfl fun D rt _=>?_;cases t with
 | fn x=>exact h.1.elim
 | tup ts =>
  match ts,h with
  | [],h=>exact rt _ _ rfl
  | [_],h=>exact rt _ _ rfl
  | [_,_],h=>exact rt _ _ rfl
  | [a,b,c],h =>
   have hb:=U5.nofn (h.mem (t:=b) (by simp)).1;have hc:=U5.nofn (h.mem (t:=c) (by simp)).1;refine inLP hb ?_;have e:Dp ns fs (.tup [a,b,c])=(Vs b ns && Vs c fs):=rfl;refine Zc (b:=Vs b ns) (fun h1=>?_) fun h1=>?_
   .refine inUP hc ?_;refine rt _ _ ?_;rw[e,h1];rfl
   .refine rt _ _ ?_;rw[e,h1];rfl
  | a::b::c::d::r,h =>
   exact rt _ _ rfl
 | _=>exact rt _ _ rfl
def Zjp(C:Cs):Prop:=∀{t:T},Th 5000 t->∀ns fs:ZD,on (C "is_program" [.f (.lst (ns.map .str)),.f (.tup (fs.map .str)),.f t]) fun x=>x=(.f (.bl (Dp ns fs t)),[])
def zt(C:Cs):Prop:=∀{ts:ZZ},(∀t∈ts,Th 5000 t)->∀b:Bool,on (C "are_labels" [.f (if b then .tup ts else .lst ts),.f (.fn "is_name")]) fun x=>x=(.f (.bl (Vl ts)),[])
def Pl:T->T
 | .tup (a::_)=>a
 | _=>.non
noncomputable def Sr(ns:ZD):T->Bool
 | .tup [.tup fs,.tup ps]=>Vl fs && (fs.all (fun t=>Vs t ns) && (ps.all (Dp ns ((Z7 fs).getD [])) && Vl (ps.map Pl)))
 | _=>false
theorem bw{ns fs:ZD}{t:T}(h:Dp ns fs t=true):∃a b c,t=.tup [a,b,c]:=by
 unfold Dp at h
 split at h
 .exact⟨_,_,_,rfl⟩
 .cases h
theorem Rm{w:W}(G:GL w.gl)(hL:zt w.C)(hP:Zjp w.C){t:T}(h:Th 5000 t)(ns:ZD):wF Vd w [.f (.lst (ns.map .str)),.f t] fun x=>x=(.f (.bl (Sr ns t)),[]):=by
 refine Mg rfl fun D rt _=>?_;cases t with
 | fn x=>exact h.1.elim
 | tup ts =>
  match ts,h with
  | [],h=>exact rt _ _ rfl
  | [u],h=>cases u<;>exact rt _ _ rfl
  | [f,q],h =>
   have hf:=h.mem (t:=f) (by simp);have hq:=h.mem (t:=q) (by simp);cases f with
   | fn x=>exact hf.1.elim
   | tup fs =>
    cases q with
    | fn x=>exact hq.1.elim
    | tup ps =>
     have e:Sr ns (.tup [.tup fs,.tup ps])=(Vl fs && (fs.all (fun t=>Vs t ns) && (ps.all (Dp ns ((Z7 fs).getD [])) && Vl (ps.map Pl)))):=rfl;refine glP G.c ?_;refine Ze (hL (fun t m=>hf.mem m) true) fun x hx=>?_;subst hx;refine Zc (b:=!Vl fs) (fun h1=>?_) fun h1=>?_
     .refine rt _ _ ?_;rw[e,Mz h1];rfl
     have h1:=G1 h1;obtain⟨ss,rfl,hss⟩:=M7 (uk.mp h1).1;rw[PV.strs_map]at e;show wS w _ _ [.f (.lst (ns.map .str)),.f (.tup [.tup (ss.map .str),.tup ps]),.f (.tup (ss.map .str)),.f (.tup ps)] _;refine Y9 (xs:=ss.map .str) (fun t=>.bl (Vs t ns)) (fun p=>∃s0,p=[s0,.f (.lst (ns.map .str))]) ⟨_,rfl⟩ (fun u mu p K hp hk=>?_) fun p hp=>?_
     .obtain⟨s0,rfl⟩:=hp;refine inLP (U5.nofn (hf.mem mu).1) ?_;exact hk _ ⟨_,rfl⟩
     obtain⟨s0,rfl⟩:=hp;refine Ea ?_;refine Zc (b:=!(ss.map T.str).all fun t=>Vs t ns) (fun h2=>?_) fun h2=>?_
     .refine rt _ _ ?_;rw[e,h1,Mz h2];rfl
     have h2:=G1 h2;refine Y9 (xs:=ps) (fun t=>.bl (Dp ns ss t)) (fun p=>∃s0,p=[s0,.f (.lst (ns.map .str)),.f (.tup (ss.map .str))]) ⟨_,rfl⟩ (fun u mu p K hp hk=>?_) fun p hp=>?_
     .obtain⟨s0,rfl⟩:=hp;refine Ze (hP (hq.mem mu) ns ss) fun x hx=>?_;subst hx;exact hk _ ⟨_,rfl⟩
     obtain⟨s0,rfl⟩:=hp;refine Ea ?_;refine Zc (b:=!ps.all (Dp ns ss)) (fun h3=>?_) fun h3=>?_
     .refine rt _ _ ?_;rw[e,h1,h2];show _=((Sl.f (.bl (ps.all (Dp ns ss) && Vl (ps.map Pl))),[]):Sl×ZZ);rw[Mz h3];rfl
     have h3:=G1 h3;show wS w _ _ [.f (.lst (ns.map .str)),.f (.tup [.tup (ss.map .str),.tup ps]),.f (.tup (ss.map .str)),.f (.tup ps)] _;refine Y9 (xs:=ps) Pl (fun p=>∃s0,p=[s0]) ⟨_,rfl⟩ (fun u mu p K hp hk=>?_) fun p hp=>?_
     .obtain⟨s0,rfl⟩:=hp;obtain⟨a,b,c,rfl⟩:=bw (Pt.mp h3 u mu);exact hk _ ⟨_,rfl⟩
     obtain⟨s0,rfl⟩:=hp;refine glP G.c ?_;refine Ze (hL (ts:=ps.map Pl) (fun t m=>?_) false) fun x hx=>?_
     .obtain⟨u,mu,rfl⟩:=Gr.mp m;obtain⟨a,b,c,e⟩:=bw (Pt.mp h3 u mu);have hu:=hq.mem mu;rw[e]at hu ⊢;show Th 5000 a;exact hu.mem (by simp)
     .subst hx;refine rt _ _ ?_;rw[e,h1,h2];show _=((Sl.f (.bl (ps.all (Dp ns ss) && Vl (ps.map Pl))),[]):Sl×ZZ);rw[h3];rfl
    | _=>exact rt _ _ rfl
   | _=>exact rt _ _ rfl
  | a::b::c::r,h =>
   cases a<;>first | exact rt _ _ rfl | (cases b<;>exact rt _ _ rfl)
 | _=>exact rt _ _ rfl
def Ee(C:Cs):Prop:=∀{t:T},Th 5000 t->∀ns:ZD,on (C "is_fleet_of" [.f (.lst (ns.map .str)),.f t]) fun x=>x=(.f (.bl (Sr ns t)),[])
theorem keys_map:∀{XB:ZX} {ns:ZD},XB.map (·.1)=ns.map Sum.inr->XB.map (fun p=>Te p.1)=ns.map .str
 | [],[],_=>rfl
 | [],_::_,h=>by simp at h
 | _::_,[],h=>by simp at h
 | (k,t)::XB,s::ss,h=>by
  rw[Gh,Gh]at h
  injection h with h1 h2
  have h1:k=Sum.inr s:=h1;subst h1;rw[Gh,Gh,keys_map h2]
  rfl
theorem Sz{w:W}(hF:Ee w.C){t:T}(h:Th 5000 t){ns:ZD}{XB:ZX}(hs:Stk ns XB):wF Gw w [.f (.dct XB),.f t] fun x=>x=(.f (.bl (Sr ns t)),[]):=by
 refine Mg rfl fun D rt _=>?_;have e:=keys_map hs.1;have hF':=hF h ns;rw[<-e]at hF';refine Ze hF' fun x hx=>?_;subst hx;exact rt _ _ rfl
noncomputable def U2(ns fs:ZD):T->Bool
 | .tup [.str a,.str b,.str c]=>(Vs (.str b) ns && Vs (.str c) fs) && Wm a
 | _=>false
noncomputable def E6:T->Str
 | .tup (.str a::_)=>a
 | _ => ""
noncomputable def T4(ns:ZD):T->Bool
 | .tup [.tup fs,.tup ps]=>match Z7 fs with
  | some ss=>ss.all (fun x=>Vs (.str x) ns) && (ps.all (U2 ns ss) && (Ym ss && Ym (ps.map E6)))
  | none=>false
 | _=>false
theorem Hk{ns:ZD}{XB:ZX}(h:XB.map (·.1)=ns.map Sum.inr)(x:Str):(Vx XB (.inr x)).isSome=Vs (.str x) ns:=by
 show _=ns.any fun y=>decide (y=x);cases e:ns.any fun y=>decide (y=x) with
 | true =>
  obtain⟨y,my,ey⟩:=XZ.mp e;have ey:=Pa ey;subst ey;obtain⟨t,ht⟩:=get_mem (XB:=XB) (k:=.inr y) (by rw[h];exact List.mem_map_of_mem my);rw[ht];rfl
 | false =>
  cases g:Vx XB (.inr x) with
  | none=>rfl
  | some t =>
   have:=Qm g;rw[h]at this;obtain⟨y,my,ey⟩:=Gr.mp this;cases ey;have:(ns.any fun y=>decide (y=x))=true:=XZ.mpr ⟨x,my,Mi rfl⟩;rw[this]at e;cases e
def sgn(x:Str):ZD:=x.cps.toList.map fun c=>⟨#[c]⟩
theorem Zxp(x:Str):(x.cps.toList.map fun c=>T.str ⟨#[c]⟩).filterMap (fun t=>if tm t=true then none else some t)=((sgn x).filter fun s=>!Bs s).map .str:=by
 unfold sgn
 induction x.cps.toList with
 | nil=>rfl
 | cons c r ih =>
  rw[Gh,Gh];cases e:Bs ⟨#[c]⟩ with
  | true=>rw[List.filterMap_cons_none (by show (if Bs ⟨#[c]⟩=true then none else _)=_;rw[e];rfl),List.filter_cons_of_neg (by simp[e]),ih]
  | false=>rw[List.filterMap_cons_some (b:=.str ⟨#[c]⟩) (by show (if Bs ⟨#[c]⟩=true then none else _)=_;rw[e];rfl),List.filter_cons_of_pos (by simp[e]),ih,Gh]
theorem Zxh(x:Str):(!decide (((sgn x).filter fun s=>!Bs s)=[]))=!(x.cps.toList.all fun c=>Bs ⟨#[c]⟩):=by
 unfold sgn
 congr 1
 induction x.cps.toList with
 | nil=>rfl
 | cons c r ih =>
  rw[Gh,List.all_cons];cases e:Bs ⟨#[c]⟩ with
  | true=>rw[List.filter_cons_of_neg (by simp[e]),ih];rfl
  | false=>rw[List.filter_cons_of_pos (by simp[e])];rfl
theorem sstUP{ss:ZD}{Q:Sl->Prop}(h:ss.length<64)(q:Q (.o (.lst ((SRT.Yq (SRT.Jm ss)).map .str)))):on (K3 .sset [.tup (ss.map .str)]) Q:=Zm (by show (Oj (ss.map .str)).map _=_;rw[Oq _ h];rfl) q
theorem Zq0{ss:ZD}{Q:Sl->Prop}(h:ss.length<64)(q:Q (.o (.lst ((SRT.Yq (SRT.Jm ss)).map .str)))):on (K3 .sset [.lst (ss.map .str)]) Q:=Zm (by show (Oj (ss.map .str)).map _=_;rw[Oq _ h];rfl) q
noncomputable def pd:T->Bool
 | .str _=>true
 | _=>false
theorem cx{t:T}(h:∀x,t≠.fn x){Q:Sl->Prop}(q:Q (.f (.bl (pd t)))):on (K3 (.isi .str) [t]) Q:=Zm (by cases t<;>first | rfl | exact absurd rfl (h _)) q
theorem sv{ns:ZD}:∀{ts:ZZ},ts.all (fun t=>Vs t ns)=true->∃ss:ZD,ts=ss.map .str/\ss.all (fun x=>Vs (.str x) ns)=true
 | [],_=>⟨[],rfl,rfl⟩
 | t::ts,h=>by
  obtain⟨h1,h2⟩:=uk.mp (show (Vs t ns && ts.all fun t=>Vs t ns)=true from h);obtain⟨ss,rfl,e⟩:=sv h2;cases t with
  | str x=>exact⟨x::ss,rfl,by show (Vs (.str x) ns && _)=true;rw[h1,e];rfl⟩
  | _=>cases h1
theorem cy{ns ss:ZD}:(ss.map T.str).all (fun t=>Vs t ns)=ss.all fun x=>Vs (.str x) ns:=by rw[List.all_map];rfl
theorem Qt{w:W}{t:T}(h:Th 5000 t){ns:ZD}{XB:ZX}(hs:Stk ns XB):wF Vj w [.f (.dct XB),.f t] fun x=>x=(.f (.bl (T4 ns t)),[]):=by
 have sl:=sizeLine_eq;refine Mg rfl fun D rt _=>?_;cases t with
 | fn x=>exact h.1.elim
 | tup ts =>
  match ts,h with
  | [],h=>exact rt _ _ rfl
  | [u],h=>cases u<;>exact rt _ _ rfl
  | [f,q],h =>
   have hf:=h.mem (t:=f) (by simp);have hq:=h.mem (t:=q) (by simp);cases f with
   | fn x=>exact hf.1.elim
   | tup fs =>
    cases q with
    | fn x=>exact hq.1.elim
    | tup ps =>
     refine Y9 (xs:=fs) (fun t=>.bl (Vs t ns)) (fun p=>∃s0,p=[s0,.f (.dct XB)]) ⟨_,rfl⟩ (fun u mu p K hp hk=>?_) fun p hp=>?_
     .obtain⟨s0,rfl⟩:=hp;have hu:=hf.mem mu;cases u with
      | fn x=>exact hu.1.elim
      | str x =>
       have hk':=hk [.f (.str x),.f (.dct XB)] ⟨_,rfl⟩;rw[<-Hk hs.1 x]at hk';exact hk'
      | _=>exact hk _ ⟨_,rfl⟩
     obtain⟨s0,rfl⟩:=hp;refine Ea ?_;refine Zc (b:=!fs.all fun t=>Vs t ns) (fun h2=>?_) fun h2=>?_
     .refine rt _ _ ?_;have h2:=Mz h2;show _=((Sl.f (.bl (match Z7 fs with | some ss=>ss.all (fun x=>Vs (.str x) ns) && (ps.all (U2 ns ss) && (Ym ss && Ym (ps.map E6))) | none=>false)),[]):Sl×ZZ);cases e:Z7 fs with
      | none=>rfl
      | some ss =>
       rw[Bf e,cy]at h2;show _=((Sl.f (.bl (ss.all (fun x=>Vs (.str x) ns) && _)),[]):Sl×ZZ);rw[h2];rfl
     obtain⟨ss,rfl,h2'⟩:=sv (G1 h2)
     have e:T4 ns (.tup [.tup (ss.map .str),.tup ps])=(ps.all (U2 ns ss) && (Ym ss && Ym (ps.map E6))):=by
      show (match Z7 (ss.map .str) with | some ss=>ss.all (fun x=>Vs (.str x) ns) && (ps.all (U2 ns ss) && (Ym ss && Ym (ps.map E6))) | none=>false)=_;rw[PV.strs_map];show (ss.all (fun x=>Vs (.str x) ns) && _)=_;rw[h2'];rfl
     have hl1:ss.length<=20:=by have:=hf.1.1;simpa using this
     have pe:ps.length<=20:=hq.1.1;show wS w _ _ [.f (.dct XB),.f (.tup [.tup (ss.map .str),.tup ps]),.no,.no] _
     refine P1 (fun rest p=>∃(as:ZD) (s0:Sl) (pre:ZZ),p=[.f (.dct XB),.f (.tup [.tup (ss.map .str),.tup ps]),.o (.lst (as.map .str)),s0]/\ps=pre++rest/\pre.all (U2 ns ss)=true/\as=pre.map E6) (fun _=>False) (fun r p=>r=.f (.bl false)/\(∃a b,p=[.f (.dct XB),.f (.tup [.tup (ss.map .str),.tup ps]),a,b])/\ps.all (U2 ns ss)=false)
      (fun u rest p D' hi nx _ _ rtt=>?_) ps _ _ ⟨[],_,[],rfl,rfl,rfl,rfl⟩ (fun p hi=>?_) (fun _ z=>z.elim) fun r p hr=>?_
     .obtain⟨as,s0,pre,rfl,hp,Sv,rfl⟩:=hi;have mu:u∈ps:=by rw[hp];simp
      have hu:=hq.mem mu
      have no:U2 ns ss u=false->∀a b,D'.rt (.f (.bl false)) [.f (.dct XB),.f (.tup [.tup (ss.map .str),.tup ps]),a,b]:=fun z a b=>rtt _ _ ⟨rfl,⟨a,b,rfl⟩,by
       cases g:ps.all (U2 ns ss) with
       | false=>rfl
       | true=>rw[Pt.mp g u mu]at z;cases z⟩
      cases u with
      | fn x=>exact hu.1.elim
      | tup us =>
       match us,hu with
       | [],hu=>exact no rfl _ _
       | [x],hu=>cases x<;>exact no rfl _ _
       | [x,y],hu=>cases x<;>first | exact no rfl _ _ | (cases y<;>exact no rfl _ _)
       | [x,y,z],hu =>
        have hx:=U5.nofn (hu.mem (t:=x) (by simp)).1;have hy:=U5.nofn (hu.mem (t:=y) (by simp)).1;have hz:=U5.nofn (hu.mem (t:=z) (by simp)).1;refine cx hx ?_;refine cx hy ?_;refine cx hz ?_;have e3:allB [.bl (pd x),.bl (pd y),.bl (pd z)]=some [pd x,pd y,pd z]:=rfl;refine Zc (b:=!((pd x) && ((pd y) && ((pd z) && true)))) (fun h3=>?_) fun h3=>?_
        .refine no ?_ _ _;cases x<;>first | rfl | (cases y<;>first | rfl | (cases z<;>first | rfl | cases h3))
        .cases x with
         | str a =>
          cases y with
          | str b =>
           cases z with
           | str c =>
            have eL:U2 ns ss (.tup [.str a,.str b,.str c])=((Vs (.str b) ns && Vs (.str c) ss) && Wm a):=rfl;have ha:a.length<=sizeLine:=by have:=(hu.mem (t:=.str a) (by simp)).2;simp only[Mu]at this;omega
            refine Zc (b:=!(Vx XB (.inr b)).isSome) (fun h4=>?_) fun h4=>?_
            .rw[Hk hs.1]at h4;exact no (by rw[eL,Mz h4];rfl) _ _
            rw[Hk hs.1]at h4;refine ninUP hz ?_;refine Zc (b:=!Vs (.str c) ss) (fun h5=>?_) fun h5=>?_
            .exact no (by rw[eL,G1 h4,Mz h5];rfl) _ _
            refine lenP ha ?_;refine c2P ?_;refine Zc (b:=!(decide (1<=(a.length:Int)) && decide ((a.length:Int)<=8))) (fun h6=>?_) fun h6=>?_
            .exact no (by rw[eL];unfold Wm;rw[Mz h6,B0x,Bool.and_false]) _ _
            show wS w _ _ [.f (.dct XB),.f (.tup [.tup (ss.map .str),.tup ps]),.o (.lst ((pre.map E6).map .str)),.f (.tup [.str a,.str b,.str c])] _;refine Zqu ha ?_;refine wCompF (fun t=>if tm t=true then none else some t) (fun p=>∃s0,p=[s0]) ⟨_,rfl⟩ (fun u mu p K hp hk=>?_) fun p hp=>?_
            .obtain⟨s0,rfl⟩:=hp;obtain⟨c,_,rfl⟩:=Gr.mp mu;have hk':=hk [.f (.str ⟨#[c]⟩)] ⟨_,rfl⟩;refine Zc (b:=!Bs ⟨#[c]⟩) (fun h7=>?_) fun h7=>?_
             .rw[show (if tm (.str ⟨#[c]⟩)=true then none else some (T.str ⟨#[c]⟩))=some (T.str ⟨#[c]⟩) by show (if Bs ⟨#[c]⟩=true then none else _)=_;rw[Mz h7];rfl]at hk';exact hk'
             .rw[show (if tm (.str ⟨#[c]⟩)=true then none else some (T.str ⟨#[c]⟩))=none by show (if Bs ⟨#[c]⟩=true then none else _)=_;rw[G1 h7];rfl]at hk';exact hk'
            obtain⟨s0,rfl⟩:=hp;rw[Zxp];refine nesP (b:=[]) ?_;rw[Zxh];refine Zc (b:=!(a.cps.toList.all fun c=>Bs ⟨#[c]⟩)) (fun h7=>?_) fun h7=>?_
            .exact no (by rw[eL];unfold Wm;rw[Mz h7,Bool.and_false,Bool.and_false]) _ _
            refine W3 (by rw[Z4,Z4];have:=congrArg List.length hp;simp at this;omega) ?_
            have ok:U2 ns ss (.tup [.str a,.str b,.str c])=true:=by
             rw[eL];unfold Wm;rw[G1 h4,G1 h5,G1 h6,G1 h7];rfl
            exact nx _ ⟨pre.map E6++[a],_,pre++[.tup [.str a,.str b,.str c]],by rw[Am];rfl,by rw[hp,XX];rfl,by rw[List.all_append,Sv];show (true && (U2 ns ss _ && true))=true;rw[ok];rfl,by rw[Am];rfl⟩
           | _=>cases h3
          | _=>cases h3
         | _=>cases h3
       | x::y::z::v::us,hu=>cases x<;>first | exact no rfl _ _ | (cases y<;>first | exact no rfl _ _ | (cases z<;>exact no rfl _ _))
      | _=>exact no rfl _ _
     .obtain⟨as,s0,pre,rfl,hp,Sv,rfl⟩:=hi;rw[XQ]at hp;subst hp;refine sstUP (by omega) ?_;refine eqsP ?_;have e':=e;rw[Sv,Bool.true_and,Ot (ss:=ss)]at e';refine Zc (b:=decide (ss=SRT.Yq (SRT.Jm ss))) (fun h3=>?_) fun h3=>?_
      .refine Zq0 (by rw[Z4];omega) ?_;refine eqsP ?_;refine rt _ _ ?_;rw[e',h3,Bool.true_and,Ot]
       rfl
      .refine rt _ _ ?_;rw[e',h3,B0x]
       rfl
     .obtain⟨rfl,⟨a,b,rfl⟩,hr⟩:=hr;refine rt _ _ ?_;rw[e,hr]
      rfl
    | _=>exact rt _ _ rfl
   | _=>exact rt _ _ rfl
  | a::b::c::r,h =>
   cases a<;>first | exact rt _ _ rfl | (cases b<;>exact rt _ _ rfl)
 | _=>exact rt _ _ rfl
theorem prg_eq(ns fs:ZD)(t:T):U2 ns fs t=(Dp ns fs t && Pc (Pl t)):=by
 cases t with
 | tup ts =>
  match ts with
  | []=>rfl
  | [x]=>cases x<;>rfl
  | [x,y]=>cases x<;>first | rfl | (cases y<;>rfl)
  | [x,y,z] =>
   cases x with
   | str a =>
    cases y with
    | str b =>
     cases z with
     | str c=>rfl
     | _=>show false=((Vs (.str b) ns && false) && Wm a);rw[Bool.and_false];rfl
    | _=>rfl
   | _=>show false=((Vs y ns && Vs z fs) && false);rw[Bool.and_false]
  | x::y::z::v::us=>cases x<;>first | rfl | (cases y<;>first | rfl | (cases z<;>rfl))
 | _=>rfl
theorem zb{Z:Type}(f g:Z->Bool):∀l:List Z,(l.all fun x=>f x && g x)=(l.all f && l.all g)
 | []=>rfl
 | a::l=>by
  rw[List.all_cons,List.all_cons,List.all_cons,zb f g l];cases f a<;>cases g a<;>cases l.all f<;>rfl
theorem X0:∀{ps:ZZ},ps.all (fun t=>Pc (Pl t))=true->Z7 (ps.map Pl)=some (ps.map E6)
 | [],_=>rfl
 | t::ps,h=>by
  rw[List.all_cons]at h;obtain⟨h1,h2⟩:=uk.mp h;have ih:=X0 h2;rw[Gh,Gh]
  have:∃a l,t=.tup (.str a::l):=by
   cases t with
   | tup ts =>
    cases ts with
    | nil=>cases h1
    | cons x l =>
     cases x with
     | str a=>exact⟨a,l,rfl⟩
     | _=>cases h1
   | _=>cases h1
  obtain⟨a,l,rfl⟩:=this;show (Z7 (ps.map Pl)).map (a::·)=_;rw[ih];rfl
theorem n4{ns:ZD}(hn:∀x,Vs (.str x) ns=true->Wm x=true)(t:T):Sr ns t=T4 ns t:=by
 cases t with
 | tup ts =>
  match ts with
  | []=>rfl
  | [u]=>cases u<;>rfl
  | [f,q] =>
   cases f with
   | tup fs =>
    cases q with
    | tup ps =>
     show (Vl fs && (fs.all (fun t=>Vs t ns) && (ps.all (Dp ns ((Z7 fs).getD [])) && Vl (ps.map Pl))))=match Z7 fs with
      | some ss=>ss.all (fun x=>Vs (.str x) ns) && (ps.all (U2 ns ss) && (Ym ss && Ym (ps.map E6)))
      | none=>false
     cases e:Z7 fs with
     | none =>
      have:Vl fs=false:=by unfold Vl;rw[e];exact Bool.and_false _
      rw[this];rfl
     | some ss =>
      have ef:=Bf e;subst ef
      have e1:Vl (ss.map .str)=(ss.all Wm && Ym ss):=by
       unfold Vl;rw[PV.strs_map,List.all_map];rfl
      have e2:ps.all (U2 ns ss)=(ps.all (Dp ns ss) && ps.all fun t=>Pc (Pl t)):=by
       rw[<-zb];congr 1;funext t;exact prg_eq ns ss t
      have e3:Vl (ps.map Pl)=((ps.all fun t=>Pc (Pl t)) && Ym (ps.map E6)):=by
       unfold Vl;rw[List.all_map];show ((ps.all fun t=>Pc (Pl t)) && _)=_;cases h:ps.all fun t=>Pc (Pl t) with
       | false=>rfl
       | true=>rw[X0 h]
      show (Vl (ss.map .str) && ((ss.map T.str).all (fun t=>Vs t ns) && (ps.all (Dp ns ss) && Vl (ps.map Pl))))=(ss.all (fun x=>Vs (.str x) ns) && (ps.all (U2 ns ss) && (Ym ss && Ym (ps.map E6))));rw[e1,e2,e3,cy];cases hA:ss.all fun x=>Vs (.str x) ns with
      | false=>rw[B0x,B0x,Bool.and_false]
      | true =>
       have:ss.all Wm=true:=Pt.mpr fun x m=>hn x (Pt.mp hA x m);rw[this];cases ps.all (Dp ns ss)<;>cases(ps.all fun t=>Pc (Pl t))<;>cases Ym ss<;>cases Ym (ps.map E6)<;>rfl
    | _=>rfl
   | _=>rfl
  | a::b::c::r=>cases a<;>first | rfl | (cases b<;>rfl)
 | _=>rfl
theorem Stk.nm{ns:ZD}{XB:ZX}(h:Stk ns XB):∀x,Vs (.str x) ns=true->Wm x=true:=fun x hx=>by
 have:=h.2.2.2.2 x (zf hx);unfold si at this;simp only[Y3,V4,or_false]at this;rcases this with rfl | rfl | rfl<;>decide +kernel
theorem ia(l:ZD):Ym (SRT.Yq (SRT.Jm l))=true:=by
 refine Bc ?_;have nd:(SRT.Yq (SRT.Jm l)).Nodup:=(SRT.Z3 _).nodup_iff.mpr SRT.Rv
 exact((SRT.Gu (SRT.Jm l)).and nd).imp fun {a b} h=>by
  rw[Cw];cases z:SRT.Rg b a with
  | false=>rfl
  | true=>exact absurd (SRT.Ng h.1 z) h.2
theorem F7{l:ZD}{x:Str}:x∈SRT.Yq (SRT.Jm l)↔x∈l:=(SRT.Z3 _).mem_iff.trans SRT.Ny
theorem K7{x:Str}{ns:ZD}(h:x∈ns):Vs (.str x) ns=true:=XZ.mpr ⟨x,h,Mi rfl⟩
noncomputable def PQ:ZD:=["p","qq","zzzzzzzz"]
def Tw(n B:Nat)(t:T):Prop:=U5 n t/\Mu t<=B/\zx t<=3
theorem J2{k:Nat}:∀{ts:ZZ},Va ts<=k↔∀t∈ts,zx t<=k
 | []=>⟨fun _ t m=>absurd m V4,fun _=>Ma _⟩
 | t::ts=>by
  show max (zx t) (Va ts)<=k↔_;rw[Nat.max_le,J2,Um]
theorem Tw.th{n B:Nat}{t:T}(h:Tw n B t)(hn:n<=20)(hB:B<=5000):Th 5000 t:=⟨U5.mono hn t h.1,U0 h.2.1 hB⟩
def Bj(x:Str):Prop:=(∀c∈x.cps.toList,c<16 ^ 8)/\x.length<=9
theorem U6{x:Str}(h:x∈si):Bj x:=by
 unfold si at h;simp only[Y3,V4,or_false]at h;rcases h with rfl | rfl | rfl<;>(unfold Bj;decide +kernel)
theorem ub{x:Str}(h:x∈PQ):Bj x:=by
 unfold PQ at h;simp only[Y3,V4,or_false]at h;rcases h with rfl | rfl | rfl<;>(unfold Bj;decide +kernel)
theorem Dw{b:Nat}:∀{ts:ZZ},(∀t∈ts,Mu t<=b)->Yw ts<=ts.length * (b+1)
 | [],_=>Ma _
 | t::ts,h=>by
  have h1:=h t Vt;have h2:=Dw (ts:=ts) fun u m=>h u (Vf _ m);show Mu t+1+Yw ts<=(ts.length+1) * (b+1);rw[Nat.add_mul];omega
def Prg(ns fs:ZD)(t:T):Prop:=∃a b c,t=.tup [.str a,.str b,.str c]/\a∈PQ/\b∈ns/\c∈fs
theorem ra{l:ZZ}{x:T}:Jd (l++[x]) (-1)=some x:=by
 unfold Jd Qr;rw[if_neg (by omega),if_pos (by rw[Gg,ZI];omega)];show (l++[x])[_]?=some x;rw[Gg,ZI,show (-1+((l.length+1:Nat):Int)).toNat=l.length by omega];simp
set_option maxHeartbeats 1000000 in
theorem any_ok{w:W}(hT:Ve w.C){ns:ZD}(h0:0<ns.length)(h3:ns.length<=3)(E5:∀n∈ns,n∈si)(ds:ZL)(i:Int)(hd:0<ds.length) :
  wF Dl w [.o (Zj ds i),.f (.lst (ns.map .str))] fun r=>∃t j,r=(.f t,[Zj ds j])/\T4 ns t=true/\Tw 6 300 t:=by
 have sl:=sizeLine_eq;refine Mg rfl fun D rt _=>?_;refine Cu (fun r acc s=>∃(s0:Sl) (j:Int) (ss rs:ZD),s=[s0,.o (Zj ds j)]/\acc=ss.map .str/\r=rs.map .str/\(∀x∈ss,x∈ns)/\(∀x∈rs,x∈ns)/\ss.length+rs.length<=3) ⟨.no,i,[],ns,rfl,rfl,rfl,fun x m=>absurd m V4,fun _ m=>m,by simpa using h3⟩ (fun k r acc s K hi ky kn=>?_) fun acc s hi=>?_
 .obtain⟨s0,j,ss,rs,rfl,rfl,er,h1,h2,hl⟩:=hi
  match rs,er,h2,hl with
  | x::rs,er,h2,hl =>
   rw[Gh]at er
   injection er with e4 e5
   subst e4 e5;rw[Gs]at hl;refine Z6 hT hd (by omega) fun c c0 c1=>?_;refine Zc (b:=decide (c=0)) (fun _=>?_) fun _=>?_
   .refine ky (.str x) _ ⟨_,_,ss++[x],rs,rfl,by rw[Am];rfl,rfl,fun y m=>?_,fun y m=>h2 y (Vf _ m),by rw[Gg,ZI];omega⟩;rcases Cb.mp m with m | m
    .exact h1 y m
    .cases B8.mp m;exact h2 _ Vt
   .exact kn _ ⟨_,_,ss,rs,rfl,rfl,rfl,h1,fun y m=>h2 y (Vf _ m),by omega⟩
 obtain⟨s0,j,ss,rs,rfl,rfl,er,h1,h2,hl⟩:=hi;show wS w _ _ [.o (Zj ds j),.f (.lst (ns.map .str)),.o (.lst (ss.map .str)),.no,.no] _;refine Z6 hT hd (by omega) fun m m0 m1=>?_
 refine W9 (fun rest p=>∃(j:Int) (fs:ZD) (pr:ZZ) (nm:Sl) (rs:ZD),p=[.o (Zj ds j),.f (.lst (ns.map .str)),.o (.lst (fs.map .str)),.o (.lst pr),nm]/\rest=rs.map .str/\(∀x∈fs,x∈ns)/\fs.length<=3+pr.length/\(∀t∈pr,Prg ns fs t)/\pr.map E6++rs=PQ.take m.toNat)
  ⟨_,ss,[],_,PQ.take m.toNat,rfl,by rw[B5 m0 (by show m<=3;omega),List.map_take];rfl,h1,by omega,fun t m=>absurd m V4,rfl⟩ (fun u rest p D' hi nx _=>?_) fun p hi=>?_
 .obtain⟨j,fs,pr,nm,rs,rfl,er,hf,hl,hp,he⟩:=hi
  match rs,er,he with
  | x::rs,er,he =>
   rw[Gh]at er
   injection er with e4 e5
   subst e4 e5;have hx:x∈PQ:=List.mem_of_mem_take (by rw[<-he];simp)
   have hl3:pr.length+(rs.length+1)<=3:=by
    have:=congrArg List.length he;rw[Gg,Z4,Gs,pz]at this;have:PQ.length=3:=rfl;omega
   have hL:(ns.map T.str).length=ns.length:=Z4 _;refine Z6 hT hd (by omega) fun a a0 a1=>?_;refine ixP a0 a1 fun u _ mu=>?_;obtain⟨y,my,rfl⟩:=Gr.mp mu;refine Z6 hT hd (by omega) fun b b0 b1=>?_;refine ixP b0 b1 fun u _ mu=>?_;obtain⟨z,mz,rfl⟩:=Gr.mp mu;refine W3 (by omega) ?_;refine O8 ra ?_;refine W3 (by rw[Z4];omega) ?_;refine nx _ ⟨_,fs++[z],pr++[.tup [.str x,.str y,.str z]],_,rs,by rw[Am];rfl,rfl,fun q m=>?_,by rw[Gg,Gg,ZI,ZI];omega,fun t mt=>?_,by rw[Am,XX];exact he⟩
   .rcases Cb.mp m with m | m
    .exact hf q m
    .cases B8.mp m;exact mz
   .rcases Cb.mp mt with mt | mt
    .obtain⟨a,b,c,e,q1,q2,q3⟩:=hp t mt;exact⟨a,b,c,e,q1,q2,List.mem_append_left _ q3⟩
    .cases B8.mp mt;exact⟨x,y,z,rfl,hx,my,by simp⟩
 obtain⟨j,fs,pr,nm,rs,rfl,er,hf,hl,hp,he⟩:=hi
 have hr:rs=[]:=by
  cases rs with
  | nil=>rfl
  | cons a b=>cases er
 subst hr;rw[XQ]at he
 have hl3:pr.length<=3:=by
  have:=congrArg List.length he;rw[Z4,pz]at this;have:PQ.length=3:=rfl;omega
 refine Zq0 (by omega) ?_;refine rt _ _ ⟨_,_,rfl, ?_, ?_⟩
 .show (match Z7 ((SRT.Yq (SRT.Jm fs)).map .str) with
   | some ss=>ss.all (fun x=>Vs (.str x) ns) && (pr.all (U2 ns ss) && (Ym ss && Ym (pr.map E6)))
   | none=>false)=true
  rw[PV.strs_map];show ((SRT.Yq (SRT.Jm fs)).all (fun x=>Vs (.str x) ns) && (pr.all (U2 ns (SRT.Yq (SRT.Jm fs))) && (Ym (SRT.Yq (SRT.Jm fs)) && Ym (pr.map E6))))=true;have k1:(SRT.Yq (SRT.Jm fs)).all (fun x=>Vs (.str x) ns)=true:=Pt.mpr fun x m=>K7 (hf x (F7.mp m))
  have k2:pr.all (U2 ns (SRT.Yq (SRT.Jm fs)))=true:=Pt.mpr fun t m=>by
   obtain⟨a,b,c,rfl,q1,q2,q3⟩:=hp t m;show ((Vs (.str b) ns && Vs (.str c) _) && Wm a)=true;rw[K7 q2,K7 (F7.mpr q3),show Wm a=true from ?_]
   .rfl
   .unfold PQ at q1;simp only[Y3,V4,or_false]at q1;rcases q1 with rfl | rfl | rfl<;>decide +kernel
  have k3:Ym (pr.map E6)=true:=by
   rw[he];rcases Az m0 m1 with rfl | rfl | rfl | rfl<;>decide +kernel
  rw[k1,k2,ia,k3]
  rfl
 .have ln:(SRT.Yq (SRT.Jm fs)).length<=6:=by
   rw[(SRT.Z3 _).length_eq];exact U0 SRT.Nk (by omega)
  have wo:∀x∈SRT.Yq (SRT.Jm fs),Bj x:=fun x m=>U6 (E5 x (hf x (F7.mp m)))
  have o1:∀t∈(SRT.Yq (SRT.Jm fs)).map T.str,U5 6 t/\Mu t<=9:=fun t m=>by
   obtain⟨x,mx,rfl⟩:=Gr.mp m;exact⟨(wo x mx).1,(wo x mx).2⟩
  have o2:∀t∈pr,U5 6 t/\Mu t<=30:=fun t m=>by
   obtain⟨a,b,c,rfl,q1,q2,q3⟩:=hp t m;have wa:=ub q1;have wb:=U6 (E5 b q2);have wc:=U6 (E5 c (hf c q3));refine⟨⟨by show 3<=6;omega,wa.1,wb.1,wc.1,trivial⟩, ?_⟩;show a.length+1+(b.length+1+(c.length+1+0))<=30;have:=wa.2;have:=wb.2;have:=wc.2;omega
  have w1:=Dw fun t m=>(o1 t m).2;have w2:=Dw fun t m=>(o2 t m).2;rw[Z4]at w1;refine⟨⟨by show 2<=6;omega,⟨by rw[Z4];omega,Zh.mpr fun t m=>(o1 t m).1⟩,⟨by omega,Zh.mpr fun t m=>(o2 t m).1⟩,trivial⟩, ?_, ?_⟩
  rotate_left
  .show max (Va ((SRT.Yq (SRT.Jm fs)).map .str)+1) (max (Va pr+1) 0)+1<=3
   have a1:Va ((SRT.Yq (SRT.Jm fs)).map .str)<=0:=J2.mpr fun t m=>by
    obtain⟨x,mx,rfl⟩:=Gr.mp m;exact Z5 _
   have a2:Va pr<=1:=J2.mpr fun t m=>by
    obtain⟨a,b,c,rfl,_⟩:=hp t m;exact Z5 _
   omega
  show Yw ((SRT.Yq (SRT.Jm fs)).map .str)+1+(Yw pr+1+0)<=300;have:=Nat.mul_le_mul_right (9+1) ln;have:=Nat.mul_le_mul_right (30+1) hl3;omega
noncomputable def lh:Nat->S->S
 | 0,s=>s
 | k+1,.seq _ r=>lh k r
 | _,s=>s
def Bt(n:Nat)(t t':T):Prop:=U5 (n+1) t'/\Mu t'<=2 * Mu t+100/\zx t'<=zx t+3
theorem dg{n:Nat}{ts:ZZ}(h:U5 n (.tup ts))(lo hi:ZR):U5 (n+1) (.tup (Zn ts lo hi)):=⟨U0 Mr (Nat.le_succ_of_le h.1),Nv.mono (Nat.le_succ n) _ (Zh.mpr fun t m=>Zh.mp h.2 t (Vw m))⟩
set_option maxHeartbeats 1000000 in
theorem odd_ok{w:W}(hT:Ve w.C){n:Str}{nr:ZD}(hn:n∈si){m:Nat}(hm:3<=m)(hm2:m<=100){t:T}(h:U5 m t)(ds:ZL)(i:Int)(hd:0<ds.length) :
  wF Dc w [.o (Zj ds i),.f (.lst ((n::nr).map .str)),.f t] fun r=>∃t' j,r=(.f t',[Zj ds j])/\Bt m t t':=by
 have sl:=sizeLine_eq;have wn:=U6 hn;refine Mg rfl fun D rt _=>?_
 have e0:Jd ((n::nr).map T.str) 0=some (.str n):=by
  unfold Jd Qr;rw[if_pos (by omega),if_pos (by rw[Z4,Gs];omega)]
  rfl
 refine O8 e0 ?_;refine O8 e0 ?_;refine O8 e0 ?_
 have base:∀x∈[T.non,.bl true,.int 1,.str "",.str "p",.str "Old",.str "ninesigns",.tup [],.lst [],.str n,.tup [.str "p",.str n,.str n],.tup [.tup [],.tup []],.dct []],Bt m t x:=fun x mx=>by
  have b9:∀{y:T},U5 (m+1) y->Mu y<=100->zx y<=3->Bt m t y:=fun a b c=>⟨a,by omega,by omega⟩;simp only[Y3,V4,or_false]at mx;rcases mx with rfl | rfl | rfl | rfl | rfl | rfl | rfl | rfl | rfl | rfl | rfl | rfl | rfl
  .exact b9 trivial (by decide) (by show _<=3;decide)
  .exact b9 trivial (by decide) (by show _<=3;decide)
  .exact⟨by show (1:Int).natAbs<=_;decide,by show 70<=_;omega,by show 0<=_;omega⟩
  .exact b9 (by unfold U5;decide +kernel) (by decide +kernel) (by show _<=3;decide)
  .exact b9 (by unfold U5;decide +kernel) (by decide +kernel) (by show _<=3;decide)
  .exact b9 (by unfold U5;decide +kernel) (by decide +kernel) (by show _<=3;decide)
  .exact b9 (by unfold U5;decide +kernel) (by decide +kernel) (by show _<=3;decide)
  .exact b9 ⟨Ma _,trivial⟩ (by decide) (by show _<=3;decide)
  .exact b9 ⟨Ma _,trivial⟩ (by decide) (by show _<=3;decide)
  .exact b9 wn.1 (by have:=wn.2;show n.length<=100;omega) (by show 0<=3;omega)
  .exact b9 ⟨by show 3<=m+1;omega,by unfold U5;decide +kernel,wn.1,wn.1,trivial⟩ (by have:=wn.2;show 1+1+(n.length+1+(n.length+1+0))<=100;omega) (by show 1<=3;omega)
  .exact b9 ⟨by show 2<=m+1;omega,⟨Ma _,trivial⟩,⟨Ma _,trivial⟩,trivial⟩ (by decide) (by show _<=3;decide)
  .exact b9 trivial (by decide) (by show _<=3;decide)
 cases t with
 | fn x=>exact h.elim
 | tup ts =>
  have l1:=h.1;have c1:(Zn ts none (some 1)).length<=ts.length:=Mr;have w1:=Cr ts none (some 1);refine sy (by omega) ?_;refine Z6 hT hd (show (0:Int)<31 by omega) fun c c0 c1=>?_;refine D9 c0 c1 fun x mx=>?_;refine rt _ _ ⟨x,_,rfl, ?_⟩;have hs:=Nv.mono (Nat.le_succ m) _ h.2;have hw:Mu (.tup ts)=Yw ts:=rfl;have hdp:zx (.tup ts)=Va ts+1:=rfl;have sub:∀{l:ZZ},(∀t∈l,t∈ts)->Va l<=Va ts:=fun hl=>J2.mpr fun t m=>J2.mp (Z5 _) t (hl t m);rcases Cb.mp mx with mx | mx
  .exact base x mx
  .obtain⟨l,ml,mx⟩:=List.mem_flatten.mp mx;obtain⟨_,rfl⟩:=List.mem_replicate.mp ml;simp only[Y3,V4,or_false]at mx;rcases mx with rfl | rfl | rfl | rfl | rfl | rfl
   .exact⟨⟨by omega,hs⟩,by show Yw ts<=_;omega,by show Va ts+1<=_;omega⟩
   .exact⟨⟨by rw[List.length_reverse];omega,Zh.mpr fun t mt=>Zh.mp hs t (List.mem_reverse.mp mt)⟩,by show Yw ts.reverse<=_;rw[Pe];omega,by show Va ts.reverse+1<=_;have:=sub (l:=ts.reverse) fun t m=>List.mem_reverse.mp m;omega⟩
   .refine⟨⟨?_,Zh.mpr fun t mt=>?_⟩,by show Yw (ts++Zn ts none (some 1))<=_;rw[Yv];omega,by show Va (ts++Zn ts none (some 1))+1<=_;have:=sub (l:=ts++Zn ts none (some 1)) fun t m=>(Cb.mp m).elim id Vw;omega⟩
    .have:(Zn ts none (some 1)).length<=1:=by
      unfold Zn;rw[pz]
      have:HT.Yl ts.length ts.length (some 1)<=1:=by
       rw[show HT.Yl ts.length ts.length (some (1:Int))=min 1 ts.length from HT.Ic ts.length ts.length 1];omega
      omega
     rw[Gg];omega
    .rcases Cb.mp mt with mt | mt
     .exact Zh.mp hs t mt
     .exact Zh.mp hs t (Vw mt)
   .exact⟨dg h _ _,by show Yw (Zn ts _ _)<=_;have:=Cr ts none (some (-1));omega,by show Va (Zn ts none (some (-1)))+1<=_;have:=sub (l:=Zn ts none (some (-1))) fun t m=>Vw m;omega⟩
   .exact⟨dg h _ _,by show Yw (Zn ts _ _)<=_;have:=Cr ts (some 1) none;omega,by show Va (Zn ts (some 1) none)+1<=_;have:=sub (l:=Zn ts (some 1) none) fun t m=>Vw m;omega⟩
   .exact⟨⟨by show 1<=m+1;omega,⟨by omega,hs⟩,trivial⟩,by show Yw ts+1+0<=_;omega,by show max (Va ts+1) 0+1<=_;omega⟩
 | _ =>
  refine Z6 hT hd (show (0:Int)<13 by omega) fun c c0 c1=>?_;refine D9 c0 c1 fun x mx=>?_;exact rt _ _ ⟨x,_,rfl,base x mx⟩
def POdd(C:Cs):Prop:=∀{n:Str} {nr:ZD},n∈si->∀{m:Nat},3<=m->m<=100->∀{t:T},U5 m t->∀(ds:ZL) (i:Int),0<ds.length->on (C "_law_odd" [.o (Zj ds i),.f (.lst ((n::nr).map .str)),.f t]) fun r=>∃t' j,r=(.f t',[Zj ds j])/\Bt m t t'
def su(C:Cs)(d:Nat):Prop:=∀{n:Str} {nr:ZD},n∈si->∀{m:Nat},3<=m->m<=100->∀{t:T},U5 m t->∀(ds:ZL) (i:Int),0<ds.length->on (C "_law_bent" [.o (Zj ds i),.f (.lst ((n::nr).map .str)),.f t,.f (.int d)]) fun r=>∃t' j,r=(.f t',[Zj ds j])/\Bt m t t'
theorem ug{ts:ZZ}{j:Nat}{x:T}(h:ts[j]?=some x):Yw ts=Yw (ts.take j)+(Mu x+1)+Yw (ts.drop (j+1)):=by
 obtain⟨hj,e⟩:=Bz.mp h;have:=Yv (ts.take j) (ts.drop j);rw[List.take_append_drop,List.drop_eq_getElem_cons hj,e]at this;rw[this];show _+(Mu x+1+Yw (ts.drop (j+1)))=_;omega
set_option maxHeartbeats 1000000 in
theorem Zqd{w:W}(hT:Ve w.C)(hO:POdd w.C){d:Nat}(hB:∀e,e+1=d->su w.C e){n:Str}{nr:ZD}(hn:n∈si){m:Nat}(hm:3<=m)(hm2:m<=100){t:T}(h:U5 m t)(ds:ZL)(i:Int)(hd:0<ds.length) :
  wF Gq w [.o (Zj ds i),.f (.lst ((n::nr).map .str)),.f t,.f (.int d)] fun r=>∃t' j,r=(.f t',[Zj ds j])/\Bt m t t':=by
 have sl:=sizeLine_eq;refine Mg rfl fun D rt _=>?_
 have odd:∀j:Int,wS w (Vh [.o (Zj ds i),.f (.lst ((n::nr).map .str)),.f t,.f (.int d)]) (.seq (.ret (.call "_law_odd" (.cons (.io 0) (.cons (.v 1) (.cons (.v 2) .nil))))) .nil) [.o (Zj ds j),.f (.lst ((n::nr).map .str)),.f t,.f (.int d),.no] ⟨fun q=>wS w (Vh [.o (Zj ds i),.f (.lst ((n::nr).map .str)),.f t,.f (.int d)]) (lh 1 R4) q D,D.rt,D.bk,D.ct⟩:=fun j=>by
  refine Ze (hO hn hm hm2 h ds j hd) fun x hx=>?_;obtain⟨t',j',rfl,hb⟩:=hx;exact rt _ _ ⟨t',j',rfl,hb⟩
 cases t with
 | fn x=>exact h.elim
 | tup ts =>
  cases ts with
  | nil=>exact odd i
  | cons u us =>
   refine Zc (b:=decide ((d:Int)=0)) (fun h0=>?_) fun h0=>?_
   .exact odd i
   have h0:=of_decide_eq_false h0;refine Z6 hT hd (by omega) fun c c0 c1=>?_;refine Zc (b:=decide (c=0)) (fun h1=>?_) fun h1=>?_
   .exact odd _
   show wS w _ _ [.o (Zj ds _),.f (.lst ((n::nr).map .str)),.f (.tup (u::us)),.f (.int d),.no] _;have hl:(0:Int)<((u::us).length:Nat):=by rw[Gs];omega
   refine Z6 hT hd hl fun a a0 a1=>?_;show wS w _ _ [.o (Zj ds _),.f (.lst ((n::nr).map .str)),.f (.tup (u::us)),.f (.int d),.f (.int a)] _;obtain⟨x,e1,e2,mx⟩:=Ax (xs:=u::us) a0 a1;refine ixUP e1 ?_;obtain⟨e,rfl⟩:∃e,d=e+1:=⟨d - 1,by omega⟩;have hx:U5 m x:=Zh.mp h.2 x mx;have hB':=hB e rfl (nr:=nr) hn hm hm2 hx ds (i+1+1) hd;rw[show ((e:Nat):Int)=((e+1:Nat):Int) - 1 by omega]at hB';refine Ze hB' fun y hy=>?_;obtain⟨x',j',rfl,g1,g2,g3⟩:=hy;have k0:=h.1;have k1:(Zn (u::us) none (some a)).length+1<=sizeLine:=by have:=Mr (ts:=u::us) (lo:=none) (hi:=some a);omega
   have k3:(Zn (u::us) none (some a)).length=a.toNat:=by rw[B5 a0 (by omega),pz];omega
   have k4:(Zn (u::us) (some (a+1)) none).length=(u::us).length - (a+1).toNat:=by rw[G5 (by omega) (by omega),List.length_drop]
   refine sy k1 ?_;refine sy (by rw[Gg,ZI];omega) ?_;refine rt _ _ ⟨_,_,rfl,⟨?_,Zh.mpr fun t mt=>?_⟩, ?_, ?_⟩
   .rw[Gg,Gg,ZI];omega
   .rcases Cb.mp mt with mt | mt
    .rcases Cb.mp mt with mt | mt
     .exact U5.mono (Nat.le_succ m) _ (Zh.mp h.2 t (Vw mt))
     .cases B8.mp mt;exact g1
    .exact U5.mono (Nat.le_succ m) _ (Zh.mp h.2 t (Vw mt))
   .show Yw (Zn (u::us) none (some a)++[x']++Zn (u::us) (some (a+1)) none)<=2 * Yw (u::us)+100;rw[Yv,Yv,B5 a0 (by omega),G5 (by omega) (by omega),show (a+1).toNat=a.toNat+1 by omega,ug e2];show _+(Mu x'+1+0)+_<=_;omega
   .show Va (Zn (u::us) none (some a)++[x']++Zn (u::us) (some (a+1)) none)+1<=Va (u::us)+1+3;have up:=J2.mp (Z5 (Va (u::us)));have hx2:=up x mx
    have:Va (Zn (u::us) none (some a)++[x']++Zn (u::us) (some (a+1)) none)<=Va (u::us)+3:=J2.mpr fun t mt=>by
     rcases Cb.mp mt with mt | mt
     .rcases Cb.mp mt with mt | mt
      .have:=up t (Vw mt);omega
      .cases B8.mp mt;omega
     .have:=up t (Vw mt);omega
    omega
 | _=>exact odd i
def sd(C:Cs):Prop:=∀zs:ZL,on (C "_law_makes" [.f (.lst (zs.map .int)),.f (.int 1)]) fun r=>∃ns XB,r=(.o (.dct XB),[])/\Stk ns XB
def PAny(C:Cs):Prop:=∀{ns:ZD},0<ns.length->ns.length<=3->(∀n∈ns,n∈si)->∀(ds:ZL) (i:Int),0<ds.length->on (C "_law_any" [.o (Zj ds i),.f (.lst (ns.map .str))]) fun r=>∃t j,r=(.f t,[Zj ds j])/\T4 ns t=true/\Tw 6 300 t
def sr(C:Cs):Prop:=∀{t:T},Th 5000 t->∀{ns:ZD} {XB:ZX},Stk ns XB->on (C "is_fleet" [.f (.dct XB),.f t]) fun x=>x=(.f (.bl (Sr ns t)),[])
def PLaw(C:Cs):Prop:=∀{t:T},Th 5000 t->∀{ns:ZD} {XB:ZX},Stk ns XB->on (C "_law_is_fleet" [.f (.dct XB),.f t]) fun x=>x=(.f (.bl (T4 ns t)),[])
theorem rp_bl(b:Bool):∃z,rpT (.bl b)=some z:=by cases b<;>exact⟨_,rfl⟩
theorem Ih{t:T}{z:Str}{Q:Sl->Prop}(e:rpT t=some z)(q:Q (.f (.str z))):on ((rpT t).map fun z=>Sl.f (.str z)) Q:=Zm (by rw[e];rfl) q
theorem nu{ns ms:ZD}(h:∀x,x∈ns↔x∈ms)(t:T):T4 ns t=T4 ms t:=by
 have hb:∀x,Vs (.str x) ns=Vs (.str x) ms:=fun x=>by
  show (ns.any fun y=>decide (y=x))=ms.any fun y=>decide (y=x);rw[Bool.eq_iff_iff,XZ,XZ];exact⟨fun⟨y,m,e⟩=>⟨y,(h y).mp m,e⟩,fun⟨y,m,e⟩=>⟨y,(h y).mpr m,e⟩⟩
 have hp:∀ss,U2 ns ss=U2 ms ss:=fun ss=>by
  funext t
  unfold U2
  split
  .rw[hb]
  .rfl
 unfold T4
 split
 .split
  .rw[hp]
   congr 2
   funext x
   exact hb x
  .rfl
 .rfl
set_option maxHeartbeats 2000000 in
theorem law_ok{w:W}(hT:Ve w.C)(hD:Af w.C)(hC:sh w.C)(hM:sd w.C)(hA:PAny w.C)(hF:sr w.C)(hL:PLaw w.C)(hB:su w.C 4)(zs:ZL) :
  wF Fx w [.f (.lst (zs.map .int))] fun r=>r=(.f (.bl true),[]):=by
 have sl:=sizeLine_eq;refine Mg rfl fun D rt _=>?_;refine Ze (hM zs) fun x hx=>?_;obtain⟨ns,XB,rfl,hs⟩:=hx;obtain⟨hk,nd,n1,n3,nm⟩:=hs;have hs:Stk ns XB:=⟨hk,nd,n1,n3,nm⟩;refine A7 (us:=(SRT.Yq ns).map .str) (by rw[keys_map hk,srt_strs _ (by omega)]) ?_;have pm:=SRT.Z3 ns;have sm:∀n∈SRT.Yq ns,n∈si:=fun n m=>nm n (pm.mem_iff.mp m);have sL:(SRT.Yq ns).length=ns.length:=pm.length_eq;have eq2:∀t,T4 (SRT.Yq ns) t=T4 ns t:=nu fun x=>pm.mem_iff
 obtain⟨n,nr,en⟩:∃n nr,SRT.Yq ns=n::nr:=by
  cases e:SRT.Yq ns with
  | nil=>rw[e]at sL;simp at sL;omega
  | cons n nr=>exact⟨n,nr,rfl⟩
 rw[en]at sm eq2 sL ⊢;have hn:=sm n Vt
 refine P1 (fun rest p=>∃(s1 s2 a3 a4 a5 a6 a7:Sl) (ks:List Nat),p=[.f (.lst (zs.map .int)),s1,s2,a3,a4,a5,a6,a7]/\OF s1 (.dct XB)/\OF s2 (.lst ((n::nr).map .str))/\rest=ks.map fun k=>T.int (k:Nat))
  (fun _=>False) (fun _ _=>False) (fun u rest p D' hi nx _ _ rtt=>?_) _ _ _ ⟨_,_,_,_,_,_,_,List.range 20,rfl,.inl rfl,.inl rfl,rfl⟩ (fun p hi=>?_) (fun _ z=>z.elim) fun _ _ z=>z.elim
 .obtain⟨s1,s2,a3,a4,a5,a6,a7,ks,rfl,h1,h2,er⟩:=hi
  match ks,er with
  | k::ks,er =>
   rw[Gh]at er
   injection er with e4 e5
   subst e4 e5;refine Ze (hC zs (4+k) (by omega)) fun x hx=>?_;obtain⟨c,rfl⟩:=hx;refine Ze (hD (c+61 * k) 40 (by omega) (by omega)) fun x hx=>?_;obtain⟨ds,hl,rfl⟩:=hx;have hd:0<ds.length:=by rw[hl];decide
   have e0:T.lst [.lst (ds.map .int),.int 0]=Zj ds 0:=rfl;show wS w _ _ [.f (.lst (zs.map .int)),s1,s2,.f (.int k),.o (.lst [.lst (ds.map .int),.int 0]),a5,a6,a7] _;rw[e0];refine Ia h2 rfl ?_;refine Ze (hA (ns:=n::nr) (by rw[Gs];omega) (by omega) sm ds 0 hd) fun x hx=>?_;obtain⟨t,j,rfl,ht,tw⟩:=hx;have th:=tw.th (by omega) (by omega);refine Ia h1 rfl ?_;refine Ze (hF th hs) fun x hx=>?_;subst hx;rw[n4 hs.nm, <-eq2,ht];show wS w _ _ [.f (.lst (zs.map .int)),.f (.dct XB),.f (.lst ((n::nr).map .str)),.f (.int k),.o (Zj ds j),.f t,a6,a7] _;refine Z6 hT hd (by omega) fun c c0 c1=>?_;refine rngP (by omega) (by omega) ?_
   refine W9 (fun rest p=>∃(m:Nat) (t:T) (j:Int) (a6:Sl),p=[.f (.lst (zs.map .int)),.f (.dct XB),.f (.lst ((n::nr).map .str)),.f (.int k),.o (Zj ds j),.f t,a6,a7]/\U5 m t/\m+rest.length<=8/\3<=m/\Mu t+100<=2 ^ (m - 6) * 400/\6<=m/\zx t+3 * rest.length<=10)
    ⟨6,t,_,a6,rfl,tw.1,by rw[Z4,XJ];omega,by omega,by have:=tw.2.1;show _<=1 * 400;omega,by omega,by rw[Z4,XJ];have:=tw.2.2;omega⟩ (fun u rest p D2 hi nx2 _=>?_) fun p hi=>?_
   .obtain⟨m,t,j,a6,rfl,ot,hm,m3,hw,m6,hdp⟩:=hi;rw[Gs]at hm hdp;refine Ze (hB (nr:=nr) hn m3 (by omega) ot ds j hd) fun x hx=>?_;obtain⟨t',j',rfl,g1,g2,g3⟩:=hx;refine nx2 _ ⟨m+1,t',j',_,rfl,g1,by omega,by omega, ?_,by omega,by omega⟩;rw[show m+1 - 6=(m - 6)+1 by omega,Nat.pow_succ];omega
   .obtain⟨m,t,j,a6,rfl,ot,hm,m3,hw,m6,hdp⟩:=hi;have hm8:m<=8:=by omega
    have hw2:Mu t<=1500:=by
     have:2 ^ (m - 6)<=2 ^ 2:=Nat.pow_le_pow_right (by omega) (by omega);have:=Nat.mul_le_mul_right 400 this;omega
    have th:Th 5000 t:=⟨U5.mono (by omega) t ot,by omega⟩;obtain⟨z,ez⟩:=rpT_ok ot (by omega) (by omega);refine Ih ez ?_;refine Ze (hF th hs) fun x hx=>?_;subst hx;rw[n4 hs.nm];obtain⟨y,ey⟩:=rp_bl (T4 ns t);refine Ih ey ?_;refine Ze (hL th hs) fun x hx=>?_;subst hx;refine Ih ey ?_;refine Zc (b:=!decide (y=y)) (fun h=>by simp at h) fun _=>?_;refine Ih ez ?_;refine Zc (b:=!decide (z=z)) (fun h=>by simp at h) fun _=>?_;exact nx _ ⟨_,_,_,_,_,_,_,ks,rfl,.inr rfl,.inr rfl,rfl⟩
 .obtain⟨s1,s2,a3,a4,a5,a6,a7,ks,rfl,h1,h2,_⟩:=hi
  have e0:Jd ((n::nr).map T.str) 0=some (.str n):=by
   unfold Jd Qr;rw[if_pos (by omega),if_pos (by rw[Z4,Gs];omega)]
   rfl
  have wn:=U6 hn;have wl:∀x∈n::nr,Bj x:=fun x m=>U6 (sm x m)
  have olist:Nv 20 ((n::nr).map T.str):=Zh.mpr fun t m=>by
   obtain⟨x,mx,rfl⟩:=Gr.mp m;exact(wl x mx).1
  have wlist:=Dw (b:=9) (ts:=(n::nr).map T.str) fun t m=>by
   obtain⟨x,mx,rfl⟩:=Gr.mp m;exact(wl x mx).2
  rw[Z4]at wlist;have n3':(n::nr).length<=3:=by omega
  have good:∀x∈[T.non,.int 7,.str "fleet",.lst [.tup [],.tup []],.tup [.tup [],.tup [],.tup []],.tup [.tup []],.tup [.lst ((n::nr).map .str),.tup []],.tup [.tup [.str n,.str n],.tup []]],Th 5000 x/\Sr ns x=false:=fun x mx=>by
   simp only[Y3,V4,or_false]at mx;rcases mx with rfl | rfl | rfl | rfl | rfl | rfl | rfl | rfl
   .exact⟨⟨trivial,by decide⟩,rfl⟩
   .exact⟨⟨by show (7:Int).natAbs<=_;decide,by decide⟩,rfl⟩
   .exact⟨⟨by unfold U5;decide +kernel,by decide +kernel⟩,rfl⟩
   .exact⟨⟨⟨by decide,⟨by decide,trivial⟩,⟨by decide,trivial⟩,trivial⟩,by decide⟩,rfl⟩
   .exact⟨⟨⟨by decide,⟨by decide,trivial⟩,⟨by decide,trivial⟩,⟨by decide,trivial⟩,trivial⟩,by decide⟩,rfl⟩
   .exact⟨⟨⟨by decide,⟨by decide,trivial⟩,trivial⟩,by decide⟩,rfl⟩
   .refine⟨⟨⟨by show 2<=20;omega,⟨by rw[Z4];omega,olist⟩,⟨by decide,trivial⟩,trivial⟩, ?_⟩,rfl⟩;show Yw ((n::nr).map .str)+1+(0+1+0)<=5000;omega
   .refine⟨⟨⟨by show 2<=20;omega,⟨by show 2<=20;omega,wn.1,wn.1,trivial⟩,⟨by decide,trivial⟩,trivial⟩, ?_⟩, ?_⟩
    .have:=wn.2;show n.length+1+(n.length+1+0)+1+(0+1+0)<=5000;omega
    .show (Vl [.str n,.str n] && _)=false
     have:Vl [.str n,.str n]=false:=by
      unfold Vl;show ((Wm n && (Wm n && true)) && (Pn n n && true))=false
      have:Pn n n=false:=by
       cases e:Pn n n with
       | false=>rfl
       | true=>exact absurd e Xm
      rw[this,B0x,Bool.and_false]
     rw[this];rfl
  have last:∀a3 a4 a5 a6 a7,wS w (Vh [.f (.lst (zs.map .int))]) (lh 4 Zjd) [.f (.lst (zs.map .int)),.f (.dct XB),.f (.lst ((n::nr).map .str)),a3,a4,a5,a6,a7] D:=fun a3 a4 a5 a6 a7=>by
   refine Ze (hF (t:=.tup [.tup [],.tup []]) ⟨⟨by decide,⟨by decide,trivial⟩,⟨by decide,trivial⟩,trivial⟩,by decide⟩ hs) fun x hx=>?_;subst hx;exact rt _ _ rfl
  refine Ia h2 rfl ?_;refine O8 e0 ?_;refine O8 e0 ?_
  refine W9 (fun rest p=>∃(s1 a3 a4 a5 a6 a7:Sl),p=[.f (.lst (zs.map .int)),s1,.f (.lst ((n::nr).map .str)),a3,a4,a5,a6,a7]/\OF s1 (.dct XB)/\(∀x∈rest,Th 5000 x/\Sr ns x=false)/\(rest=[]->s1=.f (.dct XB)))
   ⟨_,_,_,_,_,_,rfl,h1,good,fun z=>nomatch z⟩ (fun u rest p D' hi nx _=>?_) fun p hi=>?_
  .obtain⟨s1,a3,a4,a5,a6,a7,rfl,h1,hr,_⟩:=hi;obtain⟨th,ff⟩:=hr u Vt;refine Ia h1 rfl ?_;refine Ze (hF th hs) fun x hx=>?_;subst hx;rw[ff];exact nx _ ⟨_,_,_,_,_,_,rfl,.inr rfl,fun x m=>hr x (Vf _ m),fun _=>rfl⟩
  .obtain⟨s1,a3,a4,a5,a6,a7,rfl,_,_,hr⟩:=hi;rw[hr rfl];exact last _ _ _ _ _
noncomputable def tabL:List (Str×Df):=[("is_name",Dr),("rises",Dt),("are_labels",V3),("is_fleet",Gw),("is_fleet_of",Vd),("is_program",V2),("_law_cell_at",Vm),("_law_draws",Ua),("_law_take",J4),("_law_shape",Us),("_law_is_plain",Vq),("_law_default",Vb),("_law_part",Gz),("_law_parts",Uh),("_law_make",Gx),("_law_base",Gj),("_law_other_shape",Yc),("_law_second",V1),("_law_makes",Uu),("_law_is_fleet",Vj),("_law_any",Dl),("_law_odd",Dc),("_law_bent",Gq),("law",Fx)]
noncomputable def tab(f:Str):Option Df:=(tabL.find? fun p=>decide (p.1=f)).map (·.2)
noncomputable def gl(x:Str):Option T:=if x = "LETTERS" then some (.str ABC) else if x = "LONGEST_NAME" then some (.int 8) else if x = "is_name" then some (.fn x) else none
noncomputable abbrev C(n:Nat):Cs:=Cn tab gl n
theorem gls:GL gl:=⟨rfl,rfl,rfl⟩
theorem cnW{n:Nat}{f:Str}{d:Df}{as:List Sl}{Q:Sl×ZZ->Prop}(e:tab f=some d)(h:wF d ⟨C n,gl⟩ as Q):∃x,C (n+1) f as=some x/\Q x:=by
 obtain⟨x,h1,h2⟩:=Kq h;exact⟨x,by show (tab f).bind _=_;rw[e];exact h1,h2⟩
theorem Ph{n:Nat}{f:Str}{d:Df}{as:List Sl}{Q:Sl×ZZ->Prop}(e:tab f=some d)(h:wF d ⟨C n,gl⟩ as Q):on (C (n+1) f as) Q:=callW e h
theorem t_take:tab "_law_take" = some J4:=rfl
theorem aj:tab "_law_is_plain" = some Vq:=rfl
theorem xx:tab "_law_default" = some Vb:=rfl
theorem t_part:tab "_law_part" = some Gz:=rfl
theorem aw:tab "_law_parts" = some Uh:=rfl
theorem aq:tab "_law_shape" = some Us:=rfl
theorem t_make:tab "_law_make" = some Gx:=rfl
theorem Vp(n:Nat):Ve (C (n+1)):=fun ds i m hd hm=>by
 obtain⟨x,e,r,hr,rfl⟩:=cnW t_take (ax (w:=⟨C n,gl⟩) ds i m hd hm);exact⟨r,hr,e⟩
theorem Nq(n:Nat):Mh (C (n+1)):=fun N t g=>by
 obtain⟨x,e,rfl⟩:=cnW aj (O9 (w:=⟨C n,gl⟩) g);exact e
theorem qf(n:Nat):Ww (C (n+2)):=fun N t g ds i hd=>by
 obtain⟨x,e,l,j,rfl⟩:=cnW xx (Hn (w:=⟨C (n+1),gl⟩) (Vp n) (Nq n) g ds i hd);exact⟨l,j,e⟩
theorem mo(n:Nat):Ei (C (n+3)):=fun N XB f ds i hd m x b hx=>by
 obtain⟨y,e,ps,j,rfl,h⟩:=cnW t_part (Zzm (w:=⟨C (n+2),gl⟩) (Vp (n+1)) (Nq (n+1)) (qf n) f ds i hd m x b hx);exact⟨ps,j,e,h⟩
theorem Zzc(n:Nat):Pb (C (n+4)):=fun N XB f ds i hd b=>by
 obtain⟨y,e,ps,j,rfl,h⟩:=cnW aw (mf (w:=⟨C (n+3),gl⟩) (Vp (n+2)) (mo n) f ds i hd b);exact⟨ps,j,e,h⟩
theorem Zzd(n:Nat):Wj (C (n+2)):=fun ds i ns hd hn=>by
 obtain⟨y,e,t,j,h,rfl⟩:=cnW aq (km (w:=⟨C (n+1),gl⟩) (Vp n) ds i ns hd hn);exact⟨t,j,h,e⟩
theorem p_make(n:Nat):Zja (C (n+5)):=fun ds i hd=>Ph t_make (Zz5 (w:=⟨C (n+4),gl⟩) (Vp (n+3)) (Zzd (n+2)) (Nq (n+3)) (Zzc n) ds i hd)
theorem Zzn(n:Nat):sf (C (n+4)):=fun {N} hN {XB} f {t} g ds i hd=>Ph (d:=Yc) rfl (m8 (w:=⟨C (n+3),gl⟩) (Vp (n+2)) (mo n) (Nq (n+2)) hN f g ds i hd)
theorem p_base(n:Nat):Zjo (C (n+2)):=fun {N t} g=>Ph (d:=Gj) rfl (Zqt (w:=⟨C (n+1),gl⟩) (Nq n) g)
theorem mh(n:Nat):zd (C (n+5)):=fun {N} hN {x XB} f ds i hd=>Ph (d:=V1) rfl (xg (w:=⟨C (n+4),gl⟩) (Vp (n+3)) (Zzn n) (p_base (n+2)) hN f ds i hd)
theorem Xy(n:Nat):Af (C (n+1)):=fun c m h0 h1=>by
 obtain⟨k,rfl⟩:=Int.eq_ofNat_of_zero_le h0;exact Ph (d:=Ua) rfl (lu (w:=⟨C n,gl⟩) c k (by omega))
theorem m4(n:Nat):sh (C (n+1)):=fun zs k hk=>Ph (d:=Vm) rfl (Zqk (w:=⟨C n,gl⟩) zs k hk)
theorem Zzl(n:Nat):sd (C (n+6)):=fun zs=>Ph (d:=Uu) rfl (tz (w:=⟨C (n+5),gl⟩) (Vp (n+4)) (Xy (n+4)) (m4 (n+4)) (p_make n) (mh n) zs)
theorem p_name(n:Nat):Zju (C (n+1)):=fun {t} h=>Ph (d:=Dr) rfl (Hx (w:=⟨C n,gl⟩) gls h)
theorem Zzt(n:Nat):sg (C (n+1)):=fun ss=>⟨Ph (d:=Dt) rfl (xm (w:=⟨C n,gl⟩) ss),Ph (d:=Dt) rfl (xt (w:=⟨C n,gl⟩) ss)⟩
theorem me(n:Nat):zt (C (n+2)):=fun {ts} h b=>Ph (d:=V3) rfl (qo (w:=⟨C (n+1),gl⟩) (p_name n) (Zzt n) h b)
theorem p_prog(n:Nat):Zjp (C (n+1)):=fun {t} h ns fs=>Ph (d:=V2) rfl (Wc (w:=⟨C n,gl⟩) h ns fs)
theorem qg(n:Nat):Ee (C (n+3)):=fun {t} h ns=>Ph (d:=Vd) rfl (Rm (w:=⟨C (n+2),gl⟩) gls (me n) (p_prog (n+1)) h ns)
theorem Zzr(n:Nat):sr (C (n+4)):=fun {t} h {ns XB} hs=>Ph (d:=Gw) rfl (Sz (w:=⟨C (n+3),gl⟩) (qg n) h hs)
theorem p_law(n:Nat):PLaw (C (n+1)):=fun {t} h {ns XB} hs=>Ph (d:=Vj) rfl (Qt (w:=⟨C n,gl⟩) h hs)
theorem p_any(n:Nat):PAny (C (n+2)):=fun {ns} h0 h3 E5 ds i hd=>Ph (d:=Dl) rfl (any_ok (w:=⟨C (n+1),gl⟩) (Vp n) h0 h3 E5 ds i hd)
theorem p_odd(n:Nat):POdd (C (n+2)):=fun {a b} hn {m} h1 h2 {t} h ds i hd=>Ph (d:=Dc) rfl (odd_ok (w:=⟨C (n+1),gl⟩) (Vp n) hn h1 h2 h ds i hd)
theorem m5:∀d N,d+3<=N->su (C N) d
 | d,N,h=>by
  obtain⟨M,rfl⟩:∃M,N=M+3:=⟨N - 3,by omega⟩;intro hn m h1 h2 t ht ds i hd;refine Ph (d:=Gq) rfl (Zqd (w:=⟨C (M+2),gl⟩) (Vp (M+1)) (p_odd M) (d:=d) (fun e he=>?_) hn h1 h2 ht ds i hd);exact m5 e (M+2) (by omega)
theorem t5(zs:ZL):Od Fx ⟨Cn tab gl 8,gl⟩ [.f (.lst (zs.map .int))]=some (.f (.bl true),[]):=by
 obtain⟨x,e,rfl⟩:=Kq (law_ok (w:=⟨C 8,gl⟩) (Vp 7) (Xy 7) (m4 7) (Zzl 2) (p_any 6) (Zzr 4) (p_law 7) (m5 4 8 (by omega)) zs);exact e
theorem Hb:FC "is_name" (top 3) Dr:=fun X G A=>A.fc (N:=["thing"]) X G (by decide +kernel) fun _ _ _ _ _ _ us hl=>by obtain⟨_,rfl⟩:=us1 hl;rfl
theorem n5:FC "rises" (top 4) Dt:=fun X G A=>A.fc (N:=["things"]) X G (by decide +kernel) fun _ _ _ _ _ _ us hl=>by obtain⟨_,rfl⟩:=us1 hl;rfl
theorem Wp:FC "are_labels" (top 5) V3:=fun X G A=>A.fc (N:=["things","is_label"]) X G (by decide +kernel) fun _ _ _ _ _ _ us hl=>by obtain⟨_,_,rfl⟩:=z0 hl;rfl
theorem S4:FC "is_fleet" (top 7) Gw:=fun X G A=>A.fc (N:=["makes","thing"]) X G (by decide +kernel) fun _ _ _ _ _ _ us hl=>by obtain⟨_,_,rfl⟩:=z0 hl;rfl
theorem Rr:FC "is_fleet_of" (top 8) Vd:=fun X G A=>A.fc (N:=["names","thing","files","programs"]) X G (by decide +kernel) fun _ _ _ _ _ _ us hl=>by obtain⟨_,_,rfl⟩:=z0 hl;rfl
theorem Wh:FC "is_program" (top 9) V2:=fun X G A=>A.fc (N:=["names","files","thing"]) X G (by decide +kernel) fun _ _ _ _ _ _ us hl=>by obtain⟨_,_,_,rfl⟩:=us3 hl;rfl
theorem Rn:FC "_law_cell_at" (top 11) Vm:=fun X G A=>A.fc (N:=["_law_script","_law_k"]) X G (by decide +kernel) fun _ _ _ _ _ _ us hl=>by obtain⟨_,_,rfl⟩:=z0 hl;rfl
theorem Q3:FC "_law_draws" (top 12) Ua:=fun X G A=>A.fc (N:=["_law_cell","_law_many","_law_found","_law_number","_law_mixed","_law_k"]) X G (by decide +kernel) fun _ _ _ _ _ _ us hl=>by obtain⟨_,_,rfl⟩:=z0 hl;rfl
theorem Sa:FC "_law_take" (top 13) J4:=fun X G A=>A.fc (N:=["_law_tape","_law_many"]) X G (by decide +kernel) fun _ _ _ _ _ _ us hl=>by obtain⟨_,_,rfl⟩:=z0 hl;rfl
theorem Qe:FC "_law_shape" (top 14) Us:=fun X G A=>A.fc (N:=["_law_tape","_law_names","_law_way","_law_of","_law_size","_law_low"]) X G (by decide +kernel) fun _ _ _ _ _ _ us hl=>by obtain⟨_,_,rfl⟩:=z0 hl;rfl
theorem T5:FC "_law_is_plain" (top 15) Vq:=fun X G A=>A.fc (N:=["_law_shape_here"]) X G (by decide +kernel) fun _ _ _ _ _ _ us hl=>by obtain⟨_,rfl⟩:=us1 hl;rfl
theorem Rc:FC "_law_default" (top 16) Vb:=fun X G A=>A.fc (N:=["_law_tape","_law_shape_here","_law_way"]) X G (by decide +kernel) fun _ _ _ _ _ _ us hl=>by obtain⟨_,_,rfl⟩:=z0 hl;rfl
theorem So:FC "_law_part" (top 17) Gz:=fun X G A=>A.fc (N:=["_law_tape","_law_forms","_law_number","_law_name","_law_as_field","_law_of"]) X G (by decide +kernel) fun _ _ _ _ _ _ us hl=>by obtain⟨_,_,_,_,_,rfl⟩:=us5 hl;rfl
theorem Q0:FC "_law_parts" (top 18) Uh:=fun X G A=>A.fc (N:=["_law_tape","_law_forms","_law_as_field","_law_parts_here","_law_k"]) X G (by decide +kernel) fun _ _ _ _ _ _ us hl=>by obtain⟨_,_,_,rfl⟩:=us3 hl;rfl
theorem Si:FC "_law_make" (top 19) Gx:=fun X G A=>A.fc (N:=["_law_tape","_law_words","_law_at","_law_names","_law_forms","_law_name","_law_shape_here","_law_struck"]) X G (by decide +kernel) fun _ _ _ _ _ _ us hl=>by obtain⟨_,rfl⟩:=us1 hl;rfl
theorem S0:FC "_law_base" (top 20) Gj:=fun X G A=>A.fc (N:=["_law_shape_here"]) X G (by decide +kernel) fun _ _ _ _ _ _ us hl=>by obtain⟨_,rfl⟩:=us1 hl;rfl
theorem Mc:FC "_law_other_shape" (top 21) Yc:=fun X G A=>A.fc (N:=["_law_tape","_law_forms","_law_shape_here","_law_step","_law_way","_law_low","_law_some","_law_parts_here","_law_at","_law_more","_law_gone","_law_again"]) X G (by decide +kernel) fun _ _ _ _ _ _ us hl=>by obtain⟨_,_,_,rfl⟩:=us3 hl;rfl
theorem Ws:FC "_law_second" (top 22) V1:=fun X G A=>A.fc (N:=["_law_tape","_law_make_here","_law_forms","_law_turned","_law_name","_law_fields","_law_field"]) X G (by decide +kernel) fun _ _ _ _ _ _ us hl=>by obtain⟨_,_,rfl⟩:=z0 hl;rfl
theorem Q2:FC "_law_makes" (top 23) Uu:=fun X G A=>A.fc (N:=["_law_script","_law_least_many","_law_tape","_law_some","_law_many","_law_ahead","_law_at","_law_names"]) X G (by decide +kernel) fun _ _ _ _ _ _ us hl=>by obtain⟨_,_,rfl⟩:=z0 hl;rfl
theorem T6:FC "_law_is_fleet" (top 24) Vj:=fun X G A=>A.fc (N:=["_law_stock","_law_thing","_law_names","_law_program"]) X G (by decide +kernel) fun _ _ _ _ _ _ us hl=>by obtain⟨_,_,rfl⟩:=z0 hl;rfl
theorem Hf:FC "_law_any" (top 25) Dl:=fun X G A=>A.fc (N:=["_law_tape","_law_names","_law_files","_law_programs","_law_name"]) X G (by decide +kernel) fun _ _ _ _ _ _ us hl=>by obtain⟨_,_,rfl⟩:=z0 hl;rfl
theorem Hg:FC "_law_odd" (top 26) Dc:=fun X G A=>A.fc (N:=["_law_tape","_law_names","_law_thing","_law_some"]) X G (by decide +kernel) fun _ _ _ _ _ _ us hl=>by obtain⟨_,_,_,rfl⟩:=us3 hl;rfl
theorem Se:FC "_law_bent" (top 27) Gq:=fun X G A=>A.fc (N:=["_law_tape","_law_names","_law_thing","_law_deep","_law_at"]) X G (by decide +kernel) fun _ _ _ _ _ _ us hl=>by obtain⟨_,_,_,_,rfl⟩:=us4 hl;rfl
theorem ck_law:chk ["_law_script","_law_stock","_law_names","_law_k","_law_tape","_law_thing","_law_turn","_law_kept_one"] Fx (top 28)=true:=by decide +kernel
theorem fc_law:FC "law" (top 28) Fx:=fun X G A=>A.fc (N:=["_law_script","_law_stock","_law_names","_law_k","_law_tape","_law_thing","_law_turn","_law_kept_one"]) X G (by decide +kernel) fun _ _ _ _ _ _ us hl=>by obtain⟨_,rfl⟩:=us1 hl;rfl
set_option maxHeartbeats 0 in
theorem all_mk{l:W.OpenLaw}{w:World}{K:W.Frag}{h:Heap}{mg:ZV}{fa f1 f2 f3 f4 f5 f6 f7 f8 f9 f10 f11 f12 f13 f14 f15 f16 f17 f18 f19 f20 f21 f22 f23 f24:Addr}{d1 d2 d3 d4 d5 d6 d7 d8 d9 d10 d11 d12 d13 d14 d15 d16 d17 d18 d19 d20 d21 d22 d23 d24:FuncData}{tk0 tk1:Tok}(X:K.In h)(G:h.Ns mainGlobals mg)(hfa:mg "law" = some (.ref fa))
  (h1:FA K "is_name" (top 3) f1 d1)
  (h2:FA K "rises" (top 4) f2 d2)
  (h3:FA K "are_labels" (top 5) f3 d3)
  (h4:FA K "is_fleet" (top 7) f4 d4)
  (h5:FA K "is_fleet_of" (top 8) f5 d5)
  (h6:FA K "is_program" (top 9) f6 d6)
  (h7:FA K "_law_cell_at" (top 11) f7 d7)
  (h8:FA K "_law_draws" (top 12) f8 d8)
  (h9:FA K "_law_take" (top 13) f9 d9)
  (h10:FA K "_law_shape" (top 14) f10 d10)
  (h11:FA K "_law_is_plain" (top 15) f11 d11)
  (h12:FA K "_law_default" (top 16) f12 d12)
  (h13:FA K "_law_part" (top 17) f13 d13)
  (h14:FA K "_law_parts" (top 18) f14 d14)
  (h15:FA K "_law_make" (top 19) f15 d15)
  (h16:FA K "_law_base" (top 20) f16 d16)
  (h17:FA K "_law_other_shape" (top 21) f17 d17)
  (h18:FA K "_law_second" (top 22) f18 d18)
  (h19:FA K "_law_makes" (top 23) f19 d19)
  (h20:FA K "_law_is_fleet" (top 24) f20 d20)
  (h21:FA K "_law_any" (top 25) f21 d21)
  (h22:FA K "_law_odd" (top 26) f22 d22)
  (h23:FA K "_law_bent" (top 27) f23 d23)
  (h24:FA K "law" (top 28) f24 d24)
  (Bq:W.nsIn K mainGlobals "LETTERS" = some (some (.str "abcdefghijklmnopqrstuvwxyz" tk0)))
  (V9:W.nsIn K mainGlobals "LONGEST_NAME" = some (some (.int 8 tk1)))
  (vj:W.nsIn K mainGlobals "len" = some none)
  (vg:W.nsIn K mainGlobals "all" = some none)
  (vy:W.nsIn K mainGlobals "any" = some none)
  (E8:W.nsIn K mainGlobals "list" = some none)
  (Fm:W.nsIn K mainGlobals "tuple" = some none)
  (vx:W.nsIn K mainGlobals "min" = some none)
  (vq:W.nsIn K mainGlobals "max" = some none)
  (vw:W.nsIn K mainGlobals "int" = some none)
  (vf:W.nsIn K mainGlobals "abs" = some none)
  (E9:W.nsIn K mainGlobals "dict" = some none)
  (Jt:W.nsIn K mainGlobals "isinstance" = some none)
  (Ct:W.nsIn K mainGlobals "sorted" = some none)
  (vz:W.nsIn K mainGlobals "set" = some none)
  (Ft:W.nsIn K mainGlobals "range" = some none)
  (w4:W.nsIn K mainGlobals "zip" = some none)
  (Gp:W.nsIn K mainGlobals "enumerate" = some none)
  (w6:W.nsIn K mainGlobals "sum" = some none)
  (E7:W.nsIn K mainGlobals "repr" = some none)
  (w8:W.nsIn K mainGlobals "str" = some none)
  (Kz:W.nsIn K mainGlobals "bool" = some none)
  (nl:K6 K=true)
  : ∃fd:FuncData,(∀(s:Shared) (v:Value),BindsTo s fd ⟨[v],[]⟩ [("_law_script",v)])/\∀base:Heap,K.In base->base.Ns mainGlobals mg->Dj l.prog w K mg base uy 9 fa fd ["_law_script"] (Iz K):=by
 have e:=hfa.symm.trans (W.mg_of X G h24.a);cases e;have Zj0:=h24.F
 have ft:∀p∈tabL,B9 K mg p.1 p.2:=by
  unfold tabL;refine Um.mpr ⟨Hb X G h1,Um.mpr ⟨n5 X G h2,Um.mpr ⟨Wp X G h3,Um.mpr ⟨S4 X G h4,Um.mpr ⟨Rr X G h5,Um.mpr ⟨Wh X G h6,Um.mpr ⟨Rn X G h7,Um.mpr ⟨Q3 X G h8,Um.mpr ⟨Sa X G h9,Um.mpr ⟨Qe X G h10,Um.mpr ⟨T5 X G h11,Um.mpr ⟨Rc X G h12,Um.mpr ⟨So X G h13,Um.mpr ⟨Q0 X G h14,Um.mpr ⟨Si X G h15,Um.mpr ⟨S0 X G h16,Um.mpr ⟨Mc X G h17,Um.mpr ⟨Ws X G h18,Um.mpr ⟨Q2 X G h19,Um.mpr ⟨T6 X G h20,Um.mpr ⟨Hf X G h21,Um.mpr ⟨Hg X G h22,Um.mpr ⟨Se X G h23,Um.mpr ⟨fc_law X G h24,fun _ m=>absurd m V4⟩⟩⟩⟩⟩⟩⟩⟩⟩⟩⟩⟩⟩⟩⟩⟩⟩⟩⟩⟩⟩⟩⟩⟩
 have bn:∀x∈Jy,mg x=none:=by
  unfold Jy;refine Um.mpr ⟨W.mg_none_of X G vj,Um.mpr ⟨W.mg_none_of X G vg,Um.mpr ⟨W.mg_none_of X G vy,Um.mpr ⟨W.mg_none_of X G E8,Um.mpr ⟨W.mg_none_of X G Fm,Um.mpr ⟨W.mg_none_of X G vx,Um.mpr ⟨W.mg_none_of X G vq,Um.mpr ⟨W.mg_none_of X G vw,Um.mpr ⟨W.mg_none_of X G vf,Um.mpr ⟨W.mg_none_of X G E9,Um.mpr ⟨W.mg_none_of X G Jt,Um.mpr ⟨W.mg_none_of X G Ct,Um.mpr ⟨W.mg_none_of X G vz,Um.mpr ⟨W.mg_none_of X G Ft,Um.mpr ⟨W.mg_none_of X G w4,Um.mpr ⟨W.mg_none_of X G Gp,Um.mpr ⟨W.mg_none_of X G w6,Um.mpr ⟨W.mg_none_of X G E7,Um.mpr ⟨W.mg_none_of X G w8,Um.mpr ⟨W.mg_none_of X G Kz,fun _ m=>absurd m V4⟩⟩⟩⟩⟩⟩⟩⟩⟩⟩⟩⟩⟩⟩⟩⟩⟩⟩⟩⟩
 have hg:∀x t,gl x=some t->∃v u,mg x=some u/\RelV v u/\∀H F,IsT K mg H F t v:=by
  intro x t e;unfold gl at e
  split at e
  .rename_i z;subst z;cases e;exact⟨.str ABC,_,W.mg_of X G Bq,⟨_,rfl⟩,fun _ _=>rfl⟩
  split at e
  .rename_i z;subst z;cases e;exact⟨.int 8,_,W.mg_of X G V9,⟨_,rfl⟩,fun _ _=>rfl⟩
  split at e
  .rename_i z;subst z;cases e;exact⟨.ref f1,_,W.mg_of X G h1.a,rfl,fun _ _=>⟨_,rfl,W.mg_of X G h1.a⟩⟩
  cases e
 obtain⟨oc,od,kV,doc,pm,an,cdv,ct,osl,rfl,lk,Hy⟩:=Zj0.ex;refine⟨W.fnOf "law" "law" (J3 (top 28)) (Y2 (top 28)) (Zk (top 28)) .none kV doc pm an cdv ct,fun s v=>.of_eq rfl,fun base _ _=>?_⟩;obtain⟨c1,c2,c3,c4,c5⟩:=rg ck_law;exact(Sn (w:=⟨Cn tab gl 8,gl⟩) (d:=Fx) Zj0 c1 c2 c3 c4 c5 bn (knot bn (tab_of ft) hg 8) hg).imp (Zz9 nl fun zs _=>t5 zs)
end K77
open PySem PySem.W PyProof.Rows
set_option maxRecDepth 100000 in
set_option maxHeartbeats 0 in
theorem K77.ws:PySem.Challenge.rw_makes_k77_fleets.wellSaid=true:=by
 delta OpenLaw.wellSaid
 iterate 18 refine look_both ?_ ?_
 case _ =>
  delta OpenRow.wellSaid
  refine look_both (look_both ?_ ?_) ?_
  case _ =>
   delta OpenRow.partSaid
   iterate 13 refine look_both ?_ ?_
   case _ =>
    delta looksOpen
    iterate 5 refine look_both ?_ ?_
    all_goals decide +kernel
   all_goals decide +kernel
  all_goals decide +kernel
 all_goals decide +kernel
set_option maxRecDepth 100000 in
set_option maxHeartbeats 0 in
theorem PySem.Challenge.cw_makes_k77_fleets_holds : PySem.Challenge.rw_makes_k77_fleets.Holds := by
 w_on
 refine holds_law K77.ws fun said=>?_
 refine holds_open (q:=K77.viewK) (loose:=K77.Yd) (XP:=XL K77.viewK []) (YP:=Hook.says (W.kHook K77.heapK K77.asK K77.Pk)) (N:=1648)
  K77.leftK (Hook.of (W.kHook K77.heapK K77.asK K77.Pk)) (Hook.keeps (W.kHook K77.heapK K77.asK K77.Pk)) (fun s e=>xl_of s (uk.mp e).1)
  XL.keeps (by rfl) (by rfl) (by rfl) (fun s e=>recFacts_of (uk.mp e).2) (by rfl) (by assumption)
  (by decide +kernel) ⟨rfl,rfl,rfl,rfl,rfl,by decide +kernel⟩ ?hw ?hc
 case hw=>w_witness2
 k_fill
 refine PV.walkP' (l:=PySem.Challenge.rw_makes_k77_fleets) (k:=9) rfl rfl ⟨rfl,by decide,by decide,rfl⟩ (fun w h Y=>W.kIn_of Y) ?F
 case F =>
  intro w mg fa h KX G hmg;refine' K77.all_mk KX G hmg ?h1 ?h2 ?h3 ?h4 ?h5 ?h6 ?h7 ?h8 ?h9 ?h10 ?h11 ?h12 ?h13 ?h14 ?h15 ?h16 ?h17 ?h18 ?h19 ?h20 ?h21 ?h22 ?h23 ?h24 ?Bq ?V9 ?vj ?vg ?vy ?E8 ?Fm ?vx ?vq ?vw ?vf ?E9 ?Jt ?Ct ?vz ?Ft ?w4 ?Gp ?w6 ?E7 ?w8 ?Kz ?nl
  case h1|h2|h3|h4|h5|h6|h7|h8|h9|h10|h11|h12|h13|h14|h15|h16|h17|h18|h19|h20|h21|h22|h23|h24=>exact⟨by k_is,L2.Z0 (by k_is) (by k_is) (by k_is)⟩
  case Bq|V9|vj|vg|vy|E8|Fm|vx|vq|vw|vf|E9|Jt|Ct|vz|Ft|w4|Gp|w6|E7|w8|Kz=>k_is
  case nl=>kernel_rfl
