import PyProof.Rows.All
import Wide.All
import OpenK.AllK
import Wide.FinOn
import Lean
import PyProof.EqAt
import PyProof.EqKinds
import PyProof.NeKinds
import PyProof.TupleCall
import PyProof.Rows.SetFrom
import PyProof.CollectWalk
import PyProof.DictIter
import PyProof.Rows.SortShell
import KE.KDictSum
import PyProof.Rows.SortStr
import PyProof.ZipIter
import KE.KItemsList
import PyProof.Rows.SumAny
import PyProof.Rows.StrJoin2
import PyProof.Rows.ZipGen
import PyProof.ConsumeWalk
import PyProof.FString5
import PyProof.StrOps2
import PyProof.StrWalks
import PyProof.FactsAll.dict
import PyProof.TupleOps
import KE.KRevIter
import PyProof.ListNew
import PyProof.TupleOfGen
import PyProof.Rows.SeqMore
import PyProof.MeetsSeq2
import PyProof.FactsAll.tuple
import PyProof.FactsAll.list
import OpenK.KTop
import KE.KIsAll
import PyProof.Draws
import PyProof.EnumMake
import PyProof.EnumFor
import PyProof.AutoSeq1
import PyProof.ListRange
import PyProof.StationsW
import PyProof.RulesAs
import PyProof.ExcClass2
import PyProof.Ns1
import PyProof.NsCount
import PyProof.Slots
import PyProof.ExcArgs
import OpenK.KDescr
import OpenK.KMake
import PyProof.InstStoreFacts
import PyProof.ExcBaseAll.ValueError
import OpenK.KOwn
import PyProof.NsDelKeeps
import PyProof.StrBlockG
import PyProof.AutoListH
import KE.KItemsList
import KE.KSortKey
import KE.KTops
import OpenK.AllK
import PyProof.DictIter
import PyProof.DictWalks
import PyProof.EqKinds
import PyProof.FactsAll.set
import PyProof.FactsAll.subtypes_4
import PyProof.FactsAll.tuple_1
import PyProof.ReprDict
import PyProof.ReprLen
import PyProof.Rows.All
import PyProof.Rows.ListMul
import PyProof.SetRoads
import PyProof.StrLawsRepr
import PyProof.ZipIter
import Wide.All
import PySem.Challenge.RW_makes_k23_values_by_kind
set_option maxHeartbeats 2000000
set_option Elab.async false
set_option linter.all false
set_option maxRecDepth 100000
local macro_rules | `(tactic| trivial) => `(tactic| first | exact .inl rfl | exact .inr rfl | rfl | decide | (intro _; rfl) | exact Or.inl rfl | exact Or.inr rfl | assumption | exact ⟨rfl, rfl, rfl, by decide +kernel, rfl, by decide +kernel, by decide +kernel⟩ | fail)
section
open PySem PySem.Spec PyProof.Rows
def Yp:=@List.length_map
def U6:=@List.not_mem_nil
def Dy:=@List.size_toArray
def N6:=@List.mem_singleton
def Gj:=@List.map_append
def Gq:=@decide_eq_true
def Vj:=@Nat.le_refl
def Zo:=@wpAny_bind
def Y7:=@wpAny_pure
def Dp:=@List.mem_map
def Ma:=@List.getElem?_map
def Q8:=@List.getElem?_eq_some_iff
def T6:=@List.mem_append
def Qe:=@Option.map_eq_some_iff
def Xs:=@List.length_append
def Hn:=@Option.some.inj
def Te:=@List.mem_cons_self
def Rq:=@List.mem_cons_of_mem
def G0e:=@List.getElem_mem
def Ow:=@List.mem_of_getElem?
def B0f:=@Bool.false_eq_true
def Nn:=@List.getElem?_eq_getElem
def B0n:=@beq_eq_false_iff_ne
def Hh:=@Nat.lt_of_lt_of_le
def S6:=@List.length_cons
def R5:=@List.map_cons
def G4:=@Heap.get?_push_of_some
def G2:=@List.mem_cons
def B0s:=@beq_self_eq_true
def ph:=@of_decide_eq_true
def Iq:=@Bool.and_eq_true
def Gw:=@Nat.le_trans
def T7:=@Bool.false_ne_true
def Rj:=@Heap.get?_push_size
def Du:=@Heap.lt_size
def T1:=@List.length_take
def Xt:=@List.take_of_length_le
def Om:=@Bool.false_and
def O9:=@Bool.true_and
def Iz:=@Nat.lt_of_le_of_lt
def Wl:=@Nat.zero_le
def jk:=@Array.length_toList
def Oj:=@Nat.ne_of_lt
def Wv:=@List.all_eq_true
def fq:=@Bool.and_eq_true_iff
def My:=@decide_eq_false
def ud:=@List.length_zipWith
def M0r:=@List.mem_append_right
def fc:=@List.take_length
def A0g:=@Array.getElem?_eq_getElem
abbrev Vt:=Value->Shared->Prop
abbrev Uv:=List (Addr×Obj)
abbrev Bw:=Str->Option Value
theorem Zr{α:Type}{a b:α}(h:a=b):a=b:=h
end
namespace L2
open PySem PySem.Spec PyProof.Rows
def inClass(s:Stmt)(j:Nat):Stmt:=match s with
 | .ClassDef _ _ _ body _ _ _ _ _ _ _=>body.getD j (.Pass ⟨0,0,0,0⟩)
 | _=>.Pass ⟨0,0,0,0⟩
def Dh(s:Stmt):Arguments:=match s with
 | .FunctionDef _ a _ _ _ _ _ _ _ _=>a
 | _=>{ posonlyargs:=[],args:=[],vararg:=none,kwonlyargs:=[],kw_defaults:=[],kwarg:=none,defaults:=[] }
def Gs(s:Stmt):List Stmt:=match s with
 | .FunctionDef _ _ b _ _ _ _ _ _ _=>b
 | _=>[]
def Zv(s:Stmt):Scope:=match s with
 | .FunctionDef _ _ _ _ _ _ sc _ _ _=>sc
 | _=>{ kind:=.function,names:=[],isGenerator:=false,isCoroutine:=false }
end L2
namespace K23
open PySem PySem.Spec PyProof.Rows
def top(i:Nat):Stmt:=PySem.Challenge.pw_makes_k23_values_by_kind.main.body.getD i (.Pass ⟨0,0,0,0⟩)
end K23
namespace L2
open PySem PySem.W PySem.Calls PyProof.Rows
section
variable{tb:String->Option Builtin}{p:Program}{w:World}{m:Nat}{a:Option Value}
def Zfl(tb:String->Option Builtin)(p:Program)(w:World)(m:Nat)(a:Option Value):Nat->SharedT->Thread->Option SharedT
 | 0,_,_=>none
 | k+1,s,t=>bif through t then some s else bif stepOk m a t then (match stepT (denote tb) p w s t with | some (s',t')=>Zfl tb p w m a k s' t' | none=>none) else none
theorem oy:∀{k:Nat} {s s':SharedT} {t:Thread},Zfl tb p w m a k s t=some s'->topRun tb p w m a k s.abs t=some s'.abs
 | 0,_,_,_,h=>by cases h
 | k+1,s,s',t,h=>by
  unfold Zfl at h;unfold topRun;cases ht:through t with
  | true=>rw[ht]at h;cases h;rfl
  | false =>
   rw[ht]at h;cases hk:stepOk m a t with
   | false=>rw[hk]at h;cases h
   | true =>
    rw[hk]at h;cases hs:stepT (denote tb) p w s t with
    | none=>rw[hs]at h;cases h
    | some r =>
     obtain⟨s₂,t₂⟩:=r;rw[hs]at h;rw[stepT_spec hs];exact oy h
end
def mkT:List Obj->Nat->BT->BT
 | [],_,t=>t
 | o::l,i,t=>mkT l (i+1) (t.ins i o)
noncomputable abbrev kz(w:World)(os:OsState):Shared:=⟨boot_heap w.params,Array.mk [],boot_drawn,boot_toks,os⟩
noncomputable abbrev Zds(w:World)(os:OsState):SharedT:=⟨mkT (boot_heap w.params).objs.toList 0 .nil,(boot_heap w.params).objs.size,(boot_heap w.params).life,Array.mk [],boot_drawn,boot_toks,os⟩
theorem Zk2(w:World)(os:OsState):(Zds w os).abs=kz w os:=by kernel_rfl
noncomputable abbrev Aq(p:Program)(N:Nat)(w:World)(os:OsState):Option SharedT:=Zfl treeTable p w (boot_heap w.params).objs.size ((boot_heap w.params).nsMap mainGlobals "__annotations__") N (Zds w os) (topStub p)
noncomputable abbrev Zke(p:Program)(w:World)(s:Shared):Bool:=staticsOk (importedModules p.main.body) (boot_heap w.params) s.heap && namesBound p s.heap && gensDone s && laidKept (boot_heap w.params) s.heap
theorem ns_ok(w:World):((boot_heap w.params).isNs mainGlobals && (Array.mk []:Array GenState).size == 0)=true:=by kernel_rfl
theorem Ra{α:Type _}{o:Option SharedT}{f:Shared->α}{r:α}(h:(o.map fun s=>f s.abs)=some r):∃s,o=some s/\f s.abs=r:=by
 obtain⟨s,e,q⟩:=Qe.mp h;exact⟨s,e,q⟩
theorem top_of{α β:Type}{p:Program}{N:Nat}{w:World}{os:OsState}{f:Shared->α}{g:Shared->β}{x:α}{y:β}(h1:((Aq p N w os).map fun s=>Zke p w s.abs)=some true)
  (h2:((Aq p N w os).map fun s=>f s.abs)=some x) (h3:((Aq p N w os).map fun s=>g s.abs)=some y) :
  (topFrom treeTable p w N (kz w os)).map (fun s=>(f s,g s))=some (x,y):=by
 obtain⟨s,e,c⟩:=Ra h1;obtain⟨s2,e2,c2⟩:=Ra h2;obtain⟨s3,e3,c3⟩:=Ra h3;rw[e]at e2 e3;cases e2;cases e3;have r:=oy e;rw[Zk2]at r;unfold topFrom;rw[show ((kz w os).heap.isNs mainGlobals && (kz w os).gens.size == 0)=true from ns_ok w];show Option.map _ (Option.bind (topRun treeTable p w (boot_heap w.params).objs.size ((boot_heap w.params).nsMap mainGlobals "__annotations__") N (kz w os) (topStub p)) _)=_;rw[r];show Option.map _ (match Zke p w s.abs with | true=>some s.abs | false=>none)=_;rw[c];show some (f s.abs,g s.abs)=_;rw[c2,c3]
end L2
namespace K23
open PySem PySem.Spec PyProof.Rows L2
def viewK:Program:={ PySem.Challenge.pw_makes_k23_values_by_kind with main:={ PySem.Challenge.pw_makes_k23_values_by_kind.main with body:=[top 1,top 2,top 3,top 4,top 5,top 6,top 7,top 8,top 9,top 10,top 11,top 12,top 13,top 14,top 15,top 16,top 17,top 18,top 19,top 20,top 22,top 23,top 25,top 27,top 28,top 29,top 30,top 31,top 32,top 33,top 34,top 35,top 37,top 38,top 39,top 40,top 41,top 42,top 43,top 44,top 45,top 46,top 47,top 48,top 49,top 50,top 51,top 52,top 53,top 54,top 55,top 56,top 57,top 58,top 59,top 60,top 61,top 62,top 63] } }
def U0:List Str:=[]
abbrev en(P:Params)(x:Str)(t:Tok)(v:Value):DictEntry:=⟨PyData.keyHash P x,.str x t,v⟩
abbrev fo(cls:Value)(nm q:Str)(s:Stmt)(kw doc pm:Value)(an:Option Addr)(cd ct:Value)(sl:Array (Option Value)):Obj:=⟨cls,none,.func (W.fnOf nm q (L2.Dh s) (L2.Gs s) (L2.Zv s) .none kw doc pm an cd ct),sl⟩
abbrev fn(nm q:Str)(s:Stmt)(md:Str)(t:Nat)(c:Addr):Obj:=fo (.type "function") nm q s .none .none (.str md t) .none (.ref c) .none #[]
abbrev cd(x:Str)(a:Nat)(q:Str)(b c:Nat)(l k:Int)(r1 r2 r3 r4 r5:Addr)(e f:Int)(g:Nat):Obj:=⟨.type "code",.none,.fields #[.str x a,.str q b,.str "/claim/cut.py" c,.int l 0,.int k 0,.int 0 0,.int 0 0,.int 3 0,.ref r1,.bool Bool.true,.int 181 0,.ref r2,.none,.ref r3,.ref r4,.ref r5,.int e 0,.int f 0,.str "/claim/cut.py" g], #[]⟩
noncomputable def heapK:Params->W.Frag:=fun P =>
 (nat_lit 3, ⟨.type "dict", .none, .dict #[en P "__name__" 165 (.str "law_makes_k23_values_by_kind" 397), en P "__doc__" 166 (.none), en P "__package__" 167 (.none), en P "__loader__" 168 (.builtin "__main__.__loader__#opaque"), en P "__spec__" 169 (.none), en P "__annotations__" 170 (.ref 6), en P "__builtins__" 171 (.ref 4), en P "__file__" 173 (.str "/claim/cut.py" 172), en P "__cached__" 174 (.none), en P "LETTERS" 190 (.str "abcdefghijklmnopqrstuvwxyz" 189), en P "SIGNS" 192 (.str " !\"#$&'()*+,-./0123456789:;<=>?@ABCDEFGHIJKLMNOPQRSTUVWXYZ[\\]^_`abcdefghijklmnopqrstuvwxyz{|}~" 191), en P "GREATEST_WHOLE" 194 (.int 1000000000000000000 193), en P "GREATEST_NUMBER" 196 (.int 999 195), en P "LONGEST_TEXT" 198 (.int 200 197), en P "LONGEST_NAME" 200 (.int 8 199), en P "DEEPEST" 202 (.int 100 201), en P "is_whole" 211 (.ref 21), en P "is_item_whole" 218 (.ref 28), en P "is_number" 225 (.ref 35), en P "is_text" 231 (.ref 40), en P "is_name" 237 (.ref 45), en P "rises" 243 (.ref 50), en P "is_item" 249 (.ref 55), en P "level_below" 258 (.ref 62), en P "items_in" 264 (.ref 67), en P "is_right_outside" 271 (.ref 74), en P "is_right_behind" 277 (.ref 79), en P "are_pairs" 283 (.ref 84), en P "are_labels" 289 (.ref 89), en P "is_single_value" 299 (.ref 96), en P "member_of" 308 (.ref 103), en P "form_of" 318 (.ref 110), en P "is_value" 329 (.ref 117), en P "is_own" 338 (.ref 124), en P "is_right_through" 351 (.ref 131), en P "parts_in" 361 (.ref 138), en P "parts_in_row" 367 (.ref 143), en P "parts_in_map" 373 (.ref 148), en P "parts_in_record" 379 (.ref 153), en P "are_others" 385 (.ref 158), en P "parts_in_choice" 396 (.ref 165), en P "_law_feed" 405 (.ref 172), en P "_law_draw" 417 (.ref 179), en P "_law_is_name" 423 (.ref 184), en P "_law_whole" 432 (.ref 191), en P "_law_is_text" 438 (.ref 196), en P "_law_rise" 444 (.ref 201), en P "_law_names" 450 (.ref 206), en P "_law_numbers" 456 (.ref 211), en P "_law_plain_shape" 467 (.ref 218), en P "_law_plain_value" 475 (.ref 225), en P "_law_struck" 481 (.ref 230), en P "_law_parts" 496 (.ref 237), en P "_law_make" 502 (.ref 242), en P "_law_value" 508 (.ref 247), en P "_law_record" 524 (.ref 254), en P "_law_item" 530 (.ref 259), en P "_law_wild" 536 (.ref 264), en P "_law_odd" 545 (.ref 271), en P "_law_bent" 555 (.ref 278), en P "_law_is_item" 561 (.ref 283), en P "_law_are_pairs" 567 (.ref 288), en P "_law_is" 573 (.ref 293), en P "_law_is_record" 579 (.ref 298), en P "_law_is_choice" 585 (.ref 303), en P "_law_asked" 595 (.ref 310), en P "_law_deep_right" 609 (.ref 317), en P "law" 625 (.ref 324)] 68, #[]⟩) ::
 (nat_lit 20,cd "is_whole" 203 "is_whole" 204 205 9 3 15 16 17 18 19 209 9 210) ::
 (nat_lit 21,fn "is_whole" "is_whole" (top 8) "makes.items" 187 20) ::
 (nat_lit 27,cd "is_item_whole" 212 "is_item_whole" 213 214 11 1 22 23 24 25 26 216 11 217) ::
 (nat_lit 28,fn "is_item_whole" "is_item_whole" (top 9) "makes.items" 187 27) ::
 (nat_lit 34,cd "is_number" 219 "is_number" 220 221 13 1 29 30 31 32 33 223 13 224) ::
 (nat_lit 35,fn "is_number" "is_number" (top 10) "makes.items" 187 34) ::
 (nat_lit 39,⟨.type "code",.none,.fields #[.str "is_text" 226,.str "is_text" 227,.str "/claim/cut.py" 228,.int 15 0,.int 2 0,.int 0 0,.int 0 0,.int 3 0,.ref 36,.bool Bool.true,.int 181 0,.ref 37,.none,.none,.none,.ref 38,.int 229 0,.int 15 0,.str "/claim/cut.py" 230], #[]⟩) ::
 (nat_lit 40,fn "is_text" "is_text" (top 11) "makes.items" 187 39) ::
 (nat_lit 44,⟨.type "code",.none,.fields #[.str "is_name" 232,.str "is_name" 233,.str "/claim/cut.py" 234,.int 17 0,.int 1 0,.int 0 0,.int 0 0,.int 3 0,.ref 41,.bool Bool.true,.int 181 0,.ref 42,.none,.none,.none,.ref 43,.int 235 0,.int 17 0,.str "/claim/cut.py" 236], #[]⟩) ::
 (nat_lit 45,fn "is_name" "is_name" (top 12) "makes.items" 187 44) ::
 (nat_lit 49,⟨.type "code",.none,.fields #[.str "rises" 238,.str "rises" 239,.str "/claim/cut.py" 240,.int 21 0,.int 1 0,.int 0 0,.int 0 0,.int 3 0,.ref 46,.bool Bool.true,.int 181 0,.ref 47,.none,.none,.none,.ref 48,.int 241 0,.int 21 0,.str "/claim/cut.py" 242], #[]⟩) ::
 (nat_lit 50,fn "rises" "rises" (top 13) "makes.items" 187 49) ::
 (nat_lit 54,⟨.type "code",.none,.fields #[.str "is_item" 244,.str "is_item" 245,.str "/claim/cut.py" 246,.int 23 0,.int 1 0,.int 0 0,.int 0 0,.int 3 0,.ref 51,.bool Bool.true,.int 181 0,.ref 52,.none,.none,.none,.ref 53,.int 247 0,.int 23 0,.str "/claim/cut.py" 248], #[]⟩) ::
 (nat_lit 55,fn "is_item" "is_item" (top 14) "makes.items" 187 54) ::
 (nat_lit 61,cd "level_below" 250 "level_below" 251 252 32 1 56 57 58 59 60 256 32 257) ::
 (nat_lit 62,fn "level_below" "level_below" (top 15) "makes.items" 187 61) ::
 (nat_lit 66,⟨.type "code",.none,.fields #[.str "items_in" 259,.str "items_in" 260,.str "/claim/cut.py" 261,.int 37 0,.int 1 0,.int 0 0,.int 0 0,.int 3 0,.ref 63,.bool Bool.true,.int 181 0,.ref 64,.none,.none,.none,.ref 65,.int 262 0,.int 37 0,.str "/claim/cut.py" 263], #[]⟩) ::
 (nat_lit 67,fn "items_in" "items_in" (top 16) "makes.items" 187 66) ::
 (nat_lit 73,cd "is_right_outside" 265 "is_right_outside" 266 267 45 1 68 69 70 71 72 269 45 270) ::
 (nat_lit 74,fn "is_right_outside" "is_right_outside" (top 17) "makes.items" 187 73) ::
 (nat_lit 78,⟨.type "code",.none,.fields #[.str "is_right_behind" 272,.str "is_right_behind" 273,.str "/claim/cut.py" 274,.int 51 0,.int 2 0,.int 0 0,.int 0 0,.int 3 0,.ref 75,.bool Bool.true,.int 181 0,.ref 76,.none,.none,.none,.ref 77,.int 275 0,.int 51 0,.str "/claim/cut.py" 276], #[]⟩) ::
 (nat_lit 79,fn "is_right_behind" "is_right_behind" (top 18) "makes.items" 187 78) ::
 (nat_lit 83,⟨.type "code",.none,.fields #[.str "are_pairs" 278,.str "are_pairs" 279,.str "/claim/cut.py" 280,.int 63 0,.int 1 0,.int 0 0,.int 0 0,.int 3 0,.ref 80,.bool Bool.true,.int 181 0,.ref 81,.none,.none,.none,.ref 82,.int 281 0,.int 63 0,.str "/claim/cut.py" 282], #[]⟩) ::
 (nat_lit 84,fn "are_pairs" "are_pairs" (top 19) "makes.items" 187 83) ::
 (nat_lit 88,⟨.type "code",.none,.fields #[.str "are_labels" 284,.str "are_labels" 285,.str "/claim/cut.py" 286,.int 65 0,.int 2 0,.int 0 0,.int 0 0,.int 3 0,.ref 85,.bool Bool.true,.int 181 0,.ref 86,.none,.none,.none,.ref 87,.int 287 0,.int 65 0,.str "/claim/cut.py" 288], #[]⟩) ::
 (nat_lit 89,fn "are_labels" "are_labels" (top 20) "makes.items" 187 88) ::
 (nat_lit 95,cd "is_single_value" 292 "is_single_value" 293 294 68 2 90 91 92 93 94 297 68 298) ::
 (nat_lit 96,fn "is_single_value" "is_single_value" (top 22) "makes.shapes" 290 95) ::
 (nat_lit 102,cd "member_of" 300 "member_of" 301 302 74 2 97 98 99 100 101 306 74 307) ::
 (nat_lit 103,fn "member_of" "member_of" (top 23) "makes.shapes" 290 102) ::
 (nat_lit 109,cd "form_of" 311 "form_of" 312 313 80 2 104 105 106 107 108 316 80 317) ::
 (nat_lit 110,fn "form_of" "form_of" (top 25) "makes.forms" 309 109) ::
 (nat_lit 116,cd "is_value" 321 "is_value" 322 323 83 3 111 112 113 114 115 327 83 328) ::
 (nat_lit 117,fn "is_value" "is_value" (top 27) "makes.values" 319 116) ::
 (nat_lit 123,cd "is_own" 330 "is_own" 331 332 85 3 118 119 120 121 122 336 85 337) ::
 (nat_lit 124,fn "is_own" "is_own" (top 28) "makes.values" 319 123) ::
 (nat_lit 130,cd "is_right_through" 339 "is_right_through" 340 341 87 4 125 126 127 128 129 349 87 350) ::
 (nat_lit 131,fn "is_right_through" "is_right_through" (top 29) "makes.values" 319 130) ::
 (nat_lit 137,cd "parts_in" 352 "parts_in" 353 354 96 3 132 133 134 135 136 359 96 360) ::
 (nat_lit 138,fn "parts_in" "parts_in" (top 30) "makes.values" 319 137) ::
 (nat_lit 142,⟨.type "code",.none,.fields #[.str "parts_in_row" 362,.str "parts_in_row" 363,.str "/claim/cut.py" 364,.int 107 0,.int 2 0,.int 0 0,.int 0 0,.int 3 0,.ref 139,.bool Bool.true,.int 181 0,.ref 140,.none,.none,.none,.ref 141,.int 365 0,.int 107 0,.str "/claim/cut.py" 366], #[]⟩) ::
 (nat_lit 143,fn "parts_in_row" "parts_in_row" (top 31) "makes.values" 319 142) ::
 (nat_lit 147,⟨.type "code",.none,.fields #[.str "parts_in_map" 368,.str "parts_in_map" 369,.str "/claim/cut.py" 370,.int 111 0,.int 2 0,.int 0 0,.int 0 0,.int 3 0,.ref 144,.bool Bool.true,.int 181 0,.ref 145,.none,.none,.none,.ref 146,.int 371 0,.int 111 0,.str "/claim/cut.py" 372], #[]⟩) ::
 (nat_lit 148,fn "parts_in_map" "parts_in_map" (top 32) "makes.values" 319 147) ::
 (nat_lit 152,⟨.type "code",.none,.fields #[.str "parts_in_record" 374,.str "parts_in_record" 375,.str "/claim/cut.py" 376,.int 115 0,.int 3 0,.int 0 0,.int 0 0,.int 3 0,.ref 149,.bool Bool.true,.int 181 0,.ref 150,.none,.none,.none,.ref 151,.int 377 0,.int 115 0,.str "/claim/cut.py" 378], #[]⟩) ::
 (nat_lit 153,fn "parts_in_record" "parts_in_record" (top 33) "makes.values" 319 152) ::
 (nat_lit 157,⟨.type "code",.none,.fields #[.str "are_others" 380,.str "are_others" 381,.str "/claim/cut.py" 382,.int 122 0,.int 3 0,.int 0 0,.int 0 0,.int 3 0,.ref 154,.bool Bool.true,.int 181 0,.ref 155,.none,.none,.none,.ref 156,.int 383 0,.int 122 0,.str "/claim/cut.py" 384], #[]⟩) ::
 (nat_lit 158,fn "are_others" "are_others" (top 34) "makes.values" 319 157) ::
 (nat_lit 164,cd "parts_in_choice" 386 "parts_in_choice" 387 388 128 3 159 160 161 162 163 394 128 395) ::
 (nat_lit 165,fn "parts_in_choice" "parts_in_choice" (top 35) "makes.values" 319 164) ::
 (nat_lit 171,cd "_law_feed" 399 "_law_feed" 400 401 137 1 166 167 168 169 170 403 137 404) ::
 (nat_lit 172,fn "_law_feed" "_law_feed" (top 37) "law_makes_k23_values_by_kind" 397 171) ::
 (nat_lit 178,cd "_law_draw" 406 "_law_draw" 407 408 139 2 173 174 175 176 177 415 139 416) ::
 (nat_lit 179,fn "_law_draw" "_law_draw" (top 38) "law_makes_k23_values_by_kind" 397 178) ::
 (nat_lit 183,⟨.type "code",.none,.fields #[.str "_law_is_name" 418,.str "_law_is_name" 419,.str "/claim/cut.py" 420,.int 153 0,.int 1 0,.int 0 0,.int 0 0,.int 3 0,.ref 180,.bool Bool.true,.int 181 0,.ref 181,.none,.none,.none,.ref 182,.int 421 0,.int 153 0,.str "/claim/cut.py" 422], #[]⟩) ::
 (nat_lit 184,fn "_law_is_name" "_law_is_name" (top 39) "law_makes_k23_values_by_kind" 397 183) ::
 (nat_lit 190,cd "_law_whole" 424 "_law_whole" 425 426 157 3 185 186 187 188 189 430 157 431) ::
 (nat_lit 191,fn "_law_whole" "_law_whole" (top 40) "law_makes_k23_values_by_kind" 397 190) ::
 (nat_lit 195,⟨.type "code",.none,.fields #[.str "_law_is_text" 433,.str "_law_is_text" 434,.str "/claim/cut.py" 435,.int 159 0,.int 2 0,.int 0 0,.int 0 0,.int 3 0,.ref 192,.bool Bool.true,.int 181 0,.ref 193,.none,.none,.none,.ref 194,.int 436 0,.int 159 0,.str "/claim/cut.py" 437], #[]⟩) ::
 (nat_lit 196,fn "_law_is_text" "_law_is_text" (top 41) "law_makes_k23_values_by_kind" 397 195) ::
 (nat_lit 200,⟨.type "code",.none,.fields #[.str "_law_rise" 439,.str "_law_rise" 440,.str "/claim/cut.py" 441,.int 163 0,.int 1 0,.int 0 0,.int 0 0,.int 3 0,.ref 197,.bool Bool.true,.int 181 0,.ref 198,.none,.none,.none,.ref 199,.int 442 0,.int 163 0,.str "/claim/cut.py" 443], #[]⟩) ::
 (nat_lit 201,fn "_law_rise" "_law_rise" (top 42) "law_makes_k23_values_by_kind" 397 200) ::
 (nat_lit 205,⟨.type "code",.none,.fields #[.str "_law_names" 445,.str "_law_names" 446,.str "/claim/cut.py" 447,.int 165 0,.int 2 0,.int 0 0,.int 0 0,.int 3 0,.ref 202,.bool Bool.true,.int 181 0,.ref 203,.none,.none,.none,.ref 204,.int 448 0,.int 165 0,.str "/claim/cut.py" 449], #[]⟩) ::
 (nat_lit 206,fn "_law_names" "_law_names" (top 43) "law_makes_k23_values_by_kind" 397 205) ::
 (nat_lit 210,⟨.type "code",.none,.fields #[.str "_law_numbers" 451,.str "_law_numbers" 452,.str "/claim/cut.py" 453,.int 170 0,.int 2 0,.int 0 0,.int 0 0,.int 3 0,.ref 207,.bool Bool.true,.int 181 0,.ref 208,.none,.none,.none,.ref 209,.int 454 0,.int 170 0,.str "/claim/cut.py" 455], #[]⟩) ::
 (nat_lit 211,fn "_law_numbers" "_law_numbers" (top 44) "law_makes_k23_values_by_kind" 397 210) ::
 (nat_lit 217,cd "_law_plain_shape" 457 "_law_plain_shape" 458 459 173 2 212 213 214 215 216 465 173 466) ::
 (nat_lit 218,fn "_law_plain_shape" "_law_plain_shape" (top 45) "law_makes_k23_values_by_kind" 397 217) ::
 (nat_lit 224,cd "_law_plain_value" 468 "_law_plain_value" 469 470 184 2 219 220 221 222 223 473 184 474) ::
 (nat_lit 225,fn "_law_plain_value" "_law_plain_value" (top 46) "law_makes_k23_values_by_kind" 397 224) ::
 (nat_lit 229,⟨.type "code",.none,.fields #[.str "_law_struck" 476,.str "_law_struck" 477,.str "/claim/cut.py" 478,.int 192 0,.int 2 0,.int 0 0,.int 0 0,.int 3 0,.ref 226,.bool Bool.true,.int 181 0,.ref 227,.none,.none,.none,.ref 228,.int 479 0,.int 192 0,.str "/claim/cut.py" 480], #[]⟩) ::
 (nat_lit 230,fn "_law_struck" "_law_struck" (top 47) "law_makes_k23_values_by_kind" 397 229) ::
 (nat_lit 236,cd "_law_parts" 482 "_law_parts" 483 484 194 3 231 232 233 234 235 494 194 495) ::
 (nat_lit 237,fn "_law_parts" "_law_parts" (top 48) "law_makes_k23_values_by_kind" 397 236) ::
 (nat_lit 241,⟨.type "code",.none,.fields #[.str "_law_make" 497,.str "_law_make" 498,.str "/claim/cut.py" 499,.int 204 0,.int 1 0,.int 0 0,.int 0 0,.int 3 0,.ref 238,.bool Bool.true,.int 181 0,.ref 239,.none,.none,.none,.ref 240,.int 500 0,.int 204 0,.str "/claim/cut.py" 501], #[]⟩) ::
 (nat_lit 242,fn "_law_make" "_law_make" (top 49) "law_makes_k23_values_by_kind" 397 241) ::
 (nat_lit 246,⟨.type "code",.none,.fields #[.str "_law_value" 503,.str "_law_value" 504,.str "/claim/cut.py" 505,.int 221 0,.int 4 0,.int 0 0,.int 0 0,.int 3 0,.ref 243,.bool Bool.true,.int 181 0,.ref 244,.none,.none,.none,.ref 245,.int 506 0,.int 221 0,.str "/claim/cut.py" 507], #[]⟩) ::
 (nat_lit 247,fn "_law_value" "_law_value" (top 50) "law_makes_k23_values_by_kind" 397 246) ::
 (nat_lit 253,cd "_law_record" 509 "_law_record" 510 511 244 4 248 249 250 251 252 522 244 523) ::
 (nat_lit 254,fn "_law_record" "_law_record" (top 51) "law_makes_k23_values_by_kind" 397 253) ::
 (nat_lit 258,⟨.type "code",.none,.fields #[.str "_law_item" 525,.str "_law_item" 526,.str "/claim/cut.py" 527,.int 254 0,.int 2 0,.int 0 0,.int 0 0,.int 3 0,.ref 255,.bool Bool.true,.int 181 0,.ref 256,.none,.none,.none,.ref 257,.int 528 0,.int 254 0,.str "/claim/cut.py" 529], #[]⟩) ::
 (nat_lit 259,fn "_law_item" "_law_item" (top 52) "law_makes_k23_values_by_kind" 397 258) ::
 (nat_lit 263,⟨.type "code",.none,.fields #[.str "_law_wild" 531,.str "_law_wild" 532,.str "/claim/cut.py" 533,.int 268 0,.int 4 0,.int 0 0,.int 0 0,.int 3 0,.ref 260,.bool Bool.true,.int 181 0,.ref 261,.none,.none,.none,.ref 262,.int 534 0,.int 268 0,.str "/claim/cut.py" 535], #[]⟩) ::
 (nat_lit 264,fn "_law_wild" "_law_wild" (top 53) "law_makes_k23_values_by_kind" 397 263) ::
 (nat_lit 270,cd "_law_odd" 537 "_law_odd" 538 539 287 2 265 266 267 268 269 543 287 544) ::
 (nat_lit 271,fn "_law_odd" "_law_odd" (top 54) "law_makes_k23_values_by_kind" 397 270) ::
 (nat_lit 277,cd "_law_bent" 546 "_law_bent" 547 548 291 2 272 273 274 275 276 553 291 554) ::
 (nat_lit 278,fn "_law_bent" "_law_bent" (top 55) "law_makes_k23_values_by_kind" 397 277) ::
 (nat_lit 282,⟨.type "code",.none,.fields #[.str "_law_is_item" 556,.str "_law_is_item" 557,.str "/claim/cut.py" 558,.int 299 0,.int 1 0,.int 0 0,.int 0 0,.int 3 0,.ref 279,.bool Bool.true,.int 181 0,.ref 280,.none,.none,.none,.ref 281,.int 559 0,.int 299 0,.str "/claim/cut.py" 560], #[]⟩) ::
 (nat_lit 283,fn "_law_is_item" "_law_is_item" (top 56) "law_makes_k23_values_by_kind" 397 282) ::
 (nat_lit 287,⟨.type "code",.none,.fields #[.str "_law_are_pairs" 562,.str "_law_are_pairs" 563,.str "/claim/cut.py" 564,.int 315 0,.int 2 0,.int 0 0,.int 0 0,.int 3 0,.ref 284,.bool Bool.true,.int 181 0,.ref 285,.none,.none,.none,.ref 286,.int 565 0,.int 315 0,.str "/claim/cut.py" 566], #[]⟩) ::
 (nat_lit 288,fn "_law_are_pairs" "_law_are_pairs" (top 57) "law_makes_k23_values_by_kind" 397 287) ::
 (nat_lit 292,⟨.type "code",.none,.fields #[.str "_law_is" 568,.str "_law_is" 569,.str "/claim/cut.py" 570,.int 322 0,.int 4 0,.int 0 0,.int 0 0,.int 3 0,.ref 289,.bool Bool.true,.int 181 0,.ref 290,.none,.none,.none,.ref 291,.int 571 0,.int 322 0,.str "/claim/cut.py" 572], #[]⟩) ::
 (nat_lit 293,fn "_law_is" "_law_is" (top 58) "law_makes_k23_values_by_kind" 397 292) ::
 (nat_lit 297,⟨.type "code",.none,.fields #[.str "_law_is_record" 574,.str "_law_is_record" 575,.str "/claim/cut.py" 576,.int 339 0,.int 4 0,.int 0 0,.int 0 0,.int 3 0,.ref 294,.bool Bool.true,.int 181 0,.ref 295,.none,.none,.none,.ref 296,.int 577 0,.int 339 0,.str "/claim/cut.py" 578], #[]⟩) ::
 (nat_lit 298,fn "_law_is_record" "_law_is_record" (top 59) "law_makes_k23_values_by_kind" 397 297) ::
 (nat_lit 302,⟨.type "code",.none,.fields #[.str "_law_is_choice" 580,.str "_law_is_choice" 581,.str "/claim/cut.py" 582,.int 348 0,.int 4 0,.int 0 0,.int 0 0,.int 3 0,.ref 299,.bool Bool.true,.int 181 0,.ref 300,.none,.none,.none,.ref 301,.int 583 0,.int 348 0,.str "/claim/cut.py" 584], #[]⟩) ::
 (nat_lit 303,fn "_law_is_choice" "_law_is_choice" (top 60) "law_makes_k23_values_by_kind" 397 302) ::
 (nat_lit 309,cd "_law_asked" 586 "_law_asked" 587 588 355 3 304 305 306 307 308 593 355 594) ::
 (nat_lit 310,fn "_law_asked" "_law_asked" (top 61) "law_makes_k23_values_by_kind" 397 309) ::
 (nat_lit 316,cd "_law_deep_right" 596 "_law_deep_right" 597 598 358 4 311 312 313 314 315 607 358 608) ::
 (nat_lit 317,fn "_law_deep_right" "_law_deep_right" (top 62) "law_makes_k23_values_by_kind" 397 316) ::
 (nat_lit 323,cd "law" 610 "law" 611 612 365 1 318 319 320 321 322 623 365 624) ::
 (nat_lit 324,fn "law" "law" (top 63) "law_makes_k23_values_by_kind" 397 323) ::
 []
def asK:List Addr:=[3,20,21,27,28,34,35,39,40,44,45,49,50,54,55,61,62,66,67,73,74,78,79,83,84,88,89,95,96,102,103,109,110,116,117,123,124,130,131,137,138,142,143,147,148,152,153,157,158,164,165,171,172,178,179,183,184,190,191,195,196,200,201,205,206,210,211,217,218,224,225,229,230,236,237,241,242,246,247,253,254,258,259,263,264,270,271,277,278,282,283,287,288,292,293,297,298,302,303,309,310,316,317,323,324]
theorem qc(P:Params):asK=(heapK P).map (·.1):=by kernel_rfl
noncomputable abbrev Wf:W.Hook:=W.kHook heapK asK qc
abbrev xtK(s:Shared):Bool:=W.xlAt viewK [] s && W.recOk (W.RowW.records PySem.Challenge.rw_makes_k23_values_by_kind.row.toRowW) s
abbrev um(w:World):Prop:=(W.openEnds treeTable PySem.Challenge.pw_makes_k23_values_by_kind w 3352).map (fun s=>(W.openSeen viewK U0 (importedModules PySem.Challenge.pw_makes_k23_values_by_kind.main.body) xtK true s,Wf.obs s))=some (W.openGood viewK U0,Wf.val w)
abbrev Mv(s:Shared):=W.openSeen viewK U0 (importedModules PySem.Challenge.pw_makes_k23_values_by_kind.main.body) xtK true s
abbrev wK(w:World)(b:Bool):World:=w.withFollow "special-get-raises" b
theorem chkF(w:World)(os:OsState):((L2.Aq PySem.Challenge.pw_makes_k23_values_by_kind 3352 (wK w false) os).map fun s=>L2.Zke PySem.Challenge.pw_makes_k23_values_by_kind (wK w false) s.abs)=some true:=by kernel_rfl
theorem chkR(w:World)(os:OsState):((L2.Aq PySem.Challenge.pw_makes_k23_values_by_kind 3352 (wK w true) os).map fun s=>L2.Zke PySem.Challenge.pw_makes_k23_values_by_kind (wK w true) s.abs)=some true:=by kernel_rfl
theorem seenF1(w:World)(os:OsState):((L2.Aq PySem.Challenge.pw_makes_k23_values_by_kind 3352 (wK w false) os).map fun s=>(Mv s.abs).1)=some (W.openGood viewK U0).1:=by kernel_rfl
theorem seenF2(w:World)(os:OsState):((L2.Aq PySem.Challenge.pw_makes_k23_values_by_kind 3352 (wK w false) os).map fun s=>(Mv s.abs).2.1)=some (W.openGood viewK U0).2.1:=by kernel_rfl
theorem seenF3(w:World)(os:OsState):((L2.Aq PySem.Challenge.pw_makes_k23_values_by_kind 3352 (wK w false) os).map fun s=>(Mv s.abs).2.2)=some (W.openGood viewK U0).2.2:=by kernel_rfl
theorem seenT1(w:World)(os:OsState):((L2.Aq PySem.Challenge.pw_makes_k23_values_by_kind 3352 (wK w true) os).map fun s=>(Mv s.abs).1)=some (W.openGood viewK U0).1:=by kernel_rfl
theorem seenT2(w:World)(os:OsState):((L2.Aq PySem.Challenge.pw_makes_k23_values_by_kind 3352 (wK w true) os).map fun s=>(Mv s.abs).2.1)=some (W.openGood viewK U0).2.1:=by kernel_rfl
theorem seenT3(w:World)(os:OsState):((L2.Aq PySem.Challenge.pw_makes_k23_values_by_kind 3352 (wK w true) os).map fun s=>(Mv s.abs).2.2)=some (W.openGood viewK U0).2.2:=by kernel_rfl
theorem oq{w:World}{os:OsState}(h1:((L2.Aq PySem.Challenge.pw_makes_k23_values_by_kind 3352 w os).map fun s=>(Mv s.abs).1)=some (W.openGood viewK U0).1)(h2:((L2.Aq PySem.Challenge.pw_makes_k23_values_by_kind 3352 w os).map fun s=>(Mv s.abs).2.1)=some (W.openGood viewK U0).2.1)
  (h3:((L2.Aq PySem.Challenge.pw_makes_k23_values_by_kind 3352 w os).map fun s=>(Mv s.abs).2.2)=some (W.openGood viewK U0).2.2):((L2.Aq PySem.Challenge.pw_makes_k23_values_by_kind 3352 w os).map fun s=>Mv s.abs)=some (W.openGood viewK U0):=by
 obtain⟨s,e,c1⟩:=L2.Ra (f:=fun s=>(Mv s).1) h1;obtain⟨s2,e2,c2⟩:=L2.Ra (f:=fun s=>(Mv s).2.1) h2;obtain⟨s3,e3,c3⟩:=L2.Ra (f:=fun s=>(Mv s).2.2) h3;rw[e]at e2 e3;cases e2;cases e3;rw[e];exact congrArg some (Prod.ext c1 (Prod.ext c2 c3))
theorem seenF(w:World)(os:OsState):((L2.Aq PySem.Challenge.pw_makes_k23_values_by_kind 3352 (wK w false) os).map fun s=>Mv s.abs)=some (W.openGood viewK U0):=oq (seenF1 w os) (seenF2 w os) (seenF3 w os)
theorem seenT(w:World)(os:OsState):((L2.Aq PySem.Challenge.pw_makes_k23_values_by_kind 3352 (wK w true) os).map fun s=>Mv s.abs)=some (W.openGood viewK U0):=oq (seenT1 w os) (seenT2 w os) (seenT3 w os)
theorem obsF(w:World)(os:OsState):((L2.Aq PySem.Challenge.pw_makes_k23_values_by_kind 3352 (wK w false) os).map fun s=>Wf.obs s.abs)=some (Wf.val (wK w false)):=by kernel_rfl
theorem obsT(w:World)(os:OsState):((L2.Aq PySem.Challenge.pw_makes_k23_values_by_kind 3352 (wK w true) os).map fun s=>Wf.obs s.abs)=some (Wf.val (wK w true)):=by kernel_rfl
theorem Zzv(w:World)(h1:∀os,((L2.Aq PySem.Challenge.pw_makes_k23_values_by_kind 3352 w os).map fun s=>L2.Zke PySem.Challenge.pw_makes_k23_values_by_kind w s.abs)=some true)(h2:∀os,((L2.Aq PySem.Challenge.pw_makes_k23_values_by_kind 3352 w os).map fun s=>Mv s.abs)=some (W.openGood viewK U0))(h3:∀os,((L2.Aq PySem.Challenge.pw_makes_k23_values_by_kind 3352 w os).map fun s=>Wf.obs s.abs)=some (Wf.val w)):um w:=by
 obtain⟨⟨hp,g,d,k,os⟩,hs,hv⟩:=Qe.mp (W.boot_open (p:=PySem.Challenge.pw_makes_k23_values_by_kind) (N:=3352) rfl (by decide) (fun s=>rfl) w);simp only[Prod.mk.injEq]at hv;obtain⟨rfl,rfl,rfl,rfl⟩:=hv;show Option.map _ (Option.bind (W.fencedOpening treeTable PySem.Challenge.pw_makes_k23_values_by_kind w 3352) (W.topFrom treeTable PySem.Challenge.pw_makes_k23_values_by_kind w 3352))=_;rw[hs];exact L2.top_of (h1 os) (h2 os) (h3 os)
theorem leftF(w:World):um (w.withFollow "special-get-raises" false):=Zzv _ (chkF w) (seenF w) (obsF w)
theorem leftT(w:World):um (w.withFollow "special-get-raises" true):=Zzv _ (chkR w) (seenT w) (obsT w)
theorem leftK:W.LeftO PySem.Challenge.pw_makes_k23_values_by_kind viewK U0 xtK Wf.obs Wf.val 3352:=W.byRow2 "special-get-raises" leftF leftT
end K23
namespace L2
open PySem PySem.Spec PyProof.Rows
abbrev Um:=Sum Int Str
def O0:Um->Value->Bool
 | .inl k,v=>Value.isInt k v
 | .inr x,v=>Value.isStrOf x v
def keyH(w:World):Um->Int
 | .inl k=>hashInt k
 | .inr x=>hashStr w x
theorem Vb:∀{k:Um} {v:Value},O0 k v=true->(∃i t,k=Sum.inl i/\v=Value.int i t)\/(∃x t,k=Sum.inr x/\v=Value.str x t)
 | .inl i,v,h=>by
  obtain⟨t,e⟩:=Value.isInt_shape (k:=i) (v:=v) h;exact .inl ⟨i,t,rfl,e⟩
 | .inr x,v,h=>by
  obtain⟨t,e⟩:=Value.isStrOf_shape (x:=x) (v:=v) h;exact .inr ⟨x,t,rfl,e⟩
theorem I9(i:Int)(t:Tok):O0 (.inl i) (.int i t)=true:=by simp[O0,Value.isInt]
theorem I8(x:Str)(t:Tok):O0 (.inr x) (.str x t)=true:=by simp[O0,Value.isStrOf]
theorem key_ll(a b:Int):decide ((Sum.inl a:Um)=Sum.inl b)=(a == b):=by
 by_cases e:a=b
 ·subst e;simp
 ·have h:¬ (Sum.inl a:Um)=Sum.inl b:=fun q=>e (Sum.inl.inj q);rw[My h];exact(B0n.mpr e).symm
theorem key_rr(a b:Str):decide ((Sum.inr a:Um)=Sum.inr b)=decide (a=b):=by
 by_cases e:a=b
 ·subst e;simp
 ·have h:¬ (Sum.inr a:Um)=Sum.inr b:=fun q=>e (Sum.inr.inj q);rw[My h,My e]
theorem key_lr(a:Int)(b:Str):decide ((Sum.inl a:Um)=Sum.inr b)=false:=My (fun q=>nomatch q)
theorem key_rl(a:Str)(b:Int):decide ((Sum.inr a:Um)=Sum.inl b)=false:=My (fun q=>nomatch q)
def Y2(prog:Program)(w:World):PySem.KeyKind prog w Um where
 is:=O0
 hash:=keyH w
 inj:=fun v a b ha hb=>by
  rcases Vb ha with ⟨i,t,rfl,rfl⟩ | ⟨x,t,rfl,rfl⟩
  ·rcases Vb hb with ⟨j,u,rfl,e⟩ | ⟨y,u,rfl,e⟩
   ·injection e with e1 _;rw[e1]
   ·exact nomatch e
  ·rcases Vb hb with ⟨j,u,rfl,e⟩ | ⟨y,u,rfl,e⟩
   ·exact nomatch e
   ·injection e with e1 _;rw[e1]
 byValue:=fun k v h=>by
  rcases Vb h with ⟨i,t,rfl,rfl⟩ | ⟨x,t,rfl,rfl⟩<;>rfl
 pyHash:=fun hv h=>by
  rcases Vb hv with ⟨i,t,rfl,rfl⟩ | ⟨x,t,rfl,rfl⟩
  ·exact wpAny_pyHash_int h
  ·exact wpAny_pyHash_str h
 eqBool:=fun hu hv h=>by
  rcases Vb hu with ⟨i,t,rfl,rfl⟩ | ⟨x,t,rfl,rfl⟩
  ·rcases Vb hv with ⟨j,u,rfl,rfl⟩ | ⟨y,u,rfl,rfl⟩
   ·rw[key_ll]at h;exact wpAny_eqBool_int h
   ·rw[key_lr]at h;exact SeqAt.EqAt.int_str i t y u _ _ _ _ h
  ·rcases Vb hv with ⟨j,u,rfl,rfl⟩ | ⟨y,u,rfl,rfl⟩
   ·rw[key_rl]at h;exact SeqAt.EqAt.str_int x t j u _ _ _ _ h
   ·rw[key_rr]at h;exact wpAny_eqBool_str h
 «strs»:=fun k x t v h=>by
  rcases Vb h with ⟨i,u,rfl,e⟩ | ⟨y,u,rfl,e⟩
  ·exact nomatch e
  ·injection e with e1 _
   subst e1;cases v<;>rfl
theorem vj(prog:Program)(w:World)(i:Int)(t:Tok):(Y2 prog w).is (.inl i) (.int i t)=true:=I9 i t
theorem vq(prog:Program)(w:World)(x:Str)(t:Tok):(Y2 prog w).is (.inr x) (.str x t)=true:=I8 x t
inductive V where
 | non | bl(b:Bool) | int(i:Int) | str(x:Str) | byt(b:Array UInt8) | flt(b:UInt64) | ref(a:Addr) | ty(n:String)
 deriving DecidableEq
def Z9:V->Value->Prop
 | .non,u=>u=Value.none
 | .bl b,u=>u=Value.bool b
 | .int i,u=>∃t,u=Value.int i t
 | .str x,u=>∃t,u=Value.str x t
 | .byt b,u=>∃t,u=Value.bytes b t
 | .flt b,u=>∃t,u=Value.float b t
 | .ref a,u=>u=Value.ref a
 | .ty n,u=>u=Value.type n
abbrev Yb:List V->List Value->Prop:=Paired Z9
theorem Yb.length{xs:List V}{us:List Value}(r:Yb xs us):xs.length=us.length:=Paired.length r
theorem Yb.get:∀{xs:List V} {us:List Value} {i:Nat} {x:V},Yb xs us->xs[i]?=some x->∃u,us[i]?=some u/\Z9 x u
 | _,_,_,_,.nil,e=>by simp at e
 | _,_,0,_,.cons r _,e=>by simp at e;subst e;exact⟨_,rfl,r⟩
 | _,_,i+1,x,.cons _ t,e=>by
  obtain⟨u,h1,h2⟩:=Yb.get (i:=i) (x:=x) t (by simpa using e);exact⟨u,by simpa using h1,h2⟩
theorem Yb.set{x:V}{u:Value}(r:Z9 x u):∀{xs:List V} {us:List Value} (i:Nat),Yb xs us->Yb (xs.set i x) (us.set i u)
 | _,_,_,.nil=>.nil
 | _,_,0,.cons _ t=>.cons r t
 | _,_,i+1,.cons q t=>.cons q (Yb.set r i t)
theorem Yb.append:∀{xs ys:List V} {us ws:List Value},Yb xs us->Yb ys ws->Yb (xs++ys) (us++ws)
 | _,_,_,_,.nil,s=>s
 | _,_,_,_,.cons r t,s=>.cons r (Yb.append t s)
theorem Yb.take:∀{xs:List V} {us:List Value} (n:Nat),Yb xs us->Yb (xs.take n) (us.take n)
 | _,_,0,_=>.nil
 | _,_,_+1,.nil=>.nil
 | _,_,n+1,.cons r t=>.cons r (Yb.take n t)
theorem Yb.drop:∀{xs:List V} {us:List Value} (n:Nat),Yb xs us->Yb (xs.drop n) (us.drop n)
 | _,_,0,r=>r
 | _,_,_+1,.nil=>.nil
 | _,_,n+1,.cons _ t=>Yb.drop n t
def Qi:Option V->Option Value->Prop
 | some v,some u=>Z9 v u
 | none,none=>True
 | _,_=>False
def KV{κ:Type}:List (κ×V)->List (κ×Value)->Prop:=Paired fun(p:κ×V) (q:κ×Value)=>p.1=q.1/\Z9 p.2 q.2
def kV:Um->V
 | .inl i=>.int i
 | .inr x=>.str x
inductive HO where
 | lst(xs:List V)
 | tup (xs:List V)
 | dK (kvs:List (Um×V)) | dT (kvs:List (List Um×V))
 | set (S:Int->Bool) (n:Nat)
 | ins (C dx:Addr) (fs:List (Str×V))
 | own (x:Addr)
 | xd (fs:List (Str×V))
 | met (f x:Addr)
 | rng (lo hi:Int)
 | frz (o:Obj) (u:HO)
 | tbl (ps:Array Value)
 | ext (φ:Heap->Prop)
abbrev Hp:=Addr->Option HO
def Yq(H:Hp)(a:Addr)(o:HO):Hp:=fun b=>if b=a then some o else H b
theorem Zz{H:Hp}{a:Addr}{o:HO}:Yq H a o a=some o:=by unfold Yq;rw[if_pos rfl]
theorem Zl{H:Hp}{a b:Addr}{o:HO}(h:b≠a):Yq H a o b=H b:=by unfold Yq;rw[if_neg h]
theorem S8{H:Hp}{a:Addr}{o u:HO}:Yq (Yq H a o) a u=Yq H a u:=by
 funext b;unfold Yq;split<;>rfl
theorem ne_of{H:Hp}{a b:Addr}{o u:HO}(h:H a=some o)(h':H b=some u)(d:o≠u):a≠b:=by
 intro e;subst e;rw[h]at h';exact d (Hn h')
theorem Yw{H:Hp}{a b:Addr}{o:HO}(h:H a=some o)(h':H b=none):a≠b:=by
 intro e;subst e;rw[h]at h';cases h'
section
variable(P:Program)(w:World)
def Hc(h:Heap)(a:Addr)(its:Array Value):Prop:=∃o,h.get? a=some o/\o.cls=.type "tuple" /\ (∃n,o.data=.seq its n)/\o.dict=none
theorem Hc.tup{h:Heap}{a:Addr}{its:Array Value}(x:Hc h a its):IsTup h a its:=let ⟨o,e,c,d,_⟩:=x;⟨o,e,c,d⟩
theorem Hc.lt{h:Heap}{a:Addr}{its:Array Value}(x:Hc h a its):a<h.objs.size:=x.tup.lt
theorem Hc.new(h:Heap)(its:Array Value):Hc (h.push { cls:=.type "tuple",data:=.seq its }) h.objs.size its:=⟨_,Rj _ rfl,rfl,⟨_,rfl⟩,rfl⟩
def Vq(H:Hp)(h:Heap)(a:Addr):HO->Prop
 | .lst xs=>xs.length<=sizeLine/\∃(its:List Value) (n:Nat),Yb xs its/\h.get? a=some { cls:=.type "list",data:=.seq its.toArray n }
 | .tup xs=>xs.length<=sizeLine/\∃its:List Value,Yb xs its/\Hc h a its.toArray
 | .dK kvs=>kvs.length<=sizeLine/\(a == sysModules)=false/\∃vs,KV kvs vs/\h.DictOf (Y2 P w) a vs
 | .dT kvs=>kvs.length<=sizeLine/\(a == sysModules)=false/\∃xs:List (List Um×Addr×Value),
   Paired (fun(p:List Um×V) (q:List Um×Addr×Value)=>p.1=q.1/\H q.2.1=some (.tup (p.1.map kV))/\Z9 p.2 q.2.2) kvs xs /\
   ∃o es ep,h.get? a=some o/\o.ExactDict/\o.data=.dict es ep/\es.toList=xs.map (entryOfKey (tupleKind (Y2 P w)))/\(xs.map (·.1)).Nodup
 | .set S n=>h.SetOf (intKind P w) a S n
 | .ins C dx fs=>H dx=some (.own a)/\fs.length<=1000/\dx≠a/\h.get? a=some (W.instObj C dx) /\
   ∃mA,h.Ns1 dx mA/\(∀f,Qi (fs.lookup f) (mA f))/\PySem.Within mA (fs.map (·.1))
 | .own _=>∃o,h.get? a=some o
 | .xd fs=>∃mA,h.Ns1 a mA/\∀f,Qi (fs.lookup f) (mA f)
 | .rng lo hi=>∃t u v,h.get? a=some { cls:=.type "range",data:=.fields #[.int lo t,.int hi u,.int 1 v] }
 | .frz o u=>h.get? a=some o/\Vq H h a u
 | .tbl ps=>h.get? a=some { cls:=.none,data:=.fields ps }
 | .met f x=>h.get? a=some (W.methodObj (.ref f) (.ref x))
 | .ext φ=>φ h/\(∃o,h.get? a=some o)/\∀h1 h2:Heap,φ h1->(∀o,h1.get? a=some o->h2.get? a=some o)->φ h2
def R6(H:Hp)(h:Heap):Prop:=∀a o,H a=some o->Vq P w H h a o
end
section
variable{P:Program}{w:World}{H H':Hp}{h h':Heap}{a:Addr}{o:HO}
theorem Vq.lt(x:Vq P w H h a o):a<h.objs.size:=by
 cases o with
 | lst xs=>obtain⟨_,_,_,_,e⟩:=x;exact Du e
 | tup xs=>obtain⟨_,_,_,p⟩:=x;exact p.lt
 | dK kvs=>obtain⟨_,_,_,_,o,_,_,e,_⟩:=x;exact Du e
 | dT kvs=>obtain⟨_,_,_,_,o,_,_,e,_⟩:=x;exact Du e
 | set S n=>obtain⟨o,_,_,_,e,_⟩:=x;exact Du e
 | ins C dx fs=>obtain⟨_,_,_,e,_⟩:=x;exact Du e
 | own y=>obtain⟨_,e⟩:=x;exact Du e
 | xd fs=>obtain⟨_,⟨_,_,_,e,_⟩,_⟩:=x;exact Du e
 | rng lo hi=>obtain⟨_,_,_,e⟩:=x;exact Du e
 | frz ob u=>obtain⟨e,_⟩:=x;exact Du e
 | tbl ps=>exact Du (show h.get? a=some _ from x)
 | met f y=>exact Du (show h.get? a=some _ from x)
 | ext φ=>obtain⟨_,⟨_,e⟩,_⟩:=x;exact Du e
theorem Paired.mapP{α β:Type}{F G:α->β->Prop}:∀{l₁:List α} {l₂:List β},Paired F l₁ l₂->(∀a b,F a b->G a b)->Paired G l₁ l₂
 | _,_,.nil,_=>.nil
 | _,_,.cons r t,f=>.cons (f _ _ r) (Paired.mapP t f)
theorem Vq.stay(x:Vq P w H h a o)(k:∀b u,(b=a\/H b=some (.own a))->h.get? b=some u->h'.get? b=some u)
  (ho:∀b,H b=some (.own a)->H' b=some (.own a)) (ht:∀b xs,H b=some (.tup xs)->H' b=some (.tup xs)):Vq P w H' h' a o:=by
 induction o with
 | lst xs=>obtain⟨z,its,n,r,e⟩:=x;exact⟨z,its,n,r,k _ _ (.inl rfl) e⟩
 | tup xs=>obtain⟨z,its,r,ob,e,c⟩:=x;exact⟨z,its,r,ob,k _ _ (.inl rfl) e,c⟩
 | dK kvs=>obtain⟨z,y,vs,r,ob,es,ep,e,c⟩:=x;exact⟨z,y,vs,r,ob,es,ep,k _ _ (.inl rfl) e,c⟩
 | dT kvs =>
  obtain⟨z,y,xs,r,ob,es,ep,e,c⟩:=x;exact⟨z,y,xs,Paired.mapP r fun p q z=>⟨z.1,ht _ _ z.2.1,z.2.2⟩,ob,es,ep,k _ _ (.inl rfl) e,c⟩
 | set S n=>obtain⟨ob,es,ep,t,e,c⟩:=x;exact⟨ob,es,ep,t,k _ _ (.inl rfl) e,c⟩
 | ins C dx fs =>
  obtain⟨d,z,ne,e,mA,⟨od,es,ep,e2,c⟩,r⟩:=x;exact⟨ho _ d,z,ne,k _ _ (.inl rfl) e,mA,⟨od,es,ep,k _ _ (.inr d) e2,c⟩,r⟩
 | own y=>obtain⟨ob,e⟩:=x;exact⟨ob,k _ _ (.inl rfl) e⟩
 | xd fs=>obtain⟨mA,⟨od,es,ep,e,c⟩,r⟩:=x;exact⟨mA,⟨od,es,ep,k _ _ (.inl rfl) e,c⟩,r⟩
 | rng lo hi=>obtain⟨t,u,v,e⟩:=x;exact⟨t,u,v,k _ _ (.inl rfl) e⟩
 | frz ob u ih=>obtain⟨e,q⟩:=x;exact⟨k _ _ (.inl rfl) e,ih q⟩
 | tbl ps =>
  have e:h.get? a=some { cls:=.none,data:=.fields ps }:=x;show h'.get? a=some { cls:=.none,data:=.fields ps };exact k a _ (.inl rfl) e
 | met f y =>
  have e:h.get? a=some (W.methodObj (.ref f) (.ref y)):=x;show h'.get? a=some (W.methodObj (.ref f) (.ref y));exact k a _ (.inl rfl) e
 | ext φ=>obtain⟨p,⟨o,e⟩,st⟩:=x;exact⟨st _ _ p fun o q=>k _ _ (.inl rfl) q,⟨o,k _ _ (.inl rfl) e⟩,st⟩
theorem R6.lt(x:R6 P w H h)(e:H a=some o):a<h.objs.size:=(x a o e).lt
theorem R6.fresh(x:R6 P w H h)(e:h.objs.size<=a):H a=none:=by
 cases q:H a with
 | none=>rfl
 | some u=>exact absurd (Hh (x.lt q) e) (Nat.lt_irrefl _)
theorem R6.kept(x:R6 P w H h)(k:∀b u,h.get? b=some u->h'.get? b=some u):R6 P w H h':=fun a o e =>
 (x a o e).stay (fun b u _ q=>k b u q) (fun _ q=>q) fun _ _ q=>q
theorem R6.laid(x:R6 P w H h)(k:∀b u,h.get? b=some u->h'.get? b=some u)(hp:h.objs.size<=a)(new:Vq P w (Yq H a o) h' a o):R6 P w (Yq H a o) h':=fun b u e=>by
 have hn:=x.fresh hp;by_cases hb:b=a
 ·subst hb;rw[Zz]at e;cases e;exact new
 ·rw[Zl hb]at e;exact(x b u e).stay (fun c v _ q=>k c v q) (fun c q=>by rw[Zl (Yw q hn)];exact q) fun c xs q=>by rw[Zl (Yw q hn)];exact q
end
def Rd(H:Hp)(a:Addr)(u:HO):Prop:=H a=some u\/∃o,H a=some (.frz o u)
theorem Rd.of{H:Hp}{a:Addr}{u:HO}(h:H a=some u):Rd H a u:=.inl h
theorem Rd.ok{P:Program}{w:World}{H:Hp}{h:Heap}{a:Addr}{u:HO}(r:Rd H a u)(x:R6 P w H h):Vq P w H h a u:=by
 rcases r with r | ⟨o,r⟩
 ·exact x a u r
 ·obtain⟨_,q⟩:=x a _ r;exact q
def Mut:Option HO->Prop
 | some (.lst _)=>True
 | some (.dK _)=>True
 | some (.dT _)=>True
 | some (.set _ _)=>True
 | some (.ins _ _ _)=>True
 | some (.ext _)=>True
 | _=>False
section
variable{P:Program}{w:World}{H:Hp}{h h':Heap}{x e:Addr}{o':HO}
theorem R6.write(ok:R6 P w H h)(mu:Mut (H x))(he:e=x\/H e=some (.own x))(k:∀b u,b≠e->h.get? b=some u->h'.get? b=some u)(heo:∃u,h'.get? e=some u)
  (new:Vq P w (Yq H x o') h' x o'):R6 P w (Yq H x o') h':=fun b u q=>by
 have nown:∀c y,H c=some (.own y)->c≠x:=fun c y r z=>by subst z;rw[r]at mu;exact mu
 have ntup:∀c xs,H c=some (.tup xs)->c≠x:=fun c xs r z=>by subst z;rw[r]at mu;exact mu
 by_cases hb:b=x
 ·subst hb;rw[Zz]at q;cases q;exact new
 ·rw[Zl hb]at q;by_cases hbe:b=e
  ·have q':H b=some (.own x):=by
    rcases he with z | z
    ·exact absurd (hbe.trans z) hb
    ·rw[hbe];exact z
   rw[q]at q';cases q';obtain⟨v,hv⟩:=heo;exact⟨v,by rw[hbe];exact hv⟩
  ·refine(ok b u q).stay (fun c v hc r=>k c v ?_ r) (fun c r=>by rw[Zl (nown c b r)];exact r) fun c xs r=>by rw[Zl (ntup c xs r)];exact r
   rcases hc with rfl | hc
   ·exact hbe
   ·rintro rfl;rcases he with z | z
    ·exact nown c b hc z
    ·rw[hc]at z;cases z;exact hb rfl
end
structure Un(fs ex:List Addr)(H H':Hp)(h h':Heap):Prop where
 keep:∀b o,h.get? b=some o->H b=none->b ∉ fs->b ∉ ex->h'.get? b=some o
 slot:∀b o,h.get? b=some o->H b=none->b∈fs->b ∉ ex->∃sl,h'.get? b=some { o with slots:=sl }
 free:∀b o,h.get? b=some o->H b=none->b ∉ ex->H' b=none
 there:∀b o,h.get? b=some o->b ∉ ex->∃o',h'.get? b=some o'
 tups:∀b xs,H b=some (.tup xs)->H' b=some (.tup xs)
 frzs:∀b o u,H b=some (.frz o u)->H' b=some (.frz o u)
 tbls:∀b ps,H b=some (.tbl ps)->∃more,H' b=some (.tbl (ps++more))
section
variable{fs fs' ex ex':List Addr}{H H1 H2:Hp}{h h1 h2 h':Heap}{a x e:Addr}{o:HO}
theorem Un.any(u:Un fs ex H H1 h h1){b:Addr}{ob:Obj}(q:h.get? b=some ob)(n:H b=none)(hx:b ∉ ex):∃sl,h1.get? b=some { ob with slots:=sl }:=by
 by_cases hb:b∈fs
 ·exact u.slot b ob q n hb hx
 ·exact⟨ob.slots,u.keep b ob q n hb hx⟩
theorem Un.trans(a:Un fs ex H H1 h h1)(b:Un fs ex H1 H2 h1 h2):Un fs ex H H2 h h2 where
 keep:=fun c ob q n hc hx=>b.keep c ob (a.keep c ob q n hc hx) (a.free c ob q n hx) hc hx
 slot:=fun c ob q n hc hx=>by
  obtain⟨sl,e1⟩:=a.slot c ob q n hc hx;obtain⟨sl',e2⟩:=b.slot c _ e1 (a.free c ob q n hx) hc hx;exact⟨sl',e2⟩
 free:=fun c ob q n hx=>by
  obtain⟨o',e1⟩:=a.there c ob q hx;exact b.free c o' e1 (a.free c ob q n hx) hx
 there:=fun c ob q hx=>by
  obtain⟨o',e1⟩:=a.there c ob q hx;exact b.there c o' e1 hx
 tups:=fun c xs q=>b.tups c xs (a.tups c xs q)
 frzs:=fun c ob xs q=>b.frzs c ob xs (a.frzs c ob xs q)
 tbls:=fun c ps q=>by
  obtain⟨m1,e1⟩:=a.tbls c ps q;obtain⟨m2,e2⟩:=b.tbls c _ e1;exact⟨m1++m2,by rw[e2,Array.append_assoc]⟩
theorem Un.kept(k:∀b u,h.get? b=some u->h'.get? b=some u):Un fs ex H H h h' :=
 ⟨fun b ob q _ _ _=>k b ob q,fun b ob q _ _ _=>⟨ob.slots,k b ob q⟩,fun _ _ _ n _=>n,fun b ob q _=>⟨ob,k b ob q⟩,fun _ _ q=>q,fun _ _ _ q=>q,fun _ ps q=>⟨#[],by rw[q];simp⟩⟩
theorem Un.refl:Un fs ex H H h h:=Un.kept fun _ _ q=>q
theorem Un.laid(k:∀b u,h.get? b=some u->h'.get? b=some u)(hp:h.objs.size<=a)(hn:H a=none):Un fs ex H (Yq H a o) h h' where
 keep:=fun b u q _ _ _=>k b u q
 slot:=fun b u q _ _ _=>⟨u.slots,k b u q⟩
 free:=fun b u q n _=>by rw[Zl (Oj (Hh (Du q) hp))];exact n
 there:=fun b u q _=>⟨u,k b u q⟩
 tups:=fun b xs q=>by rw[Zl (Yw q hn)];exact q
 frzs:=fun b u xs q=>by rw[Zl (Yw q hn)];exact q
 tbls:=fun b ps q=>⟨#[],by rw[Zl (Yw q hn),q];simp⟩
theorem Un.write(mu:Mut (H x))(he:e=x\/H e=some (.own x))(k:∀b u,b≠e->h.get? b=some u->h'.get? b=some u)(heo:∃u,h'.get? e=some u):Un fs ex H (Yq H x o) h h':=by
 have hx:∀b,H b=none->b≠x:=fun b n z=>by subst z;rw[n]at mu;exact mu
 have hb:∀b,H b=none->b≠e:=fun b n z=>by
  subst z;rcases he with r | r
  ·exact hx b n r
  ·rw[n]at r;cases r
 have hm:∀b u,H b=some u->¬ Mut (some u)->b≠x:=fun b u q nm z=>by subst z;rw[q]at mu;exact nm mu
 refine⟨fun b u q n _ _=>k b u (hb b n) q,fun b u q n _ _=>⟨u.slots,k b u (hb b n) q⟩,fun b u q n _=>by rw[Zl (hx b n)];exact n,fun b u q _=>?_,
  fun b xs q=>by rw[Zl (hm b _ q fun z=>z)];exact q,fun b u xs q=>by rw[Zl (hm b _ q fun z=>z)];exact q,fun b ps q=>⟨#[],by rw[Zl (hm b _ q fun z=>z),q];simp⟩⟩
 by_cases hbe:b=e
 ·subst hbe;exact heo
 ·exact⟨u,k b u hbe q⟩
theorem Un.mono(u:Un fs ex H H1 h h1)(hs:∀b∈fs,b∈fs')(hx:∀b∈ex,b∈ex'):Un fs' ex' H H1 h h1 :=
 ⟨fun b ob q n hb he=>u.keep b ob q n (fun z=>hb (hs b z)) fun z=>he (hx b z),fun _ _ q n _ he=>u.any q n fun z=>he (hx _ z),fun b ob q n he=>u.free b ob q n fun z=>he (hx b z),fun b ob q he=>u.there b ob q fun z=>he (hx b z),u.tups,u.frzs,u.tbls⟩
end
def trk(h:Heap)(H:Hp):List Addr:=(List.range h.objs.size).filter fun a=>(H a).isSome
def xj(h:Heap)(H:Hp):Heap:=W.hideAll h (trk h H)
theorem Zqh(h:Heap)(H:Hp):(xj h H).objs.size=h.objs.size:=W.hideAll_size _ _
theorem Zy8{h:Heap}{H:Hp}{b:Addr}{o:Obj}(e:h.get? b=some o)(n:H b=none):(xj h H).get? b=some o :=
 W.hideAll_get _ e fun hm=>by
  have q:(H b).isSome=true:=(List.mem_filter.mp hm).2;rw[n]at q;simp at q
theorem Zbk{h:Heap}{H:Hp}{b:Addr}{o:Obj}(e:(xj h H).get? b=some o):h.get? b=some o/\H b=none:=by
 have e':h.get? b=some o:=W.of_hideAll (trk h H) e;refine⟨e', ?_⟩;cases q:H b with
 | none=>rfl
 | some x =>
  have hm:b∈trk h H:=List.mem_filter.mpr ⟨List.mem_range.mpr (Du e'),by simp[q]⟩;have z:(xj h H).get? b=none:=W.hideAll_none (trk h H) hm;rw[z]at e;cases e
def Zmi(g h:Heap)(L:Addr):List (Addr×Obj):=(List.range h.objs.size).filterMap fun a=>if a=L\/(g.get? a).isSome=true then none else (h.get? a).map fun o=>(a,o)
def Mm(g h:Heap)(L d:Addr):List (Addr×Obj):=(Zmi g h L).filter fun p=>decide (p.1≠d)
structure Mod(K:W.Frag)(mg:Bw)(base:Heap):Prop where
 kin:K.In base
 glob:base.Ns mainGlobals mg
 blt:∃mb,base.Ns builtinsNs mb/\∀x:Str,x ≠ "__name__" -> mb x=bootBuiltins x
 nolimit:base.NoLimit
structure Cx where
 prog:Program
 w:World
 K:W.Frag
 mg:Str->Option Value
 base:Heap
 A:Around
 N:List Str
 s₀:Shared
 H₀:Hp
 env:Env
 outer:List Env
 stack:List Env
 ex:List Addr
 fn:Str->Bool
 calm:Bool
 pn:List (Addr×Obj)
 xe:Value->Shared->Prop
def frs(l:List Env):List Addr:=l.filterMap (·.frame)
abbrev Cx.fs(X:Cx):List Addr:=frs X.outer
def Vis(sc:Scope)(x:Str):Prop:=sc.names.lookup x=some .local\/sc.names.lookup x=some .cell\/sc.names.lookup x=some .free
def Loc(sc:Scope)(x:Str):Prop:=sc.names.lookup x=some .local\/sc.names.lookup x=some .cell
def Look(env:Env)(h:Heap)(m:Bw)(x:Str)(u:Value):Prop :=
 (env.kindOf x=some .local/\m x=some u)\/((env.kindOf x=some .cell\/env.kindOf x=some .free)/\∃c,env.cells.lookup x=some c/\h.IsCell c (some u))
structure Cx.Ok(X:Cx):Prop where
 mod:Mod X.K X.mg X.base
 kind:X.env.scope.kind=.function
 glob:X.env.globals=mainGlobals
 blt:X.env.builtins=builtinsNs
 above:X.s₀.heap.objs.size<=X.env.locals
 inj:∀x y c,X.env.cells.lookup x=some c->X.env.cells.lookup y=some c->x=y
 has:∀x,(X.env.kindOf x=some .cell\/X.env.kindOf x=some .free)->∃c,X.env.cells.lookup x=some c
 cab:∀x c,X.fn x=true->X.env.cells.lookup x=some c->X.s₀.heap.objs.size<=c
 hd:X.calm=true->X.A.handled=none
 frames:X.A.frames=some X.stack
 stk:X.stack=X.outer\/(X.stack=X.env::X.outer/\X.env.frame=some X.env.locals)
 exf:∀b∈X.ex,b≠X.env.locals/\∀x c,X.env.cells.lookup x=some c->c≠b
 bs:∀b o,X.base.get? b=some o->X.s₀.heap.get? b=some o/\X.H₀ b=none
 bsz:X.base.objs.size<=X.s₀.heap.objs.size
 noex:∀b o,X.base.get? b=some o->b ∉ X.ex
 exfs:∀b∈X.ex,b ∉ X.fs
 funs:X.s₀.heap.FunFrames X.base X.outer
 frf:∀b∈X.fs,X.H₀ b=none
structure Zi(X:Cx)(pins:Uv)(σ:List (Option V))(H:Hp)(s:Shared):Prop where
 ok:X.Ok
 os:s.os=X.s₀.os
 bare:AllBare s.gens
 base:Un X.fs X.ex X.H₀ H X.s₀.heap s.heap
 loc:∃m,s.heap.Ns X.env.locals m/\∀(i:Nat) (x:Str) (v:V),X.N[i]?=some x->σ[i]?=some (some v)->Vis X.env.scope x->∃u,Z9 v u/\Look X.env s.heap m x u
 cell:∀x c,X.env.cells.lookup x=some c->∃v,s.heap.IsCell c v
 free:H X.env.locals=none
 freeC:∀x c,X.env.cells.lookup x=some c->H c=none
 pin:∀p∈X.pn++pins,s.heap.get? p.1=some p.2/\H p.1=none/\p.1≠X.env.locals/\p.1 ∉ X.fs/\∀v,p.2.data≠.cell v
 hok:R6 X.prog X.w H s.heap
 len:σ.length=X.N.length
section
variable{X:Cx}{pins:Uv}{σ:List (Option V)}{H H':Hp}{s:Shared}{h':Heap}
theorem Cx.Ok.nofr(ok:X.Ok){b:Addr}{o:Obj}(e:X.base.get? b=some o):b ∉ X.fs:=fun hb=>by
 have:=(ok.funs.mem hb).1;rw[e]at this;cases this
theorem Zi.bs(I:Zi X pins σ H s):∀b o,X.base.get? b=some o->s.heap.get? b=some o/\H b=none:=fun b o e =>
 ⟨I.base.keep b o (I.ok.bs b o e).1 (I.ok.bs b o e).2 (I.ok.nofr e) (I.ok.noex b o e),I.base.free b o (I.ok.bs b o e).1 (I.ok.bs b o e).2 (I.ok.noex b o e)⟩
theorem Zi.bk(I:Zi X pins σ H s):∀b o,X.base.get? b=some o->s.heap.get? b=some o:=fun b o e=>(I.bs b o e).1
theorem Zi.mod(I:Zi X pins σ H s):Mod X.K X.mg X.base:=I.ok.mod
theorem Zi.kIn(I:Zi X pins σ H s):X.K.In s.heap:=I.ok.mod.kin.keeps I.bk
theorem Zi.fr(I:Zi X pins σ H s):∃m,Fr X.base X.env.locals s.heap m :=
 let ⟨m,hn,_⟩:=I.loc
 ⟨m,hn,I.bk,Gw I.ok.bsz I.ok.above⟩
theorem Zi.lt(I:Zi X pins σ H s):X.env.locals<s.heap.objs.size:=let ⟨_,hn,_⟩:=I.loc;hn.lt
theorem Zi.sz(I:Zi X pins σ H s):X.s₀.heap.objs.size<=s.heap.objs.size:=Gw I.ok.above (Nat.le_of_lt I.lt)
theorem Zi.nofs(I:Zi X pins σ H s){a:Addr}(h:s.heap.objs.size<=a):a ∉ X.fs:=fun hb=>by
 obtain⟨_,o,ho,_⟩:=I.ok.funs.mem hb;exact absurd (Hh (Du ho) (Gw I.sz h)) (Nat.lt_irrefl _)
theorem Zi.cne(I:Zi X pins σ H s):∀x c,X.env.cells.lookup x=some c->c≠X.env.locals:=fun x c e z=>by
 obtain⟨v,o,ho,hd⟩:=I.cell x c e;obtain⟨m,⟨o',es,ep,ho',hd',_⟩,_⟩:=I.loc;rw[z,ho']at ho;cases ho;rw[hd']at hd;cases hd
theorem Zi.funs(I:Zi X pins σ H s):s.heap.FunFrames X.base X.outer:=by
 have all:∀(l:List Env),(∀b∈frs l,b∈X.fs)->X.s₀.heap.FunFrames X.base l->s.heap.FunFrames X.base l:=by
  intro l
  induction l with
  | nil=>intro _ _;trivial
  | cons env r ih =>
   intro hs hl;obtain⟨hk,⟨L,o,hf,hn,ho,hd⟩,hr⟩:=hl;have hL:L∈X.fs:=hs L (by unfold frs;rw[List.filterMap_cons,hf];exact Te);obtain⟨sl,e⟩:=I.base.slot L o ho (I.ok.frf L hL) hL fun z=>I.ok.exfs L z hL;exact⟨hk,⟨L,_,hf,hn,e,hd⟩,ih (fun b hb=>hs b (by unfold frs;rw[List.filterMap_cons,hf];exact Rq _ hb)) hr⟩
 exact all X.outer (fun _ hb=>hb) I.ok.funs
theorem Zi.stack(I:Zi X pins σ H s):s.heap.FunFrames X.base X.stack:=by
 rcases I.ok.stk with e | ⟨e,hf⟩
 ·rw[e];exact I.funs
 ·rw[e];obtain⟨m,hn,_⟩:=I.loc;refine .cons (by rw[I.ok.kind];decide) hf hn ?_ I.funs;exact Heap.get?_none_of_le (Gw I.ok.bsz I.ok.above)
theorem Zi.stkSub(I:Zi X pins σ H s):∀b∈frs X.stack,b∈X.env.locals::X.fs:=fun b hb=>by
 rcases I.ok.stk with e | ⟨e,hf⟩
 ·rw[e]at hb;exact Rq _ hb
 ·rw[e]at hb;unfold frs at hb;rw[List.filterMap_cons,hf]at hb;exact hb
theorem Zi.stkFree(I:Zi X pins σ H s):∀b∈frs X.stack,H b=none:=fun b hb=>by
 rcases G2.mp (I.stkSub b hb) with e | hb
 ·rw[e];exact I.free
 ·obtain⟨_,o,ho,_⟩:=I.ok.funs.mem hb;exact I.base.free b o ho (I.ok.frf b hb) fun z=>I.ok.exfs b z hb
theorem Zi.step{g':Array GenState}{t':Nat}{d':Drawn}{ch:List Addr}(I:Zi X pins σ H s)
  (hch:∀b∈ch,(b∈X.ex\/X.s₀.heap.objs.size<=b)/\b≠X.env.locals/\(∀x c,X.env.cells.lookup x=some c->c≠b)/\∀p∈X.pn++pins,p.1≠b)
  (keep:∀b o,b≠X.env.locals->b ∉ X.fs->b ∉ ch->s.heap.get? b=some o->H b=none->h'.get? b=some o)
  (slot:∀b o,b≠X.env.locals->b∈X.fs->b ∉ ch->s.heap.get? b=some o->H b=none->∃sl,h'.get? b=some { o with slots:=sl }) (free:∀b o,b ∉ ch->s.heap.get? b=some o->H b=none->H' b=none)
  (there:∀b o,b ∉ ch->s.heap.get? b=some o->∃o',h'.get? b=some o')
  (tups:∀b xs,H b=some (.tup xs)->H' b=some (.tup xs)) (frzs:∀b o u,H b=some (.frz o u)->H' b=some (.frz o u)) (tbls:∀b ps,H b=some (.tbl ps)->∃more,H' b=some (.tbl (ps++more)))
  (ns:∀m,s.heap.Ns X.env.locals m->h'.Ns X.env.locals m) (hok:R6 X.prog X.w H' h') (hg:AllBare g') :
  Zi X pins σ H' { s with heap:=h',gens:=g',drawn:=d',toks:=t' }:=by
 have neL:∀b o,X.s₀.heap.get? b=some o->b≠X.env.locals:=fun b o e=>Oj (Hh (Du e) I.ok.above)
 have neC:∀b o,X.s₀.heap.get? b=some o->b ∉ X.ex->b ∉ ch:=fun b o e hx hb=>by
  rcases(hch b hb).1 with z | z
  ·exact hx z
  ·exact absurd (Hh (Du e) z) (Nat.lt_irrefl _)
 have cellK:∀x c,X.env.cells.lookup x=some c->∀v,s.heap.IsCell c v->h'.IsCell c v:=fun x c e v ⟨o,ho,hd⟩=>by
  have nch:c ∉ ch:=fun z=>(hch c z).2.2.1 x c e rfl;by_cases hc:c∈X.fs
  ·obtain⟨sl,q⟩:=slot c o (I.cne x c e) hc nch ho (I.freeC x c e);exact⟨_,q,hd⟩
  ·exact⟨o,keep c o (I.cne x c e) hc nch ho (I.freeC x c e),hd⟩
 refine⟨I.ok,I.os,hg,⟨fun b o e n hb hx=>?_,fun b o e n hb hx=>?_,fun b o e n hx=>?_,fun b o e hx=>?_,fun b xs e=>tups b xs (I.base.tups b xs e),fun b o xs e=>frzs b o xs (I.base.frzs b o xs e),fun b ps e=>?_⟩, ?_,fun x c e=>?_, ?_,fun x c e=>?_,fun p hp=>?_,hok,I.len⟩
 ·exact keep b o (neL b o e) hb (neC b o e hx) (I.base.keep b o e n hb hx) (I.base.free b o e n hx)
 ·obtain⟨sl,e1⟩:=I.base.slot b o e n hb hx;obtain⟨sl',e2⟩:=slot b _ (neL b o e) hb (neC b o e hx) e1 (I.base.free b o e n hx);exact⟨sl',e2⟩
 ·obtain⟨o',e1⟩:=I.base.there b o e hx;exact free b o' (neC b o e hx) e1 (I.base.free b o e n hx)
 ·obtain⟨o',e1⟩:=I.base.there b o e hx;exact there b o' (neC b o e hx) e1
 ·obtain⟨m1,e1⟩:=I.base.tbls b ps e;obtain⟨m2,e2⟩:=tbls b _ e1;exact⟨m1++m2,by rw[e2,Array.append_assoc]⟩
 ·obtain⟨m,hn,hl⟩:=I.loc;refine⟨m,ns m hn,fun i x v e1 e2 e3=>?_⟩;obtain⟨u,r,l⟩:=hl i x v e1 e2 e3;refine⟨u,r, ?_⟩;rcases l with l | ⟨k,c,e,z⟩
  ·exact .inl l
  ·exact .inr ⟨k,c,e,cellK x c e _ z⟩
 ·obtain⟨v,z⟩:=I.cell x c e;exact⟨v,cellK x c e v z⟩
 ·obtain⟨m,⟨o,_,_,ho,_⟩,_⟩:=I.loc;exact free _ o (fun z=>(hch _ z).2.1 rfl) ho I.free
 ·obtain⟨v,o,ho,hd⟩:=I.cell x c e;exact free c o (fun z=>(hch c z).2.2.1 x c e rfl) ho (I.freeC x c e)
 ·obtain⟨e,n,ne,nf,d⟩:=I.pin p hp;have nch:p.1 ∉ ch:=fun z=>(hch p.1 z).2.2.2 p hp rfl;exact⟨keep p.1 p.2 ne nf nch e n,free p.1 p.2 nch e n,ne,nf,d⟩
theorem Zi.un{t':Nat}(I:Zi X pins σ H s)(u:Un X.fs [] H H' s.heap h')(hok:R6 X.prog X.w H' h'):Zi X pins σ H' { s with heap:=h',toks:=t' }:=by
 obtain⟨m,⟨o,es,ep,ho,r⟩,_⟩:=id I.loc;obtain⟨sl,hL⟩:=u.any ho I.free (by simp)
 exact I.step (g':=s.gens) (d':=s.drawn) (ch:=[]) (fun _ z=>nomatch z) (fun b o _ hb _ e n=>u.keep b o e n hb (by simp)) (fun b o _ hb _ e n=>u.slot b o e n hb (by simp)) (fun b o _ e n=>u.free b o e n (by simp)) (fun b o _ e=>u.there b o e (by simp)) u.tups u.frzs u.tbls (fun m' hm=>by
  obtain⟨o',O4,ep',ho',r'⟩:=hm;rw[ho]at ho';cases ho';exact⟨_,O4,ep',hL,r'⟩) hok I.bare
theorem Zi.call{g':Array GenState}{t':Nat}{d':Drawn}{ch:List Addr}(I:Zi X pins σ H s)(u:Un (frs X.stack) ch H H' s.heap h')(hok:R6 X.prog X.w H' h')(hg:AllBare g')
  (hch:∀b∈ch,(b∈X.ex\/X.s₀.heap.objs.size<=b)/\b≠X.env.locals/\(∀x c,X.env.cells.lookup x=some c->c≠b)/\∀p∈X.pn++pins,p.1≠b) :
  Zi X pins σ H' { s with heap:=h',gens:=g',drawn:=d',toks:=t' }:=by
 obtain⟨m,⟨o,es,ep,ho,r⟩,_⟩:=id I.loc;obtain⟨sl,hL⟩:=u.any ho I.free fun z=>(hch _ z).2.1 rfl
 exact I.step (ch:=ch) hch (fun b o hL hb hc e n=>u.keep b o e n (fun z=>(G2.mp (I.stkSub b z)).elim hL hb) hc) (fun b o _ _ hc e n=>u.any e n hc) (fun b o hc e n=>u.free b o e n hc) (fun b o hc e=>u.there b o e hc) u.tups u.frzs u.tbls (fun m' hm=>by
  obtain⟨o',O4,ep',ho',r'⟩:=hm;rw[ho]at ho';cases ho';exact⟨_,O4,ep',hL,r'⟩) hok hg
theorem Zi.turned{t':Nat}{it:Addr}(I:Zi X pins σ H s)(k:∀b o,b≠it->s.heap.get? b=some o->h'.get? b=some o)(hn:H it=none)(hL:it≠X.env.locals)
  (h1:it∈X.ex\/X.s₀.heap.objs.size<=it) (h2:∀x c,X.env.cells.lookup x=some c->c≠it) (h3:∀p∈X.pn++pins,p.1≠it):Zi X pins σ H { s with heap:=h',toks:=t' }:=by
 have nit:∀b u,H b=some u->b≠it:=fun b u e z=>by rw[z,hn]at e;cases e
 refine I.step (g':=s.gens) (d':=s.drawn) (ch:=[it]) (fun b hb=>?_) (fun b o _ _ hc e _=>k b o (fun z=>hc (by simp[z])) e) (fun b o _ _ hc e _=>⟨o.slots,k b o (fun z=>hc (by simp[z])) e⟩) (fun _ _ _ _ n=>n)
  (fun b o hc e=>⟨o,k b o (fun z=>hc (by simp[z])) e⟩) (fun _ _ e=>e) (fun _ _ _ e=>e) (fun b ps e=>⟨#[],by rw[e];simp⟩) (fun m hm=>?_) (fun b u e=>?_) I.bare
 ·have e:b=it:=by simpa using hb
  subst e;exact⟨h1,hL,h2,h3⟩
 ·obtain⟨o,es,ep,ho,r⟩:=hm;exact⟨o,es,ep,k _ o (Ne.symm hL) ho,r⟩
 ·refine(I.hok b u e).stay (fun c v hc q=>k c v ?_ q) (fun _ q=>q) fun _ _ q=>q;rcases hc with z | z
  ·rw[z];exact nit b u e
  ·exact nit c _ z
theorem Zi.tok(I:Zi X pins σ H s)(t:Nat):Zi X pins σ H { s with toks:=t }:=I.un (h':=s.heap) (t':=t) Un.refl I.hok
theorem Zi.kept{t':Nat}(I:Zi X pins σ H s)(k:∀b u,s.heap.get? b=some u->h'.get? b=some u):Zi X pins σ H { s with heap:=h',toks:=t' }:=I.un (Un.kept k) (I.hok.kept k)
theorem Zi.laid{a:Addr}{o:HO}{t':Nat}(I:Zi X pins σ H s)(k:∀b u,s.heap.get? b=some u->h'.get? b=some u)(hp:s.heap.objs.size<=a)(new:Vq X.prog X.w (Yq H a o) h' a o) :
  Zi X pins σ (Yq H a o) { s with heap:=h',toks:=t' }:=I.un (Un.laid k hp (I.hok.fresh hp)) (I.hok.laid k hp new)
theorem Zi.write{x e:Addr}{o:HO}{t':Nat}(I:Zi X pins σ H s)(mu:Mut (H x))(he:e=x\/H e=some (.own x))(k:∀b u,b≠e->s.heap.get? b=some u->h'.get? b=some u)(heo:∃u,h'.get? e=some u)
  (new:Vq X.prog X.w (Yq H x o) h' x o):Zi X pins σ (Yq H x o) { s with heap:=h',toks:=t' }:=I.un (Un.write mu he k heo) (I.hok.write mu he k heo new)
theorem Zi.pins_of{pins':Uv}(I:Zi X pins σ H s)(h:∀p∈pins',s.heap.get? p.1=some p.2/\H p.1=none/\p.1≠X.env.locals/\p.1 ∉ X.fs/\∀v,p.2.data≠.cell v):Zi X pins' σ H s :=
 ⟨I.ok,I.os,I.bare,I.base,I.loc,I.cell,I.free,I.freeC,fun p hp=>(T6.mp hp).elim (fun z=>I.pin p (List.mem_append_left _ z)) (h p),I.hok,I.len⟩
theorem w8{N:List Str}(hN:N.Nodup){i j:Nat}{x:Str}(a:N[i]?=some x)(b:N[j]?=some x):i=j:=by
 obtain⟨h1,e1⟩:=Q8.mp a;obtain⟨h2,e2⟩:=Q8.mp b;exact(List.getElem_inj hN).mp (e1.trans e2.symm)
theorem Ib{M:Model}{A:Around}{E:Vt}{i:Nat}{x:Str}{v:V}{u:Value}{Q:Unit->Shared->Prop}(I:Zi X pins σ H s)(hN:X.N.Nodup)(hi:X.N[i]?=some x)(hx:Loc X.env.scope x)(r:Z9 v u)
  (h:∀s',Zi X pins (σ.set i (some v)) H s'->(∃a,Heap.SameBut a s.heap s'.heap/\(a=X.env.locals\/X.env.cells.lookup x=some a))->Q () s') (hf:X.fn x=true\/X.env.scope.names.lookup x=some .local:=by first | exact .inl rfl | exact .inr rfl | assumption):wpAny M A (storeName X.env x u) Q E s:=by
 obtain⟨m,hn,hl⟩:=id I.loc;have hcls:(X.env.scope.kind == .class || (X.env.scope.kind == .module && X.env.locals != X.env.globals))=false:=by rw[I.ok.kind];rfl
 have hiσ:i<σ.length:=by rw[I.len];exact(Q8.mp hi).1
 have cne:=I.cne
 have tracked:∀{a:Addr} {h':Heap},(∃o,s.heap.get? a=some o/\H a=none)->Heap.SameBut a s.heap h'->R6 X.prog X.w H h':=fun {a h'} ha hs b ob e=>by
  obtain⟨_,_,yy⟩:=ha;refine(I.hok b ob e).stay (fun c w' hc q=>(hs.2 c ?_).trans q) (fun _ q=>q) fun _ _ q=>q;rintro rfl;rcases hc with rfl | hc
  ·rw[yy]at e;cases e
  ·rw[yy]at hc;cases hc
 rcases hx with hk | hk
 ·refine wpAny_storeName_local hk hn (fun h' hn' hs=>?_) hcls;obtain⟨oL,_,_,hoL,_⟩:=id hn;refine h _ ⟨I.ok,I.os,I.bare,⟨fun b o e n hb hx=>?_,fun b o e n hb hx=>?_,I.base.free,fun b o e hx=>?_,I.base.tups,I.base.frzs,I.base.tbls⟩,⟨_,hn',fun j y v' e1 e2 e3=>?_⟩,fun y c e=>?_,I.free,I.freeC,fun p hp=>?_,tracked ⟨oL,hoL,I.free⟩ hs,by simpa using I.len⟩ ⟨_,hs,.inl rfl⟩
  ·exact(hs.2 b (Oj (Hh (Du e) I.ok.above))).trans (I.base.keep b o e n hb hx)
  ·obtain⟨sl,e1⟩:=I.base.slot b o e n hb hx;exact⟨sl,(hs.2 b (Oj (Hh (Du e) I.ok.above))).trans e1⟩
  ·obtain⟨o',e1⟩:=I.base.there b o e hx;exact⟨o',(hs.2 b (Oj (Hh (Du e) I.ok.above))).trans e1⟩
  ·by_cases hj:j=i
   ·subst hj;rw[hi]at e1;cases e1;rw[List.getElem?_set_self hiσ]at e2;cases e2;exact⟨u,r,.inl ⟨hk,by simp⟩⟩
   ·rw[List.getElem?_set_ne (Ne.symm hj)]at e2;obtain⟨u',r',q⟩:=hl j y v' e1 e2 e3;refine⟨u',r', ?_⟩;rcases q with ⟨k,e⟩ | ⟨k,c,e,z⟩
    ·refine .inl ⟨k, ?_⟩;have:y≠x:=fun e=>hj (w8 hN e1 (e ▸ hi));simp[this,e]
    ·exact .inr ⟨k,c,e,z.sameBut hs (cne y c e)⟩
  ·obtain⟨w',z⟩:=I.cell y c e;exact⟨w',z.sameBut hs (cne y c e)⟩
  ·obtain⟨e,n,ne,nf,d⟩:=I.pin p hp;exact⟨(hs.2 p.1 ne).trans e,n,ne,nf,d⟩
 ·have hfn:X.fn x=true:=by
   rcases hf with z | z
   ·exact z
   ·rw[z]at hk;cases hk
  obtain⟨c,hc⟩:=I.ok.has x (.inl hk);obtain⟨w',z⟩:=I.cell x c hc;refine wpAny_storeName_cell I.ok.kind hk hc z (fun h' hc' hs=>?_);obtain⟨oc,hoc,hocd⟩:=id z;refine h { s with heap:=h' } ⟨I.ok,I.os,I.bare,⟨fun b o e n hb hx=>?_,fun b o e n hb hx=>?_,I.base.free,fun b o e hx=>?_,I.base.tups,I.base.frzs,I.base.tbls⟩,⟨m,hn.sameBut hs (Ne.symm (cne x c hc)),fun j y v' e1 e2 e3=>?_⟩,fun y c' e=>?_,I.free,I.freeC,fun p hp=>?_,tracked ⟨oc,hoc,I.freeC x c hc⟩ hs,by simpa using I.len⟩ ⟨c,hs,.inr hc⟩
  ·exact(hs.2 b (Oj (Hh (Du e) (I.ok.cab x c hfn hc)))).trans (I.base.keep b o e n hb hx)
  ·obtain⟨sl,e1⟩:=I.base.slot b o e n hb hx;exact⟨sl,(hs.2 b (Oj (Hh (Du e) (I.ok.cab x c hfn hc)))).trans e1⟩
  ·obtain⟨o',e1⟩:=I.base.there b o e hx;exact⟨o',(hs.2 b (Oj (Hh (Du e) (I.ok.cab x c hfn hc)))).trans e1⟩
  ·by_cases hj:j=i
   ·subst hj;rw[hi]at e1;cases e1;rw[List.getElem?_set_self hiσ]at e2;cases e2;exact⟨u,r,.inr ⟨.inl hk,c,hc,hc'⟩⟩
   ·rw[List.getElem?_set_ne (Ne.symm hj)]at e2;obtain⟨u',r',q⟩:=hl j y v' e1 e2 e3;refine⟨u',r', ?_⟩;rcases q with q | ⟨k,c',e,z'⟩
    ·exact .inl q
    ·refine .inr ⟨k,c',e,z'.sameBut hs ?_⟩;rintro rfl;exact hj (w8 hN e1 (I.ok.inj _ _ _ e hc ▸ hi))
  ·by_cases hcc:c'=c
   ·subst hcc;exact⟨_,hc'⟩
   ·obtain⟨w2,z2⟩:=I.cell y c' e;exact⟨w2,z2.sameBut hs hcc⟩
  ·obtain⟨e,n,ne,nf,d⟩:=I.pin p hp;refine⟨(hs.2 p.1 ?_).trans e,n,ne,nf,d⟩;intro q;rw[q,hoc]at e;have q':oc=p.2:=Hn e;exact d w' (by rw[<-q'];exact hocd)
theorem jt{M:Model}{A:Around}{E:Vt}{i:Nat}{x:Str}{v:V}{u:Value}{Q:Unit->Shared->Prop}(I:Zi X pins σ H s)(hN:X.N.Nodup)(hi:X.N[i]?=some x)(hx:Loc X.env.scope x)(r:Z9 v u)
  (h:∀s',Zi X pins (σ.set i (some v)) H s'->Q () s') (hf:X.fn x=true\/X.env.scope.names.lookup x=some .local:=by first | exact .inl rfl | exact .inr rfl | assumption):wpAny M A (storeName X.env x u) Q E s :=
 Ib I hN hi hx r (fun s' I' _=>h s' I') hf
theorem Zi.call'{s':Shared}{ch:List Addr}(I:Zi X pins σ H s)(ho:s'.os=s.os)(u:Un (frs X.stack) ch H H' s.heap s'.heap)(hok:R6 X.prog X.w H' s'.heap)(hg:AllBare s'.gens)
  (hch:∀b∈ch,(b∈X.ex\/X.s₀.heap.objs.size<=b)/\b≠X.env.locals/\(∀x c,X.env.cells.lookup x=some c->c≠b)/\∀p∈X.pn++pins,p.1≠b):Zi X pins σ H' s':=by
 obtain⟨h',g',d',t',o'⟩:=s';have e:o'=s.os:=ho;subst e;exact I.call (g':=g') (t':=t') (d':=d') u hok hg hch
end
abbrev XK:=Value->Option Addr->Hp->Prop
abbrev St:=List (Option V)
abbrev VK:=V->Hp->Prop
abbrev TE:=St->Hp->VK->Prop
abbrev TT:=St->Hp->(Bool->Hp->Prop)->Prop
abbrev TA:=St->Hp->(List V->Hp->Prop)->Prop
structure Fx where
 nx:St->Hp->Prop
 rt:VK
 bk:St->Hp->Prop:=fun _ _=>False
 ct:St->Hp->Prop:=fun _ _=>False
abbrev TS:=Fx->St->Hp->Prop
def EP(X:Cx)(pins:Uv)(σ:St)(Q:VK)(u:Value)(s':Shared):Prop:=∃v H',Zi X pins σ H' s'/\Z9 v u/\Q v H'
def TP(X:Cx)(pins:Uv)(σ:St)(Q:Bool->Hp->Prop)(b:Bool)(s':Shared):Prop:=∃H',Zi X pins σ H' s'/\Q b H'
def AP(X:Cx)(pins:Uv)(σ:St)(Q:List V->Hp->Prop)(us:List Value)(s':Shared):Prop:=∃vs H',Zi X pins σ H' s'/\Yb vs us/\Q vs H'
def SP(X:Cx)(pins:Uv)(D:Fx)(f:Flow)(s':Shared):Prop :=
 match f with
 | .next=>∃σ' H',Zi X pins σ' H' s'/\D.nx σ' H'
 | .brk=>∃σ' H',Zi X pins σ' H' s'/\D.bk σ' H'
 | .cont=>∃σ' H',Zi X pins σ' H' s'/\D.ct σ' H'
 | .ret u=>∃v σ' H',Zi X pins σ' H' s'/\Z9 v u/\D.rt v H'
def PE(X:Cx)(e:Expr)(t:TE):Prop :=
 ∀(pins:Uv) (s:Shared) (σ:St) (H:Hp) (Q:VK),Zi X pins σ H s->t σ H Q->wpAny (model X.prog X.w) X.A (eval e X.env) (EP X pins σ Q) X.xe s
def PT(X:Cx)(e:Expr)(t:TT):Prop :=
 ∀(pins:Uv) (s:Shared) (σ:St) (H:Hp) (Q:Bool->Hp->Prop),Zi X pins σ H s->t σ H Q->wpAny (model X.prog X.w) X.A (isTrue e X.env (eval e X.env)) (TP X pins σ Q) X.xe s
def PW(X:Cx)(e:Expr)(t:TT):Prop :=
 ∀(whole:Sem Value) (pins:Uv) (s:Shared) (σ:St) (H:Hp) (Q:Bool->Hp->Prop),Zi X pins σ H s->t σ H Q->wpAny (model X.prog X.w) X.A (isTrue e X.env whole) (TP X pins σ Q) X.xe s
theorem PW.pt{X:Cx}{e:Expr}{t:TT}(h:PW X e t):PT X e t:=h _
def PA(X:Cx)(es:List Expr)(t:TA):Prop :=
 ∀(pos:Pos) (pins:Uv) (s:Shared) (σ:St) (H:Hp) (Q:List V->Hp->Prop),Zi X pins σ H s->t σ H Q->wpAny (model X.prog X.w) X.A (spliced (backTo pos (starEach es X.env))) (AP X pins σ Q) X.xe s
def PS(X:Cx)(st:Stmt)(t:TS):Prop :=
 ∀(pins:Uv) (s:Shared) (σ:St) (H:Hp) (D:Fx),Zi X pins σ H s->t D σ H->wpAny (model X.prog X.w) X.A (exec st X.env) (SP X pins D) X.xe s
def jy(X:Cx)(st:List Stmt)(t:TS):Prop :=
 ∀(pins:Uv) (s:Shared) (σ:St) (H:Hp) (D:Fx),Zi X pins σ H s->t D σ H->wpAny (model X.prog X.w) X.A (execs st X.env) (SP X pins D) X.xe s
theorem V0{α:Type}{t:Sem α}{Q Q':α->Shared->Prop}{M:Model}{A:Around}{E:Vt}{s:Shared}(h:wpAny M A t Q E s)(hQ:∀a s,Q a s->Q' a s):wpAny M A t Q' E s:=wpAny_mono h hQ fun _ _ x=>x
section
variable{X:Cx}
inductive tVar_I(i:Nat)(σ:St)(H:Hp)(Q:VK):Prop
 | mk(v)(Vg:σ[i]?=some (some v))(Vk:Q v H)
def Zxv(i:Nat):TE:=fun σ H Q=>tVar_I i σ H Q
def tC(v:V):TE:=fun _ H Q=>Q v H
theorem pe_var{i:Nat}{x:Str}{pos:Pos}(hN:X.N[i]?=some x)(hv:Vis X.env.scope x)(hd:(x == ("__debug__" : Str))=false:=by decide)(hcd:(x == ("__classdict__" : Str))=false:=by decide):PE X (.Name x pos) (Zxv i):=by
 intro pins s σ H Q I h;obtain⟨v,e,h⟩:=h;obtain⟨m,hn,hl⟩:=I.loc;obtain⟨u,r,l⟩:=hl i x v hN e hv;have fin:EP X pins σ Q u s:=⟨v,H,I,r,h⟩;rcases l with ⟨hk,hm⟩ | ⟨hk,c,hc,yg⟩
 ·exact wpAny_Name (wpAny_loadName_local I.ok.kind hk hn hm fin) hd
 ·rcases hk with hk | hk
  ·exact wpAny_Name (wpAny_loadName_cell I.ok.kind hk hc yg fin) hd
  ·exact wpAny_Name (wpAny_loadName_free I.ok.kind hk hc yg fin hcd) hd
theorem Zq{i j pos}:PE X (.Constant (.int i) j pos) (tC (.int i)):=fun _ _ _ H _ I h=>wpAny_Constant_int ⟨.int i,H,I.tok _,⟨_,rfl⟩,h⟩
theorem Vz{b j pos}:PE X (.Constant (.bool b) j pos) (tC (.bl b)):=fun _ _ _ H _ I h=>Constant_bool ⟨.bl b,H,I,rfl,h⟩
theorem Gd{j pos}:PE X (.Constant .none j pos) (tC .non):=fun _ _ _ H _ I h=>Constant_none ⟨.non,H,I,rfl,h⟩
theorem Zm{x j pos}:PE X (.Constant (.str x) j pos) (tC (.str x)):=fun _ _ _ H _ I h=>Calls.Constant_str ⟨.str x,H,I.tok _,⟨_,rfl⟩,h⟩
def Gl(X:Cx)(x:Str):Prop:=X.env.kindOf x=some .globalImplicit
theorem Zzy{E:Vt}{pins:Uv}{s:Shared}{σ:St}{H:Hp}{x:Str}{u:Value}{pos:Pos}{Q:Vt}(I:Zi X pins σ H s)(hg:Gl X x)(hm:X.mg x=some u)(h:Q u s)
  (hd:(x == ("__debug__" : Str))=false:=by decide):wpAny (model X.prog X.w) X.A (eval (.Name x pos) X.env) Q E s :=
 Calls.Name_function_global I.ok.kind hg (Calls.loadGlobal_global (by rw[I.ok.glob];exact I.mod.glob.keeps I.bk) hm h) hd
theorem Ld{E:Vt}{pins:Uv}{s:Shared}{σ:St}{H:Hp}{x:Str}{u:Value}{pos:Pos}{Q:Vt}(I:Zi X pins σ H s)(hg:Gl X x)(hm:X.mg x=none)(hv:bootBuiltins x=some u)(h:Q u s)
  (hn:x ≠ "__name__" := by decide) (hd:(x == ("__debug__" : Str))=false:=by decide):wpAny (model X.prog X.w) X.A (eval (.Name x pos) X.env) Q E s:=by
 obtain⟨mb,h1,h2⟩:=I.mod.blt;exact Calls.Name_function_global I.ok.kind hg (Calls.loadGlobal_builtin (by rw[I.ok.glob];exact I.mod.glob.keeps I.bk) hm (by rw[I.ok.blt];exact h1.keeps I.bk) ((h2 x hn).trans hv) h) hd
theorem zm{x:Str}{v:V}{u:Value}{pos:Pos}(hg:Gl X x)(hm:X.mg x=some u)(r:Z9 v u)(hd:(x == ("__debug__" : Str))=false:=by decide):PE X (.Name x pos) (tC v) :=
 fun _ _ _ H _ I h=>Zzy I hg hm ⟨v,H,I,r,h⟩ hd
theorem Zf7{x:Str}{v:V}{u:Value}{pos:Pos}(hg:Gl X x)(hm:X.mg x=none)(hv:bootBuiltins x=some u)(r:Z9 v u)(hn:x ≠ "__name__" := by decide)(hd:(x == ("__debug__" : Str))=false:=by decide):PE X (.Name x pos) (tC v) :=
 fun _ _ _ H _ I h=>Ld I hg hm hv ⟨v,H,I,r,h⟩ hn hd
variable{a b:Expr}{ta tb:TE}{pos:Pos}
def PC(X:Cx)(op:CmpOp)(a b:Expr)(t:TE):Prop :=
 ∀(pins:Uv) (s:Shared) (σ:St) (H:Hp) (Q:VK),Zi X pins σ H s->t σ H Q ->
  wpAny (model X.prog X.w) X.A (eval a X.env) (fun v s₁=>wpAny (model X.prog X.w) X.A (eval b X.env) (fun u s₂=>wpAny (model X.prog X.w) X.A (compareOp op v u) (EP X pins σ Q) X.xe s₂) X.xe s₁) X.xe s
inductive tB_I(Q:(Bool->Hp->Prop))(x:V)(H1:Hp):Prop
 | mk(c)(Vg:x=.bl c)(Vk:Q c H1)
def tB(t:TE):TT:=fun σ H Q=>t σ H fun x H1=>tB_I Q x H1
theorem pt_cmp{op:CmpOp}{t:TE}(h:PC X op a b t)(h1:behindInMarks op b=false:=by first | exact nobehind _ (by decide) (by decide) | rfl):PT X (.Compare a [op] [b] pos) (tB t):=by
 intro pins s σ H Q I hw;refine wpAny_isTrue_Compare1 (V0 (h pins s σ H _ I hw) fun v s1 h1=>V0 h1 fun u s2 h2=>V0 h2 fun c s3 ⟨x,H1,I1,r1,q1⟩=>?_) h1;obtain⟨d,rfl,q⟩:=q1;cases r1;exact wpAny_truthy_bool ⟨H1,I1,q⟩
theorem Yg{e:Expr}{t:TE}(h:PE X e t)(he:∀whole,isTrue e X.env whole=(do let v <-whole;standAt e.pos;holding [v] (truthy v)):=by intro _;rfl):PT X e (tB t):=by
 intro pins s σ H Q I hw;refine isTrue_plain (V0 (h pins s σ H _ I hw) fun v s1 ⟨x,H1,I1,r1,q1⟩=>?_) (he _);obtain⟨d,rfl,q⟩:=q1;cases r1;exact wpAny_truthy_bool ⟨H1,I1,q⟩
variable{tA tB':TT}{Mm:List Expr}
def tAnd(t u:TT):TT:=fun σ H Q=>t σ H fun c H1=>if c=true then u σ H1 Q else Q false H1
def tOr(t u:TT):TT:=fun σ H Q=>t σ H fun c H1=>if c=true then Q true H1 else u σ H1 Q
def tNot(t:TT):TT:=fun σ H Q=>t σ H fun c H1=>Q (!c) H1
theorem pw_and1(ha:PT X a tA):PW X (.BoolOp .And [a] pos) tA:=by
 intro wh pins s σ H Q I h;refine isTrue_and (V0 (ha pins s σ H Q I h) fun c s1 e=>?_);cases c with
 | true=>exact isTrue_and_nil e
 | false=>exact e
theorem pw_or1(ha:PT X a tA):PW X (.BoolOp .Or [a] pos) tA:=by
 intro wh pins s σ H Q I h;refine isTrue_or (V0 (ha pins s σ H Q I h) fun c s1 e=>?_);cases c with
 | false=>exact isTrue_or_nil e
 | true=>exact e
theorem pw_and(ha:PT X a tA)(hb:PW X (.BoolOp .And (b::Mm) pos) tB'):PW X (.BoolOp .And (a::b::Mm) pos) (tAnd tA tB'):=by
 intro wh pins s σ H Q I h;refine isTrue_and (V0 (ha pins s σ H _ I h) fun c s1 ⟨H1,I1,q1⟩=>?_);cases c with
 | true=>exact hb wh pins s1 σ H1 Q I1 q1
 | false=>exact⟨H1,I1,q1⟩
theorem pw_or(ha:PT X a tA)(hb:PW X (.BoolOp .Or (b::Mm) pos) tB'):PW X (.BoolOp .Or (a::b::Mm) pos) (tOr tA tB'):=by
 intro wh pins s σ H Q I h;refine isTrue_or (V0 (ha pins s σ H _ I h) fun c s1 ⟨H1,I1,q1⟩=>?_);cases c with
 | true=>exact⟨H1,I1,q1⟩
 | false=>exact hb wh pins s1 σ H1 Q I1 q1
theorem pt_not(ha:PT X a tA):PT X (.UnaryOp .Not a pos) (tNot tA):=by
 intro pins s σ H Q I h;exact isTrue_not (ha pins s σ H (fun c H1=>Q (!c) H1) I h)
inductive Zg5(tb:TE)(σ:St)(Q:VK)(x:V)(H1:Hp):Prop
 | mk(c)(Vg:x=.bl c)(Vk:if c=true then tb σ H1 Q else Q (.bl false) H1)
def Zm7(ta tb:TE):TE:=fun σ H Q=>ta σ H fun x H1=>Zg5 tb σ Q x H1
inductive Zg1(Q:VK)(x:V)(H1:Hp):Prop
 | mk(c)(Vg:x=.bl c)(Vk:Q (.bl (!c)) H1)
def tNotV(ta:TE):TE:=fun σ H Q=>ta σ H fun x H1=>Zg1 Q x H1
theorem pe_one{op}{t:TE}(h:PE X a t):PE X (.BoolOp op [a] pos) t:=fun pins s σ H Q I hw=>BoolOp_one (h pins s σ H Q I hw)
theorem pe_and(ha:PE X a ta)(hb:PE X (.BoolOp .And (b::Mm) pos) tb):PE X (.BoolOp .And (a::b::Mm) pos) (Zm7 ta tb):=by
 intro pins s σ H Q I h;refine BoolOp_and (V0 (ha pins s σ H _ I h) fun v s1 ⟨x,H1,I1,r1,q1⟩=>?_);obtain⟨c,rfl,q1⟩:=q1;cases r1;refine wpAny_truthy_bool ?_;cases c with
 | true=>exact hb pins s1 σ H1 Q I1 q1
 | false=>exact⟨.bl false,H1,I1,rfl,q1⟩
theorem zb(ha:PE X a ta):PE X (.UnaryOp .Not a pos) (tNotV ta):=by
 intro pins s σ H Q I h;refine UnaryOp_ (V0 (ha pins s σ H _ I h) fun v s1 ⟨x,H1,I1,r1,q1⟩=>?_);obtain⟨c,rfl,q1⟩:=q1;cases r1;exact not_of (wpAny_truthy_bool ⟨.bl (!c),H1,I1,rfl,q1⟩)
def tIf(t:TT)(ta tb:TE):TE:=fun σ H Q=>t σ H fun c H1=>if c=true then ta σ H1 Q else tb σ H1 Q
theorem Cd{c:Expr}(hc:PT X c tA)(ha:PE X a ta)(hb:PE X b tb):PE X (.IfExp c a b pos) (tIf tA ta tb):=by
 intro pins s σ H Q I h;refine wpAny_IfExp (V0 (hc pins s σ H _ I h) fun d s1 ⟨H1,I1,q1⟩=>?_);cases d with
 | true=>exact ha pins s1 σ H1 Q I1 q1
 | false=>exact hb pins s1 σ H1 Q I1 q1
end
def Z0(K:W.Frag)(H:Hp)(a:Addr)(xs:List V):Prop :=
 Rd H a (.lst xs) \/
  ∃(o:Obj) (its:Array Value) (n:Nat),K.lookup a=some o/\o.cls=.type "list" /\ o.dict=none/\o.data=.seq its n/\its.size<=sizeLine/\Yb xs its.toList
def Yv(K:W.Frag)(H:Hp)(a:Addr)(xs:List V):Prop :=
 Rd H a (.tup xs) \/
  ∃(o:Obj) (its:Array Value) (n:Nat),K.lookup a=some o/\o.cls=.type "tuple" /\ o.dict=none/\o.data=.seq its n/\its.size<=sizeLine/\Yb xs its.toList
def absV:Value->Option V
 | .none=>some .non
 | .bool b=>some (.bl b)
 | .int i _=>some (.int i)
 | .str x _=>some (.str x)
 | .bytes b _=>some (.byt b)
 | .float b _=>some (.flt b)
 | .ref a=>some (.ref a)
 | .type n=>some (.ty n)
 | _=>none
theorem Z9.abs{x:V}{u:Value}(r:Z9 x u):absV u=some x:=by
 cases x with
 | non=>cases r;rfl
 | bl _=>cases r;rfl
 | int _=>obtain⟨t,rfl⟩:=r;rfl
 | str _=>obtain⟨t,rfl⟩:=r;rfl
 | byt _=>obtain⟨t,rfl⟩:=r;rfl
 | flt _=>obtain⟨t,rfl⟩:=r;rfl
 | ref _=>cases r;rfl
 | ty _=>cases r;rfl
theorem Z9.inj{x y:V}{u:Value}(r:Z9 x u)(q:Z9 y u):x=y:=Hn (r.abs.symm.trans q.abs)
theorem Yb.inj:∀{xs ys:List V} {us:List Value},Yb xs us->Yb ys us->xs=ys
 | _,_,_,.nil,.nil=>rfl
 | _,_,_,.cons r t,.cons r' t'=>by rw[r.inj r',Yb.inj t t']
section
variable{X:Cx}{pins:Uv}{σ:St}{H:Hp}{s:Shared}{a:Addr}{xs ys:List V}
theorem Z0.of{K:W.Frag}(h:H a=some (.lst xs)):Z0 K H a xs:=.inl (.inl h)
theorem Yv.of{K:W.Frag}(h:H a=some (.tup xs)):Yv K H a xs:=.inl (.inl h)
theorem Zi.list(I:Zi X pins σ H s)(h:Z0 X.K H a xs):∃its:List Value,Yb xs its/\PlainL s.heap a its.toArray/\xs.length<=sizeLine:=by
 rcases h with h | ⟨o,its,n,hk,hc,hd,hs,hz,r⟩
 ·obtain⟨z,its,n,r,e⟩:=h.ok I.hok;exact⟨its,r,⟨_,n,e,rfl,rfl,rfl⟩,z⟩
 ·refine⟨its.toList,r,⟨o,n,I.kIn a o hk,hc,hd,by simpa using hs⟩, ?_⟩;have e:=r.length;simp only[jk]at e;omega
theorem Zi.tuple(I:Zi X pins σ H s)(h:Yv X.K H a xs):∃its:List Value,Yb xs its/\IsTup s.heap a its.toArray/\xs.length<=sizeLine:=by
 rcases h with h | ⟨o,its,n,hk,hc,hd,hs,hz,r⟩
 ·obtain⟨z,its,r,p⟩:=h.ok I.hok;exact⟨its,r,p.tup,z⟩
 ·refine⟨its.toList,r,⟨o,I.kIn a o hk,hc,n,by simpa using hs⟩, ?_⟩;have e:=r.length;simp only[jk]at e;omega
theorem Zi.list_inj(I:Zi X pins σ H s)(h:Z0 X.K H a xs)(h':Z0 X.K H a ys):xs=ys:=by
 obtain⟨its,r,⟨o,n,e,_,_,d⟩,_⟩:=I.list h;obtain⟨its',r',⟨o',n',e',_,_,d'⟩,_⟩:=I.list h';rw[e]at e';cases e';rw[d]at d'
 injection d' with d1 _
 have:its=its':=by simpa using congrArg Array.toList d1
 subst this;exact r.inj r'
theorem Zi.tuple_inj(I:Zi X pins σ H s)(h:Yv X.K H a xs)(h':Yv X.K H a ys):xs=ys:=by
 obtain⟨its,r,⟨o,e,_,n,d⟩,_⟩:=I.tuple h;obtain⟨its',r',⟨o',e',_,n',d'⟩,_⟩:=I.tuple h';rw[e]at e';cases e';rw[d]at d'
 injection d' with d1 _
 have:its=its':=by simpa using congrArg Array.toList d1
 subst this;exact r.inj r'
end
abbrev Cx.wish(X:Cx)(E:Vt):Cx:={ X with xe:=E }
abbrev Cx.nox(X:Cx):Cx:=X.wish fun _ _=>False
theorem Cx.Ok.wish{X:Cx}(ok:X.Ok)(E:Vt):(X.wish E).Ok :=
 ⟨ok.mod,ok.kind,ok.glob,ok.blt,ok.above,ok.inj,ok.has,ok.cab,ok.hd,ok.frames,ok.stk,ok.exf,ok.bs,ok.bsz,ok.noex,ok.exfs,ok.funs,ok.frf⟩
theorem Cx.Ok.unwish{X:Cx}{E:Vt}(ok:(X.wish E).Ok):X.Ok :=
 ⟨ok.mod,ok.kind,ok.glob,ok.blt,ok.above,ok.inj,ok.has,ok.cab,ok.hd,ok.frames,ok.stk,ok.exf,ok.bs,ok.bsz,ok.noex,ok.exfs,ok.funs,ok.frf⟩
section
variable{X:Cx}{pins:Uv}{σ:St}{H:Hp}{s:Shared}{E:Vt}
theorem Zi.wish(I:Zi X pins σ H s)(E:Vt):Zi (X.wish E) pins σ H s:=⟨I.ok.wish E,I.os,I.bare,I.base,I.loc,I.cell,I.free,I.freeC,I.pin,I.hok,I.len⟩
theorem Zi.unwish(I:Zi (X.wish E) pins σ H s):Zi X pins σ H s:=⟨I.ok.unwish,I.os,I.bare,I.base,I.loc,I.cell,I.free,I.freeC,I.pin,I.hok,I.len⟩
theorem SP.unwish{D:Fx}{f:Flow}{s':Shared}(h:SP (X.wish E) pins D f s'):SP X pins D f s':=by
 cases f with
 | next=>obtain⟨σ',H',I,q⟩:=h;exact⟨σ',H',I.unwish,q⟩
 | brk=>obtain⟨σ',H',I,q⟩:=h;exact⟨σ',H',I.unwish,q⟩
 | cont=>obtain⟨σ',H',I,q⟩:=h;exact⟨σ',H',I.unwish,q⟩
 | ret u=>obtain⟨v,σ',H',I,r,q⟩:=h;exact⟨v,σ',H',I.unwish,r,q⟩
theorem jy.nox{st:List Stmt}{t:TS}(h:jy X.nox st t):jy X st t:=fun pins s σ H D I hw =>
 wpAny_mono (h pins s σ H D (I.wish _) hw) (fun _ _ q=>q.unwish) fun _ _ z=>False.elim z
end
section
variable{X:Cx}{st:Stmt}{Mm:List Stmt}{t u:TS}{e:Expr}{te:TE}{pos:Pos}
def Zm5:TS:=fun D σ H=>D.nx σ H
def bh(t u:TS):TS:=fun D σ H=>t { D with nx:=u D } σ H
theorem Zd:jy X [] Zm5:=fun _ _ σ H _ I h=>wpAny_execs_nil ⟨σ,H,I,h⟩
theorem Zf(h1:PS X st t)(h2:jy X Mm u):jy X (st::Mm) (bh t u):=by
 intro pins s σ H D I h;refine wpAny_execs_cons (V0 (h1 pins s σ H { D with nx:=u D } I h) fun f s1 q=>?_);cases f with
 | next =>
  obtain⟨σ',H',I',q⟩:=q;exact h2 pins s1 σ' H' D I' q
 | ret v=>exact q
 | brk=>exact q
 | cont=>exact q
theorem Yx(h1:PS X st t):jy X [st] t:=by
 intro pins s σ H D I h;refine wpAny_execs_cons (V0 (h1 pins s σ H D I h) fun f s1 q=>?_);cases f with
 | next=>exact wpAny_execs_nil q
 | ret v=>exact q
 | brk=>exact q
 | cont=>exact q
theorem Zi.quiet{pins:Uv}{σ:St}{H:Hp}{s:Shared}(I:Zi X pins σ H s):interactive X.env=false:=by simp[interactive,I.ok.kind]
def tDrop(te:TE):TS:=fun D σ H=>te σ H fun _ H1=>D.nx σ H1
theorem Ez(he:PE X e te)(hs:swapsWith e none pos.line X.env=pure false:=by rfl):PS X (.Expr e pos) (tDrop te):=by
 intro pins s σ H D I h;exact wpAny_Expr_any (V0 (he pins s σ H _ I h) fun v s1 ⟨x,H1,I1,r1,q1⟩=>⟨σ,H1,I1,q1⟩) I.quiet hs
def tRet(te:TE):TS:=fun D σ H=>te σ H D.rt
theorem Ux(he:PE X e te):PS X (.Return (some e) pos) (tRet te):=by
 intro pins s σ H D I h;exact wpAny_Return_some (V0 (he pins s σ H _ I h) fun v s1 ⟨x,H1,I1,r1,q1⟩=>⟨x,σ,H1,I1,r1,q1⟩)
def tIfS(c:TT)(t u:TS):TS:=fun D σ H=>c σ H fun b H1=>if b=true then t D σ H1 else u D σ H1
theorem J3{c:Expr}{a b:List Stmt}{tc:TT}(hc:PT X c tc)(ha:jy X a t)(hb:jy X b u):PS X (.If c a b pos) (tIfS tc t u):=by
 intro pins s σ H D I h;refine wpAny_If (V0 (hc pins s σ H _ I h) fun d s1 ⟨H1,I1,q1⟩=>?_);cases d with
 | true=>exact ha pins s1 σ H1 D I1 q1
 | false=>exact hb pins s1 σ H1 D I1 q1
end
abbrev TG:=V->St->Hp->(St->Hp->Prop)->Prop
abbrev TGs:=List V->St->Hp->(St->Hp->Prop)->Prop
def PG(X:Cx)(target:Expr)(t:TG):Prop :=
 ∀(pins:Uv) (s:Shared) (σ:St) (H:Hp) (v:V) (u:Value) (Q:St->Hp->Prop),Zi X pins σ H s->Z9 v u->t v σ H Q ->
  wpAny (model X.prog X.w) X.A (assign target X.env u) (fun _ s'=>∃σ' H',Zi X pins σ' H' s'/\Q σ' H') X.xe s
def PGs(X:Cx)(ts:List Expr)(t:TGs):Prop :=
 ∀(pins:Uv) (s:Shared) (σ:St) (H:Hp) (vs:List V) (us:List Value) (Q:St->Hp->Prop),Zi X pins σ H s->Yb vs us->t vs σ H Q ->
  wpAny (model X.prog X.w) X.A (assignInOrder ((assignEach ts X.env).map (·.2)) us) (fun _ s'=>∃σ' H',Zi X pins σ' H' s'/\Q σ' H') X.xe s
abbrev TSet:=V->V->V->Hp->(Hp->Prop)->Prop
def PSet(X:Cx)(t:TSet):Prop :=
 ∀(pins:Uv) (s:Shared) (σ:St) (H:Hp) (o i v:V) (ov iv u:Value) (Q:Hp->Prop),Zi X pins σ H s->Z9 o ov->Z9 i iv->Z9 v u->t o i v H Q ->
  wpAny (model X.prog X.w) X.A (setItem ov iv u) (fun _ s'=>∃H',Zi X pins σ H' s'/\Q H') X.xe s
section
variable{X:Cx}{pos:Pos}
def Jv(i:Nat):TG:=fun v σ H Q=>Q (σ.set i (some v)) H
theorem Zf3{i:Nat}{x:Str}(hN:X.N.Nodup)(hi:X.N[i]?=some x)(hx:Loc X.env.scope x)(hf:X.fn x=true\/X.env.scope.names.lookup x=some .local:=by first | exact .inl rfl | exact .inr rfl | assumption):PG X (.Name x pos) (Jv i):=by
 intro pins s σ H v u Q I r h;exact wpAny_assign_Name (jt I hN hi hx r (fun s' I'=>⟨_,H,I',h⟩) hf)
def gNil:TGs:=fun vs σ H Q=>vs=[]/\Q σ H
inductive Zmy(t:TG)(u:TGs)(vs:List V)(σ:St)(H:Hp)(Q:(St->Hp->Prop)):Prop
 | mk(v r)(Vg:vs=v::r)(Vk:t v σ H fun σ' H'=>u r σ' H' Q)
def yp(t:TG)(u:TGs):TGs:=fun vs σ H Q=>Zmy t u vs σ H Q
theorem Dn:PGs X [] gNil:=by
 intro pins s σ H vs us Q I r h;obtain⟨e,h⟩:=h;subst e;cases r;exact assignInOrder_nil ⟨σ,H,I,h⟩
theorem Ys{e:Expr}{es:List Expr}{t:TG}{u:TGs}(h1:PG X e t)(h2:PGs X es u)
  (hs:(assignEach (e::es) X.env).map (·.2)=assign e X.env::(assignEach es X.env).map (·.2):=by rfl):PGs X (e::es) (yp t u):=by
 intro pins s σ H vs us Q I r h;obtain⟨v,vr,e1,h⟩:=h;subst e1;cases r with
 | cons r rr =>
  rw[hs];refine assignInOrder_cons (V0 (h1 pins s σ H _ _ _ I r h) fun _ s1 ⟨σ1,H1,I1,q1⟩=>?_);exact h2 pins s1 σ1 H1 _ _ Q I1 rr q1
inductive gTup_I(K:W.Frag)(n:Nat)(t:TGs)(v:V)(σ:St)(H:Hp)(Q:(St->Hp->Prop)):Prop
 | mk(a xs)(Vg:v=.ref a)(Vk:Yv K H a xs)(V1:xs.length=n)(Jk:t xs σ H Q)
def gTup(K:W.Frag)(n:Nat)(t:TGs):TG:=fun v σ H Q=>gTup_I K n t v σ H Q
theorem N9{es:List Expr}{k:Nat}{t:TGs}{n:Nat}(hc:X.calm=true)(h:PGs X es t)
  (hn:(assignEach es X.env).length=n:=by rfl) (hst:(assignEach es X.env).findIdx? (·.1)=none:=by rfl):PG X (.Tuple es k pos) (gTup X.K n t):=by
 intro pins s σ H v u Q I r hw;obtain⟨a,xs,e1,hq,hl,hw⟩:=hw;subst e1;cases r;obtain⟨its,rv,ht,hz⟩:=I.tuple hq;refine assign_Tuple_tuple (I.ok.hd hc) ht (by simp[hn, <-hl,rv.length]) hst fun h' hx=>?_;have I1:Zi X pins σ H { s with heap:=h' }:=I.kept (t':=s.toks) fun b o e=>hx b o (Oj (Du e)) e;exact h pins _ σ H xs _ Q I1 (by simpa using rv) hw
def gSub(to ti:TE)(t:TSet):TG:=fun v σ H Q=>to σ H fun o H1=>ti σ H1 fun i H2=>t o i v H2 fun H3=>Q σ H3
theorem zf{o i:Expr}{to ti:TE}{t:TSet}(ho:PE X o to)(hi:PE X i ti)(hs:PSet X t)
  (ha:∀v,assign (.Subscript o i pos) X.env v=(do
   let ov <-holding [v] (eval o X.env)
   let iv <-holding [v,ov] (eval i X.env)
   standAt pos
   holding [v,ov,iv] (setItem ov iv v)
   release [v,ov,iv] []):=by intro _;rfl):PG X (.Subscript o i pos) (gSub to ti t):=by
 intro pins s σ H v u Q I r h;rw[ha];refine Zo (wpAny_holding (V0 (ho pins s σ H _ I h) fun ov s1 ⟨x,H1,I1,r1,q1⟩=>?_));refine Zo (wpAny_holding (V0 (hi pins s1 σ H1 _ I1 q1) fun iv s2 ⟨y,H2,I2,r2,q2⟩=>?_));refine Zo (wpAny_standAt (Zo (wpAny_holding (V0 (hs pins s2 σ H2 x y v ov iv u _ I2 r1 r2 r q2) fun _ s3 ⟨H3,I3,q3⟩=>?_))));exact wpAny_release ⟨σ,H3,I3,q3⟩
def Zxk(te:TE)(g:TG):TS:=fun D σ H=>te σ H fun x H1=>g x σ H1 D.nx
theorem E9{tg e:Expr}{te:TE}{g:TG}(he:PE X e te)(hg:PG X tg g)(hs:swapsWithSole [tg] e pos.line X.env=pure false:=by rfl)(hw:swappedStores [tg] e X.env=pure none:=by rfl)
  (h1:(assignEach [tg] X.env).map (·.2)=[assign tg X.env]:=by rfl):PS X (.Assign [tg] e pos) (Zxk te g):=by
 intro pins s σ H D I h;refine wpAny_Assign_stores (V0 (he pins s σ H _ I h) fun v s1 ⟨x,H1,I1,r1,q1⟩=>?_) hs hw;rw[h1];exact V0 (hg pins s1 σ H1 x v _ I1 r1 q1) fun _ s2 q=>q
theorem ps_set{i:Nat}{x:Str}{e:Expr}{te:TE}{pos':Pos}(hN:X.N.Nodup)(hi:X.N[i]?=some x)(hx:Loc X.env.scope x)(he:PE X e te)(hs:swapsWith e (some (.Name x pos')) pos.line X.env=pure false:=by rfl)(hf:X.fn x=true\/X.env.scope.names.lookup x=some .local:=by first | exact .inl rfl | exact .inr rfl | assumption) :
  PS X (.Assign [.Name x pos'] e pos) (Zxk te (Jv i)):=by
 intro pins s σ H D I h;refine wpAny_Assign_Name (V0 (he pins s σ H _ I h) fun v s1 ⟨y,H1,I1,r1,q1⟩=>?_) hs;exact jt I1 hN hi hx r1 (fun s2 I2=>⟨_,H1,I2,q1⟩) hf
end
section
variable{X:Cx}{pos:Pos}
def tWhile(c:TT)(tb:TS):TS:=fun D σ H=>∃W:Nat->St->Hp->Prop,(∃m,W m σ H)/\∀m σ H,W m σ H ->
 c σ H fun b H1=>if b=true then ∃N:St->Hp->Prop,(∀σ' H',N σ' H'->∃m',m'<m/\W m' σ' H')/\tb { D with nx:=N,ct:=N,bk:=D.nx } σ H1 else D.nx σ H1
theorem j8{c:Expr}{body:List Stmt}{tc:TT}{tb:TS}(hp:PassesOwn (model X.prog X.w) X.A X.env X.xe)(hc:PT X c tc)(hb:jy X body tb):PS X (.While c body [] pos) (tWhile tc tb):=by
 intro pins s σ H D I h;obtain⟨W,⟨m0,w0⟩,turn⟩:=h;refine wpAny_While (codeAny_whileLoop (fun n s'=>∃σ' H',Zi X pins σ' H' s'/\W n σ' H') ?_ m0 ⟨σ,H,I,w0⟩);rintro n s1 ⟨σ1,H1,I1,w1⟩;refine wpAny_passesOwn hp (V0 (hc pins s1 σ1 H1 _ I1 (turn n σ1 H1 w1)) fun b s2 ⟨H2,I2,q2⟩=>?_);cases b with
 | true =>
  obtain⟨N,hN,q2⟩:=q2;rw[if_pos rfl];refine wpAny_passesOwn hp (V0 (hb pins s2 σ1 H2 _ I2 q2) fun f s3 q3=>?_);cases f with
  | next =>
   obtain⟨σ3,H3,I3,n3⟩:=q3;obtain⟨m',hm,w3⟩:=hN σ3 H3 n3;exact⟨m',hm,σ3,H3,I3,w3⟩
  | cont =>
   obtain⟨σ3,H3,I3,n3⟩:=q3;obtain⟨m',hm,w3⟩:=hN σ3 H3 n3;exact⟨m',hm,σ3,H3,I3,w3⟩
  | brk=>exact q3
  | ret v=>exact q3
 | false =>
  rw[if_neg T7];exact wpAny_execs_nil ⟨σ1,H2,I2,q2⟩
end
structure It where
 go:Nat->Hp->Prop
 yld:Nat->Hp->V->Hp->Prop
 stop:Nat->Hp->Prop
def Q9(X:Cx)(pins:Uv)(H:Hp)(b:Addr):Prop :=
 H b=none/\b≠X.env.locals/\b ∉ X.fs/\(b∈X.ex\/X.s₀.heap.objs.size<=b)/\(∀x c,X.env.cells.lookup x=some c->c≠b)/\∀p∈X.pn++pins,p.1≠b
theorem Zi.fpOk{X:Cx}{pins:Uv}{σ:St}{H H':Hp}{s:Shared}{b:Addr}(I:Zi X pins σ H s)(hb:s.heap.objs.size<=b)(hn:H' b=none):Q9 X pins H' b:=by
 refine⟨hn,Nat.ne_of_gt (Hh I.lt hb),I.nofs hb,.inr (Gw I.sz hb),fun x c e z=>?_,fun p hp z=>?_⟩
 ·obtain⟨v,q⟩:=I.cell x c e;exact absurd (Hh q.lt (by rw[z];exact hb)) (Nat.lt_irrefl _)
 ·exact absurd (Hh (Du (I.pin p hp).1) (by rw[z];exact hb)) (Nat.lt_irrefl _)
structure A8(P:Program)(w:World)(K:W.Frag)(tg:Expr)(J:It)(fp:List Addr)(it:Addr)(tn:Nat->Heap->Prop):Prop where
 mem:it∈fp
 obj:∀i h,tn i h->∀b∈fp,∃o,h.get? b=some o/\∀v,o.data≠.cell v
 keep:∀i h h',tn i h->(∀b∈fp,∀o,h.get? b=some o->h'.get? b=some o)->tn i h'
 item:∀(X:Cx),X.prog=P->X.w=w->X.K=K->X.calm=true->∀(i:Nat) (pins:Uv) (s:Shared) (σ:St) (H:Hp) (E:Vt),Zi X pins σ H s->(∀b∈fp,Q9 X pins H b)->tn i s.heap->J.go i H ->
  wpAny (model P w) X.A (pyNext (.ref it)) (fun r s1=>∃u,r=some u /\
   wpAny (model P w) X.A (letOwnedTupleGo tg (.ref it) u) (fun _ s2=>∃x H',Zi X pins σ H' s2/\Z9 x u/\J.yld i H x H'/\tn (i+1) s2.heap/\∀b∈fp,H' b=none) E s1) E s
 done:∀(X:Cx),X.prog=P->X.w=w->X.K=K->X.calm=true->∀(i:Nat) (pins:Uv) (s:Shared) (σ:St) (H:Hp) (E:Vt),Zi X pins σ H s->(∀b∈fp,Q9 X pins H b)->tn i s.heap->J.stop i H ->
  wpAny (model P w) X.A (pyNext (.ref it)) (fun r s1=>r=none/\Zi X pins σ H s1) E s
 self:∀(A:Around) (i:Nat) (s:Shared) (Q:Vt) (E:Vt),tn i s.heap->Q (.ref it) s->wpAny (model P w) A (pyIter (.ref it)) Q E s
abbrev TI:=St->Hp->(It->Hp->Prop)->Prop
def PIE(X:Cx)(pins:Uv)(σ:St)(tg:Expr)(R:It->Hp->Prop)(itv:Value)(s2:Shared):Prop :=
 ∃(it:Addr) (fp:List Addr) (tn:Nat->Heap->Prop) (J:It) (H':Hp),itv=.ref it/\Zi X pins σ H' s2/\A8 X.prog X.w X.K tg J fp it tn/\tn 0 s2.heap/\(∀b∈fp,Q9 X pins H' b)/\R J H'
def PI(X:Cx)(tg iter:Expr)(wi:TI):Prop :=
 ∀(pins:Uv) (s:Shared) (σ:St) (H:Hp) (R:It->Hp->Prop),Zi X pins σ H s->wi σ H R ->
  wpAny (model X.prog X.w) X.A (eval iter X.env) (fun v s1=>wpAny (model X.prog X.w) X.A (pyIter v) (PIE X pins σ tg R) X.xe s1) X.xe s
theorem yl{M:Model}{A:Around}{E:Vt}{s:Shared}{tg:Expr}{it:Addr}{u:Value}{o:Obj}{n:String}{vs:Array Value}{Q:Unit->Shared->Prop}(ho:s.heap.get? it=some o)(hc:o.cls=.type n)(hd:o.data=.fields vs)
    (hn:["enumerate","zip","dict_itemiterator","dict_reverseitemiterator","odict_iterator","itertools.zip_longest","itertools.pairwise"].contains n=false) (hQ:Q () s):wpAny M A (letOwnedTupleGo tg (.ref it) u) Q E s:=by
  unfold letOwnedTupleGo
  cases tg<;>first
    | exact Y7 hQ
    | (cases u<;>first
        | exact Y7 hQ
        | (refine Zo (wpAny_load ho ?_)
           rw[hc,hd];show wpAny M A (if (["enumerate","zip","dict_itemiterator","dict_reverseitemiterator","odict_iterator","itertools.zip_longest","itertools.pairwise"].contains n && vs[0]? == some (rawInt _))=true then _ else _) Q E s;rw[if_neg (by intro h;rw[hn,Om]at h;cases h)];exact Y7 hQ))
def Itl(K:W.Frag)(a:Addr):It :=
 ⟨fun i H=>∃xs x,Z0 K H a xs/\xs[i]?=some x,fun i H x H'=>H'=H/\∀xs,Z0 K H a xs->xs[i]?=some x,fun i H=>∃xs,Z0 K H a xs/\xs.length<=i⟩
def Itt(K:W.Frag)(a:Addr):It :=
 ⟨fun i H=>∃xs x,Yv K H a xs/\xs[i]?=some x,fun i H x H'=>H'=H/\∀xs,Yv K H a xs->xs[i]?=some x,fun i H=>∃xs,Yv K H a xs/\xs.length<=i⟩
def Itr(lo:Int)(n:Nat):It:=⟨fun i _=>i<n,fun i H x H'=>H'=H/\x=.int (lo+i),fun i _=>n<=i⟩
theorem Zxx{P:Program}{w:World}{K:W.Frag}{tg:Expr}(a it:Addr):A8 P w K tg (Itl K a) [it] it (fun i h=>h.IsListIter it a i) where
 mem:=by simp
 obj:=fun i h st b hb=>by
  have e:b=it:=by simpa using hb
  subst e;obtain⟨o,e,c,d⟩:=st;exact⟨o,e,fun v z=>by rw[d]at z;cases z⟩
 keep:=fun i h h' st k=>st.at fun o e=>k it (by simp) o e
 item:=by
  intro X hP hw hK hc i pins s σ H E I hf st hg;subst hP hw hK;obtain⟨xs,x,hq,hx⟩:=hg;obtain⟨its,rv,p,hz⟩:=I.list hq;obtain⟨u,hu,ru⟩:=rv.get hx;obtain⟨f0,f1,f2,f3,f4,f5⟩:=hf it (by simp);refine wpAny_pyNext_list_item st p.isList (x:=u) (by simpa using hu) fun h' fk sb=>?_;have I1:Zi X pins σ H { s with heap:=h' }:=I.turned (t':=s.toks) (fun b o hb e=>(sb.2 b hb).trans e) f0 f1 f3 f4 f5;obtain⟨o,e,c,d⟩:=id fk;exact⟨u,rfl,yl (s:={ s with heap:=h' }) e c d (by decide) ⟨x,H,I1,ru,⟨rfl,fun ys hy=>by rw[I.list_inj hy hq];exact hx⟩,fk,fun b hb=>(hf b hb).1⟩⟩
 done:=by
  intro X hP hw hK hc i pins s σ H E I hf st hg;subst hP hw hK;obtain⟨xs,hq,hx⟩:=hg;obtain⟨its,rv,p,hz⟩:=I.list hq;obtain⟨f0,f1,f2,f3,f4,f5⟩:=hf it (by simp);have hl:=rv.length;exact wpAny_pyNext_list_end (I.ok.hd hc) st p.isList (by simp;omega) fun h' eb=>⟨rfl,I.turned (t':=s.toks) (fun b o hb e=>eb b o hb e) f0 f1 f3 f4 f5⟩
 self:=fun _ _ _ _ _ st h=>wpAny_pyIter_listiter st h
theorem bb{P:Program}{w:World}{K:W.Frag}{tg:Expr}(a it:Addr):A8 P w K tg (Itt K a) [it] it (fun i h=>h.IsTupleIter it a i) where
 mem:=by simp
 obj:=fun i h st b hb=>by
  have e:b=it:=by simpa using hb
  subst e;obtain⟨o,e,c,d⟩:=st;exact⟨o,e,fun v z=>by rw[d]at z;cases z⟩
 keep:=fun i h h' st k=>st.at fun o e=>k it (by simp) o e
 item:=by
  intro X hP hw hK hc i pins s σ H E I hf st hg;subst hP hw hK;obtain⟨xs,x,hq,hx⟩:=hg;obtain⟨its,rv,p,hz⟩:=I.tuple hq;obtain⟨u,hu,ru⟩:=rv.get hx;obtain⟨f0,f1,f2,f3,f4,f5⟩:=hf it (by simp);refine wpAny_pyNext_tuple_item st (show s.heap.IsTuple a its.toArray from p) (x:=u) (by simpa using hu) fun h' fk sb=>?_;have I1:Zi X pins σ H { s with heap:=h' }:=I.turned (t':=s.toks) (fun b o hb e=>(sb.2 b hb).trans e) f0 f1 f3 f4 f5;obtain⟨o,e,c,d⟩:=id fk;exact⟨u,rfl,yl (s:={ s with heap:=h' }) e c d (by decide) ⟨x,H,I1,ru,⟨rfl,fun ys hy=>by rw[I.tuple_inj hy hq];exact hx⟩,fk,fun b hb=>(hf b hb).1⟩⟩
 done:=by
  intro X hP hw hK hc i pins s σ H E I hf st hg;subst hP hw hK;obtain⟨xs,hq,hx⟩:=hg;obtain⟨its,rv,p,hz⟩:=I.tuple hq;obtain⟨f0,f1,f2,f3,f4,f5⟩:=hf it (by simp);have hl:=rv.length;exact wpAny_pyNext_tuple_end (I.ok.hd hc) st (show s.heap.IsTuple a its.toArray from p) (by simp;omega) fun h' eb=>⟨rfl,I.turned (t':=s.toks) (fun b o hb e=>eb b o hb e) f0 f1 f3 f4 f5⟩
 self:=fun _ _ _ _ _ st h=>wpAny_pyIter_tupleiter st h
theorem bt{P:Program}{w:World}{K:PySem.W.Frag}{tg:Expr}(it:Addr)(lo:Int)(n:Nat):A8 P w K tg (Itr lo n) [it] it (fun i h=>IsRangeIter h it (lo+(i:Nat) * 1) ((n:Int) - (i:Nat)) 1) where
 mem:=by simp
 obj:=fun i h st b hb=>by
  have e:b=it:=by simpa using hb
  subst e
  exact⟨_,st,fun v z=>by
   have z':Data.fields _=Data.cell v:=z;cases z'⟩
 keep:=fun i h h' st k=>k it (by simp) _ st
 item:=by
  intro X hP hw hK hc i pins s σ H E I hf st hg;subst hP hw hK;obtain⟨f0,f1,f2,f3,f4,f5⟩:=hf it (by simp);have W:=Walks.range (prog:=X.prog) (w:=X.w) (I.ok.hd hc) it lo 1 n;refine W.item i s _ _ hg st fun v h' tk hv fk kk=>?_;obtain⟨t,rfl⟩:=hv;have I1:Zi X pins σ H { s with heap:=h',toks:=tk }:=I.turned (fun b o hb e=>kk b o (by simpa using hb) e) f0 f1 f3 f4 f5;refine⟨_,rfl,yl (s:={ s with heap:=h',toks:=tk }) (n:="range_iterator") fk rfl rfl (by decide) ⟨.int (lo+i),H,I1,⟨t, ?_⟩,⟨rfl,rfl⟩,fk,fun b hb=>(hf b hb).1⟩⟩;rw[Int.mul_one]
 done:=by
  intro X hP hw hK hc i pins s σ H E I hf st hg;subst hP hw hK;obtain⟨f0,f1,f2,f3,f4,f5⟩:=hf it (by simp);exact wpAny_pyNext_range_end (I.ok.hd hc) st (by have:n<=i:=hg;omega) fun h' eb=>⟨rfl,I.turned (t':=s.toks) (fun b o hb e=>eb b o hb e) f0 f1 f3 f4 f5⟩
 self:=fun _ _ _ _ _ st h=>wpAny_pyIter_rangeiter st h
section
variable{X:Cx}{tg:Expr}
inductive Zb4(K:W.Frag)(R:(It->Hp->Prop))(x:V)(H1:Hp):Prop
 | mk(a)(Vg:x=.ref a)(Vk:(∃xs,Z0 K H1 a xs))(V1:R (Itl K a) H1)
def Zdy(K:W.Frag)(tl:TE):TI:=fun σ H R=>tl σ H fun x H1=>Zb4 K R x H1
inductive iTup_I(K:W.Frag)(R:(It->Hp->Prop))(x:V)(H1:Hp):Prop
 | mk(a)(Vg:x=.ref a)(Vk:(∃xs,Yv K H1 a xs))(V1:R (Itt K a) H1)
def iTup(K:W.Frag)(tl:TE):TI:=fun σ H R=>tl σ H fun x H1=>iTup_I K R x H1
theorem Ni{l:Expr}{tl:TE}(hl:PE X l tl):PI X tg l (Zdy X.K tl):=by
 intro pins s σ H R I h;refine V0 (hl pins s σ H _ I h) fun v s1 ⟨x,H1,I1,r1,q1⟩=>?_;obtain⟨a,e,⟨xs,hq⟩,q⟩:=q1;subst e;cases r1;obtain⟨its,rv,p,hz⟩:=I1.list hq;refine wpAny_pyIter_list p.isList ?_;refine⟨s1.heap.objs.size,[s1.heap.objs.size],_,_,H1,rfl,I1.kept (t':=s1.toks) fun b o e=>G4 _ e,Zxx a _,⟨_,Rj _ rfl,rfl,rfl⟩,fun b hb=>?_,q⟩;have e:b=s1.heap.objs.size:=by simpa using hb
 subst e;exact I1.fpOk (Vj _) (I1.hok.fresh (Vj _))
theorem pi_tup{l:Expr}{tl:TE}(hl:PE X l tl):PI X tg l (iTup X.K tl):=by
 intro pins s σ H R I h;refine V0 (hl pins s σ H _ I h) fun v s1 ⟨x,H1,I1,r1,q1⟩=>?_;obtain⟨a,e,⟨xs,hq⟩,q⟩:=q1;subst e;cases r1;obtain⟨its,rv,p,hz⟩:=I1.tuple hq;refine wpAny_pyIter_tuple (show s1.heap.IsTuple a its.toArray from p) ?_;refine⟨s1.heap.objs.size,[s1.heap.objs.size],_,_,H1,rfl,I1.kept (t':=s1.toks) fun b o e=>G4 _ e,bb a _,⟨_,Rj _ rfl,rfl,rfl⟩,fun b hb=>?_,q⟩;have e:b=s1.heap.objs.size:=by simpa using hb
 subst e;exact I1.fpOk (Vj _) (I1.hok.fresh (Vj _))
theorem Zvn{pins:Uv}{σ:St}{H:Hp}{s:Shared}{R:It->Hp->Prop}{E:Vt}{lo hi:Int}{t u v:Tok}{tk:Nat}(I:Zi X pins σ H s)(h1:-(2 ^ 62)<=lo)(h2:lo<2 ^ 62)(h3:-(2 ^ 62)<=hi)(h4:hi<2 ^ 62)
  (q:R (Itr lo (hi - lo).toNat) H):wpAny (model X.prog X.w) X.A (pyIter (.ref s.heap.objs.size)) (PIE X pins σ tg R) E { s with heap:=s.heap.push { cls:=.type "range",data:=.fields #[.int lo t,.int hi u,.int 1 v] },toks:=tk }:=by
 refine wpAny_pyIter_range (IsRange.new ..) (small_one h1 h2 h3 h4) ?_;have I1:Zi X pins σ H { s with heap:=s.heap.push { cls:=.type "range",data:=.fields #[.int lo t,.int hi u,.int 1 v] },toks:=tk }:=I.kept fun b o e=>G4 _ e
 refine⟨(s.heap.push { cls:=.type "range",data:=.fields #[.int lo t,.int hi u,.int 1 v] }).objs.size,[(s.heap.push { cls:=.type "range",data:=.fields #[.int lo t,.int hi u,.int 1 v] }).objs.size],_,_,H,rfl,
  I1.kept (t':=tk) fun b o e=>G4 _ e,bt _ lo (hi - lo).toNat, ?_,fun b hb=>?_,q⟩
 ·have e1:lo+((0:Nat):Int) * 1=lo:=by simp
  have e2:(((hi - lo).toNat:Nat):Int) - ((0:Nat):Int)=Builtin.Range.rangeSize lo hi 1:=by rw[rangeSize_one];split<;>omega
  show IsRangeIter _ _ (lo+((0:Nat):Int) * 1) ((((hi - lo).toNat:Nat):Int) - ((0:Nat):Int)) 1;rw[e1,e2];exact Rj _ rfl
 ·have e:b=(s.heap.push { cls:=.type "range",data:=.fields #[.int lo t,.int hi u,.int 1 v] }).objs.size:=by simpa using hb
  subst e;exact I1.fpOk (Vj _) (I1.hok.fresh (Vj _))
inductive Zb3(R:(It->Hp->Prop))(vs:List V)(H1:Hp):Prop
 | mk(j:Int)(Vg:vs=[.int j])(Vk:-(2 ^ 62)<=j)(V1:j<2 ^ 62)(Jk:R (Itr 0 j.toNat) H1)
def iRng1(ta:TA):TI:=fun σ H R=>ta σ H fun vs H1=>Zb3 R vs H1
theorem U9{a:Expr}{ta:TA}{p pos:Pos}(hg:Gl X "range")(hm:X.mg "range" = none)(ha:PA X [a] ta)(hs:starEach [a] X.env=[(false,eval a X.env)]:=by rfl):PI X tg (.Call (.Name "range" p) [a] [] pos) (iRng1 ta):=by
 intro pins s σ H R I h;refine Call_ (Ld I hg hm boot_range (callWith_type1 (V0 (ha pos pins s σ H _ I h) fun us s1 ⟨vs,H1,I1,r1,q1⟩=>?_) hs rfl));obtain⟨j,e,q1,q2,q⟩:=q1;subst e;cases r1 with
 | cons r rr =>
  cases rr;obtain⟨t,rfl⟩:=r;exact call_range_1 (Zvn I1 (by omega) (by omega) q1 q2 (by simpa using q))
def tFor(wi:TI)(g:TG)(tb:TS):TS:=fun D σ H=>wi σ H fun J H1=>∃W:Nat->Nat->St->Hp->Prop,(∃m,W 0 m σ H1)/\∀i m σ H,W i m σ H ->
 (J.stop i H/\D.nx σ H)\/(J.go i H/\∃N:St->Hp->Prop,(∀σ' H',N σ' H'->∃m',m'<m/\W (i+1) m' σ' H')/\∀x H',J.yld i H x H'->g x σ H' fun σ2 H2=>tb { D with nx:=N,ct:=N,bk:=D.nx } σ2 H2)
def Kz(fp:List Addr)(h:Heap):List (Addr×Obj):=fp.filterMap fun b=>(h.get? b).map fun o=>(b,o)
theorem Tx{fp:List Addr}{h:Heap}{b:Addr}{o:Obj}(hb:b∈fp)(e:h.get? b=some o):(b,o)∈Kz fp h:=List.mem_filterMap.mpr ⟨b,hb,by rw[e];rfl⟩
theorem Zqw{fp:List Addr}{h:Heap}{p:Addr×Obj}(hp:p∈Kz fp h):p.1∈fp/\h.get? p.1=some p.2:=by
 obtain⟨b,hb,e⟩:=List.mem_filterMap.mp hp;cases q:h.get? b with
 | none=>rw[q]at e;cases e
 | some o =>
  rw[q]at e;have e':(b,o)=p:=Hn e;subst e';exact⟨hb,q⟩
theorem Zi.pinned{pins:Uv}{σ:St}{H:Hp}{s:Shared}{fp:List Addr}(I:Zi X pins σ H s)(hf:∀b∈fp,Q9 X pins H b)(ho:∀b∈fp,∃o,s.heap.get? b=some o/\∀v,o.data≠.cell v):Zi X (pins++Kz fp s.heap) σ H s :=
 I.pins_of fun p hp=>(T6.mp hp).elim (fun z=>I.pin p (M0r _ z)) fun z=>by
  obtain⟨hb,e⟩:=Zqw z;obtain⟨f0,f1,f2,_⟩:=hf p.1 hb;obtain⟨o,e',d⟩:=ho p.1 hb;rw[e]at e';cases e';exact⟨e,f0,f1,f2,d⟩
theorem Zi.unpinned{pins pl:Uv}{σ:St}{H:Hp}{s:Shared}(I:Zi X (pins++pl) σ H s):Zi X pins σ H s:=I.pins_of fun p hp=>I.pin p (M0r _ (List.mem_append_left _ hp))
theorem Dz{iter:Expr}{body:List Stmt}{wi:TI}{g:TG}{tb:TS}{pos:Pos}(hp:PassesOwn (model X.prog X.w) X.A X.env X.xe)(hc:X.calm=true)(hi:PI X tg iter wi)(hg:PG X tg g)(hb:jy X body tb)
  (hs:∀x,foldedSetIterable iter X.env x=pure x:=by intro _;rfl):PS X (.For tg iter body [] pos) (tFor wi g tb):=by
 intro pins s σ H D I h;refine wpAny_For (V0 (hi pins s σ H _ I h) fun v s1 h1=>V0 h1 fun itv s2 h2=>?_) hs;obtain⟨it,fp,tn,J,H2,e,I2,T,st2,f2,W,⟨m0,w0⟩,turn⟩:=h2;subst e;have stat:∀{H':Hp},(∀b∈fp,H' b=none)->∀b∈fp,Q9 X pins H' b:=fun hn b hb=>⟨hn b hb,(f2 b hb).2⟩;refine codeAny_forLoop_any (fun n s'=>∃i σ' H',Zi X pins σ' H' s'/\tn i s'.heap/\(∀b∈fp,H' b=none)/\W i n σ' H') ?_ m0 ⟨0,σ,H2,I2,st2,fun b hb=>(f2 b hb).1,w0⟩;rintro n s3 ⟨i,σ3,H3,I3,st3,fr3,w3⟩;rcases turn i n σ3 H3 w3 with ⟨stop,qn⟩ | ⟨go,N,hN,step⟩
 ·refine wpAny_passesOwn hp (V0 (T.done X rfl rfl rfl hc i pins s3 σ3 H3 X.xe I3 (stat fr3) st3 stop) fun r s4 ⟨hr,I4⟩=>?_);subst hr;exact wpAny_execs_nil ⟨σ3,H3,I4,qn⟩
 ·refine wpAny_passesOwn hp (V0 (T.item X rfl rfl rfl hc i pins s3 σ3 H3 X.xe I3 (stat fr3) st3 go) fun r s4 ⟨u,hr,h4⟩=>?_);subst hr;refine wpAny_passesOwn hp (V0 h4 fun _ s5 ⟨x,H5,I5,r5,y5,st5,fr5⟩=>?_);have I5':=I5.pinned (stat fr5) (T.obj _ _ st5);refine wpAny_passesOwn hp (V0 (hg _ s5 σ3 H5 x u _ I5' r5 (step x H5 y5)) fun _ s6 ⟨σ6,H6,I6,q6⟩=>?_);refine wpAny_passesOwn hp (V0 (hb _ s6 σ6 H6 _ I6 q6) fun f s7 q7=>?_)
  have again:∀{σ7:St} {H7:Hp},Zi X (pins++Kz fp s5.heap) σ7 H7 s7->N σ7 H7->∃m,m<n/\∃i σ' H',Zi X pins σ' H' s7/\tn i s7.heap/\(∀b∈fp,H' b=none)/\W i m σ' H':=fun {σ7 H7} I7 n7=>by
   obtain⟨m',hm,w7⟩:=hN σ7 H7 n7;refine⟨m',hm,i+1,σ7,H7,I7.unpinned,T.keep _ _ _ st5 fun b hb o e=>(I7.pin (b,o) (M0r _ (M0r _ (Tx hb e)))).1,fun b hb=>?_,w7⟩;obtain⟨o,e,d⟩:=T.obj _ _ st5 b hb;exact(I7.pin (b,o) (M0r _ (M0r _ (Tx hb e)))).2.1
  cases f with
  | next=>obtain⟨σ7,H7,I7,n7⟩:=q7;exact again I7 n7
  | cont=>obtain⟨σ7,H7,I7,n7⟩:=q7;exact again I7 n7
  | brk=>obtain⟨σ7,H7,I7,q7⟩:=q7;exact⟨σ7,H7,I7.unpinned,q7⟩
  | ret v=>obtain⟨x7,σ7,H7,I7,r7,q7⟩:=q7;exact⟨x7,σ7,H7,I7.unpinned,r7,q7⟩
end
theorem Nw{K:PySem.W.Frag}{a:Addr}{xs:List V}{g:TG}{tb:TS}{D:Fx}{σ:St}{H:Hp}(Pv:Nat->St->Hp->Prop)(h0:Pv 0 σ H)(hl:∀i σ H,i<=xs.length->Pv i σ H->Z0 K H a xs)
  (hs:∀i x σ H,xs[i]?=some x->Pv i σ H->g x σ H fun σ2 H2=>tb { D with nx:=Pv (i+1),ct:=Pv (i+1),bk:=D.nx } σ2 H2) (hd:∀σ H,Pv xs.length σ H->D.nx σ H) :
  ∃W:Nat->Nat->St->Hp->Prop,(∃m,W 0 m σ H)/\∀i m σ H,W i m σ H ->
   ((Itl K a).stop i H/\D.nx σ H)\/((Itl K a).go i H/\∃N:St->Hp->Prop,(∀σ' H',N σ' H'->∃m',m'<m/\W (i+1) m' σ' H')/\∀x H',(Itl K a).yld i H x H'->g x σ H' fun σ2 H2=>tb { D with nx:=N,ct:=N,bk:=D.nx } σ2 H2):=by
 refine⟨fun i m σ H=>m=xs.length - i/\i<=xs.length/\Pv i σ H,⟨xs.length,by simp,Wl _,h0⟩, ?_⟩;rintro i m σ H ⟨rfl,hi,p⟩;have q:=hl i σ H hi p;by_cases Nc:i<xs.length
 ·refine .inr ⟨⟨xs,xs[i],q,by simp[Nc]⟩,Pv (i+1),fun σ' H' p'=>⟨xs.length - (i+1),by omega,rfl,Nc,p'⟩,fun x H' y=>?_⟩;obtain⟨e,y⟩:=y;subst e;exact hs i x σ _ (y xs q) p
 ·have e:i=xs.length:=by omega
  subst e;exact .inl ⟨⟨xs,q,Vj _⟩,hd σ H p⟩
theorem Zzl{K:PySem.W.Frag}{a:Addr}{xs:List V}{g:TG}{tb:TS}{D:Fx}{σ:St}{H:Hp}(Pv:Nat->St->Hp->Prop)(h0:Pv 0 σ H)(hl:∀i σ H,i<=xs.length->Pv i σ H->Yv K H a xs)
  (hs:∀i x σ H,xs[i]?=some x->Pv i σ H->g x σ H fun σ2 H2=>tb { D with nx:=Pv (i+1),ct:=Pv (i+1),bk:=D.nx } σ2 H2) (hd:∀σ H,Pv xs.length σ H->D.nx σ H) :
  ∃W:Nat->Nat->St->Hp->Prop,(∃m,W 0 m σ H)/\∀i m σ H,W i m σ H ->
   ((Itt K a).stop i H/\D.nx σ H)\/((Itt K a).go i H/\∃N:St->Hp->Prop,(∀σ' H',N σ' H'->∃m',m'<m/\W (i+1) m' σ' H')/\∀x H',(Itt K a).yld i H x H'->g x σ H' fun σ2 H2=>tb { D with nx:=N,ct:=N,bk:=D.nx } σ2 H2):=by
 refine⟨fun i m σ H=>m=xs.length - i/\i<=xs.length/\Pv i σ H,⟨xs.length,by simp,Wl _,h0⟩, ?_⟩;rintro i m σ H ⟨rfl,hi,p⟩;have q:=hl i σ H hi p;by_cases Nc:i<xs.length
 ·refine .inr ⟨⟨xs,xs[i],q,by simp[Nc]⟩,Pv (i+1),fun σ' H' p'=>⟨xs.length - (i+1),by omega,rfl,Nc,p'⟩,fun x H' y=>?_⟩;obtain⟨e,y⟩:=y;subst e;exact hs i x σ _ (y xs q) p
 ·have e:i=xs.length:=by omega
  subst e;exact .inl ⟨⟨xs,q,Vj _⟩,hd σ H p⟩
theorem P5{lo:Int}{n:Nat}{g:TG}{tb:TS}{D:Fx}{σ:St}{H:Hp}(Pv:Nat->St->Hp->Prop)(h0:Pv 0 σ H)
  (hs:∀i σ H,i<n->Pv i σ H->g (.int (lo+i)) σ H fun σ2 H2=>tb { D with nx:=Pv (i+1),ct:=Pv (i+1),bk:=D.nx } σ2 H2) (hd:∀σ H,Pv n σ H->D.nx σ H) :
  ∃W:Nat->Nat->St->Hp->Prop,(∃m,W 0 m σ H)/\∀i m σ H,W i m σ H ->
   ((Itr lo n).stop i H/\D.nx σ H)\/((Itr lo n).go i H/\∃N:St->Hp->Prop,(∀σ' H',N σ' H'->∃m',m'<m/\W (i+1) m' σ' H')/\∀x H',(Itr lo n).yld i H x H'->g x σ H' fun σ2 H2=>tb { D with nx:=N,ct:=N,bk:=D.nx } σ2 H2):=by
 refine⟨fun i m σ H=>m=n - i/\i<=n/\Pv i σ H,⟨n,by simp,Wl _,h0⟩, ?_⟩;rintro i m σ H ⟨rfl,hi,p⟩;by_cases Nc:i<n
 ·refine .inr ⟨Nc,Pv (i+1),fun σ' H' p'=>⟨n - (i+1),by omega,rfl,Nc,p'⟩,fun x H' y=>?_⟩;obtain⟨e,y⟩:=y;subst e y;exact hs i σ _ Nc p
 ·have e:i=n:=by omega
  subst e;exact .inl ⟨Vj _,hd σ H p⟩
abbrev R2:=V->V->Hp->VK->Prop
def Nd(X:Cx)(f:Value->Value->Sem Value)(r:R2):Prop :=
 ∀(pins:Uv) (s:Shared) (σ:St) (H:Hp) (x y:V) (v u:Value) (Q:VK),Zi X pins σ H s->Z9 x v->Z9 y u->r x y H Q ->
  wpAny (model X.prog X.w) X.A (f v u) (EP X pins σ Q) X.xe s
def UnR(X:Cx)(f:Value->Sem Value)(r:V->Hp->VK->Prop):Prop :=
 ∀(pins:Uv) (s:Shared) (σ:St) (H:Hp) (x:V) (v:Value) (Q:VK),Zi X pins σ H s->Z9 x v->r x H Q ->
  wpAny (model X.prog X.w) X.A (f v) (EP X pins σ Q) X.xe s
def D9(X:Cx)(f:Value)(r:List V->Hp->VK->Prop):Prop :=
 ∀(pins:Uv) (s:Shared) (σ:St) (H:Hp) (xs:List V) (us:List Value) (Q:VK),Zi X pins σ H s->Yb xs us->r xs H Q ->
  wpAny (model X.prog X.w) X.A (call f us) (EP X pins σ Q) X.xe s
def TruR(X:Cx)(r:V->Hp->(Bool->Hp->Prop)->Prop):Prop :=
 ∀(pins:Uv) (s:Shared) (σ:St) (H:Hp) (x:V) (v:Value) (Q:Bool->Hp->Prop),Zi X pins σ H s->Z9 x v->r x H Q ->
  wpAny (model X.prog X.w) X.A (truthy v) (TP X pins σ Q) X.xe s
def tOp(r:R2)(ta tb:TE):TE:=fun σ H Q=>ta σ H fun x H1=>tb σ H1 fun y H2=>r x y H2 Q
def tUn(r:V->Hp->VK->Prop)(ta:TE):TE:=fun σ H Q=>ta σ H fun x H1=>r x H1 Q
inductive rI_I(C:Int->Int->Prop)(g:Int->Int->V)(x:V)(y:V)(H:Hp)(Q:VK):Prop
 | mk(i j)(Vg:x=.int i)(Vk:y=.int j)(V1:C i j)(Jk:Q (g i j) H)
def rI(C:Int->Int->Prop)(g:Int->Int->V):R2:=fun x y H Q=>rI_I C g x y H Q
inductive rI0_I(g:Int->Int->V)(x:V)(y:V)(H:Hp)(Q:VK):Prop
 | mk(i j)(Vg:x=.int i)(Vk:y=.int j)(V1:Q (g i j) H)
def rI0(g:Int->Int->V):R2:=fun x y H Q=>rI0_I g x y H Q
inductive rU_I(g:Int->V)(x:V)(H:Hp)(Q:VK):Prop
 | mk(i)(Vg:x=.int i)(Vk:Q (g i) H)
def rU(g:Int->V):V->Hp->VK->Prop:=fun x H Q=>rU_I g x H Q
section
variable{X:Cx}{a b c:Expr}{ta tb tc:TE}{pos:Pos}
theorem binT(ha:PE X a ta)(hb:PE X b tb){pins:Uv}{s:Shared}{σ:St}{H:Hp}{R:V->V->Hp->Prop}(I:Zi X pins σ H s)
  (h:ta σ H fun x H1=>tb σ H1 fun y H2=>R x y H2) {Q:Vt} {f:Value->Value->Sem Value}
  (hf:∀v u s2 x y H2,Zi X pins σ H2 s2->Z9 x v->Z9 y u->R x y H2->wpAny (model X.prog X.w) X.A (f v u) Q X.xe s2) :
  wpAny (model X.prog X.w) X.A (eval a X.env) (fun v s₁=>wpAny (model X.prog X.w) X.A (eval b X.env) (fun u s₂=>wpAny (model X.prog X.w) X.A (f v u) Q X.xe s₂) X.xe s₁) X.xe s:=by
 refine V0 (ha pins s σ H _ I h) fun v s1 ⟨x,H1,I1,r1,q1⟩=>?_;refine V0 (hb pins s1 σ H1 _ I1 q1) fun u s2 ⟨y,H2,I2,r2,q2⟩=>?_;exact hf v u s2 x y H2 I2 r1 r2 q2
theorem Di{op:Operator}{r:R2}(ho:Nd X (binaryOp op) r)(ha:PE X a ta)(hb:PE X b tb):PE X (.BinOp a op b pos) (tOp r ta tb):=by
 intro pins s σ H Q I h;exact wpAny_BinOp (binT ha hb I h fun v u s2 x y H2 I2 rx ry q=>ho pins s2 σ H2 x y v u Q I2 rx ry q)
theorem Cm{op:UnaryOp}{r:V->Hp->VK->Prop}(ho:UnR X (unaryOp op) r)(ha:PE X a ta):PE X (.UnaryOp op a pos) (tUn r ta):=by
 intro pins s σ H Q I h;exact UnaryOp_ (V0 (ha pins s σ H _ I h) fun v s1 ⟨x,H1,I1,r1,q1⟩=>ho pins s1 σ H1 x v Q I1 r1 q1)
theorem opI{f:Value->Value->Sem Value}{C:Int->Int->Prop}{g:Int->Int->Int}
  (rule:∀(i j:Int) (t u:Tok) (s:Shared) (Q:Vt) (E:Vt),C i j->Q (.int (g i j) s.toks) { s with toks:=s.toks+1 }->wpAny (model X.prog X.w) X.A (f (.int i t) (.int j u)) Q E s) :
  Nd X f (rI C fun i j=>.int (g i j)):=by
 intro pins s σ H x y v u Q I rx ry h;obtain⟨i,j,rfl,rfl,hc,q⟩:=h;obtain⟨t,rfl⟩:=rx;obtain⟨t',rfl⟩:=ry;exact rule i j t t' s _ _ hc ⟨.int (g i j),H,I.tok _,⟨_,rfl⟩,q⟩
theorem opI0{f:Value->Value->Sem Value}{g:Int->Int->Int}
  (rule:∀(i j:Int) (t u:Tok) (s:Shared) (Q:Vt) (E:Vt),Q (.int (g i j) s.toks) { s with toks:=s.toks+1 }->wpAny (model X.prog X.w) X.A (f (.int i t) (.int j u)) Q E s) :
  Nd X f (rI0 fun i j=>.int (g i j)):=by
 intro pins s σ H x y v u Q I rx ry h;obtain⟨i,j,rfl,rfl,q⟩:=h;obtain⟨t,rfl⟩:=rx;obtain⟨t',rfl⟩:=ry;exact rule i j t t' s _ _ ⟨.int (g i j),H,I.tok _,⟨_,rfl⟩,q⟩
theorem opB0{f:Value->Value->Sem Value}{g:Int->Int->Bool}
  (rule:∀(i j:Int) (t u:Tok) (s:Shared) (Q:Vt) (E:Vt),Q (.bool (g i j)) s->wpAny (model X.prog X.w) X.A (f (.int i t) (.int j u)) Q E s) :
  Nd X f (rI0 fun i j=>.bl (g i j)):=by
 intro pins s σ H x y v u Q I rx ry h;obtain⟨i,j,rfl,rfl,q⟩:=h;obtain⟨t,rfl⟩:=rx;obtain⟨t',rfl⟩:=ry;exact rule i j t t' s _ _ ⟨.bl (g i j),H,I,rfl,q⟩
def CDiv(i j:Int):Prop:=0<j/\j<1073741824
def Zjt(i j:Int):Prop:=0<=j/\j<=1000000/\i.natAbs<2 ^ 64
def CMul(i j:Int):Prop:=(-(2 ^ 64)<i/\i<2 ^ 64)\/(-(2 ^ 64)<j/\j<2 ^ 64)
theorem CMul.ok{i j:Int}(h:CMul i j):IntMulOk i j:=by
 rcases h with ⟨h1,h2⟩ | ⟨h1,h2⟩
 ·exact .of_left (intBits_le_64 h1 h2)
 ·exact .of_right (intBits_le_64 h1 h2)
theorem Ju:Nd X (binaryOp .Add) (rI0 fun i j=>.int (i+j)):=opI0 fun _ _ _ _ _ _ _ q=>add_int q
theorem Lq:Nd X (binaryOp .Sub) (rI0 fun i j=>.int (i - j)):=opI0 fun _ _ _ _ _ _ _ q=>sub_int q
theorem Cs:Nd X (binaryOp .Mult) (rI CMul fun i j=>.int (i * j)):=opI fun _ _ _ _ _ _ _ hc q=>mul_int q hc.ok
theorem zd:Nd X (binaryOp .FloorDiv) (rI CDiv fun i j=>.int (i / j)):=opI fun i j _ _ _ _ _ hc q=>by
 have h1:(0:Int)<j:=hc.1;have h2:j<1073741824:=hc.2;exact floordiv_int (by omega) (by rw[Int.fdiv_eq_ediv_of_nonneg i (by omega)];exact q) (.inl (PyProof.noPylong_small (by omega)))
theorem Cp:Nd X (binaryOp .Mod) (rI (fun _ j=>0<j) fun i j=>.int (i % j)):=opI fun i j _ _ _ _ _ hc q=>by
 have h1:(0:Int)<j:=hc;exact mod_int' (by omega) (by rw[Int.fmod_eq_emod_of_nonneg i (by omega)];exact q)
theorem Bz:Nd X (binaryOp .Pow) (rI Zjt fun i j=>.int (i ^ j.toNat)):=opI fun _ _ _ _ _ _ _ hc q=>pow_int_small hc.1 hc.2.1 hc.2.2 q
theorem unI{f:Value->Sem Value}{g:Int->Int}
  (rule:∀(i:Int) (t:Tok) (s:Shared) (Q:Vt) (E:Vt),Q (.int (g i) s.toks) { s with toks:=s.toks+1 }->wpAny (model X.prog X.w) X.A (f (.int i t)) Q E s) :
  UnR X f (rU fun i=>.int (g i)):=by
 intro pins s σ H x v Q I rx h;obtain⟨i,rfl,q⟩:=h;obtain⟨t,rfl⟩:=rx;exact rule i t s _ _ ⟨.int (g i),H,I.tok _,⟨_,rfl⟩,q⟩
theorem M4:UnR X (unaryOp .USub) (rU fun i=>.int (-i)):=unI fun _ _ _ _ _ q=>neg_int q
end
def scal:V->V->Bool
 | .non,.non=>true | .non,.int _=>true | .int _,.non=>true | .non,.bl _=>true | .bl _,.non=>true | .non,.str _=>true | .str _,.non=>true
 | .int _,.int _=>true | .bl _,.bl _=>true | .str _,.str _=>true | .byt _,.byt _=>true
 | .int _,.str _=>true | .str _,.int _=>true | .bl _,.str _=>true | .str _,.bl _=>true
 | _,_=>false
def rEq:R2:=fun x y H Q=>scal x y=true/\Q (.bl (decide (x=y))) H
def rNe:R2:=fun x y H Q=>scal x y=true/\Q (.bl (!decide (x=y))) H
theorem Zzu{i j:Int}:decide (V.int i=V.int j)=(i == j):=by
 rw[Bool.eq_iff_iff];simp
theorem Zks{i j:Bool}:decide (V.bl i=V.bl j)=(i == j):=by
 rw[Bool.eq_iff_iff];simp
theorem Zzp{i j:Str}:decide (V.str i=V.str j)=(i == j):=by
 rw[Bool.eq_iff_iff];simp
theorem Zza{i j:Array UInt8}:decide (V.byt i=V.byt j)=(i.toList == j.toList):=by
 rw[Bool.eq_iff_iff];cases i;cases j;simp
section
variable{X:Cx}{a b c:Expr}{ta tb tc:TE}{pos:Pos}
theorem Yh{pins:Uv}{σ:St}{H:Hp}{s:Shared}{Q:VK}{k k':Bool}(I:Zi X pins σ H s)(q:Q (.bl k) H)(e:k=k'):EP X pins σ Q (.bool k') s:=by
 subst e;exact⟨.bl k,H,I,rfl,q⟩
theorem Ym:Nd X (compareOp .Eq) rEq:=by
 intro pins s σ H x y v u Q I rx ry h;obtain⟨hs,q⟩:=h;cases x with
 | non =>
  cases rx;cases y with
  | non=>cases ry;exact PySem.EqNone.eq_none_none (Yh I q (by simp))
  | bl j=>cases ry;exact PySem.EqNone.eq_none_bool (Yh I q (by simp))
  | int j=>obtain⟨t',rfl⟩:=ry;exact PySem.EqNone.eq_none_int (Yh I q (by simp))
  | str j=>obtain⟨t',rfl⟩:=ry;exact PySem.EqNone.eq_none_str (Yh I q (by simp))
  | _=>exact absurd (show false=true from hs) T7
 | bl i =>
  cases rx;cases y with
  | non=>cases ry;exact PySem.EqNone.eq_bool_none (Yh I q (by simp))
  | bl j=>cases ry;exact eq_bool (Yh I q Zks)
  | str j=>obtain⟨t',rfl⟩:=ry;exact PySem.EqMixed.eq_bool_str (Yh I q (by simp))
  | _=>exact absurd (show false=true from hs) T7
 | int i =>
  obtain⟨t,rfl⟩:=rx;cases y with
  | non=>cases ry;exact PySem.EqNone.eq_int_none (Yh I q (by simp))
  | int j=>obtain⟨t',rfl⟩:=ry;exact eq_int (Yh I q Zzu)
  | str j=>obtain⟨t',rfl⟩:=ry;exact PySem.EqMixed.eq_int_str (Yh I q (by simp))
  | _=>exact absurd (show false=true from hs) T7
 | str i =>
  obtain⟨t,rfl⟩:=rx;cases y with
  | non=>cases ry;exact PySem.EqNone.eq_str_none (Yh I q (by simp))
  | bl j=>cases ry;exact PySem.EqMixed.eq_str_bool (Yh I q (by simp))
  | int j=>obtain⟨t',rfl⟩:=ry;exact PySem.EqMixed.eq_str_int (Yh I q (by simp))
  | str j=>obtain⟨t',rfl⟩:=ry;exact eq_str (Yh I q Zzp)
  | _=>exact absurd (show false=true from hs) T7
 | byt i =>
  obtain⟨t,rfl⟩:=rx;cases y with
  | byt j=>obtain⟨t',rfl⟩:=ry;exact W.eq_bytes (Yh I q Zza)
  | _=>exact absurd (show false=true from hs) T7
 | _=>cases y<;>exact absurd (show false=true from hs) T7
theorem Oa:Nd X (compareOp .NotEq) rNe:=by
 intro pins s σ H x y v u Q I rx ry h;obtain⟨hs,q⟩:=h;cases x with
 | non =>
  cases rx;cases y with
  | non=>cases ry;exact PySem.EqNone.ne_none_none (Yh I q (by simp))
  | bl j=>cases ry;exact PySem.EqNone.ne_none_bool (Yh I q (by simp))
  | int j=>obtain⟨t',rfl⟩:=ry;exact PySem.EqNone.ne_none_int (Yh I q (by simp))
  | str j=>obtain⟨t',rfl⟩:=ry;exact PySem.EqNone.ne_none_str (Yh I q (by simp))
  | _=>exact absurd (show false=true from hs) T7
 | bl i =>
  cases rx;cases y with
  | non=>cases ry;exact PySem.EqNone.ne_bool_none (Yh I q (by simp))
  | bl j=>cases ry;exact ne_bool (Yh I q (congrArg not Zks))
  | str j=>obtain⟨t',rfl⟩:=ry;exact PySem.EqMixed.ne_bool_str (Yh I q (by simp))
  | _=>exact absurd (show false=true from hs) T7
 | int i =>
  obtain⟨t,rfl⟩:=rx;cases y with
  | non=>cases ry;exact PySem.EqNone.ne_int_none (Yh I q (by simp))
  | int j=>obtain⟨t',rfl⟩:=ry;exact ne_int (Yh I q (congrArg not Zzu))
  | str j=>obtain⟨t',rfl⟩:=ry;exact PySem.EqMixed.ne_int_str (Yh I q (by simp))
  | _=>exact absurd (show false=true from hs) T7
 | str i =>
  obtain⟨t,rfl⟩:=rx;cases y with
  | non=>cases ry;exact PySem.EqNone.ne_str_none (Yh I q (by simp))
  | bl j=>cases ry;exact PySem.EqMixed.ne_str_bool (Yh I q (by simp))
  | int j=>obtain⟨t',rfl⟩:=ry;exact PySem.EqMixed.ne_str_int (Yh I q (by simp))
  | str j=>obtain⟨t',rfl⟩:=ry;exact ne_str (Yh I q (congrArg not Zzp))
  | _=>exact absurd (show false=true from hs) T7
 | byt i =>
  obtain⟨t,rfl⟩:=rx;cases y with
  | byt j=>obtain⟨t',rfl⟩:=ry;exact W.ne_bytes (Yh I q (congrArg not Zza))
  | _=>exact absurd (show false=true from hs) T7
 | _=>cases y<;>exact absurd (show false=true from hs) T7
theorem F0:Nd X (compareOp .Lt) (rI0 fun i j=>.bl (decide (i<j))):=opB0 fun _ _ _ _ _ _ _ q=>lt_int q
theorem Wy:Nd X (compareOp .LtE) (rI0 fun i j=>.bl (decide (i<=j))):=opB0 fun _ _ _ _ _ _ _ q=>le_int q
theorem Ia:Nd X (compareOp .Gt) (rI0 fun i j=>.bl (decide (j<i))):=opB0 fun _ _ _ _ _ _ _ q=>gt_int q
inductive wj(x:V)(y:V)(H:Hp)(Q:VK):Prop
 | mk(i j)(Vg:x=.str i)(Vk:y=.str j)(V1:Q (.bl (decide (i.cps.toList<j.cps.toList))) H)
theorem Zqz:Nd X (compareOp .Lt) (fun x y H Q=>wj x y H Q):=by
 intro pins s σ H x y v u Q I rx ry h;obtain⟨i,j,rfl,rfl,q⟩:=h;obtain⟨t,rfl⟩:=rx;obtain⟨t',rfl⟩:=ry;exact lt_str (Yh I q rfl)
inductive wg(x:V)(y:V)(H:Hp)(Q:VK):Prop
 | mk(i j)(Vg:x=.str i)(Vk:y=.str j)(V1:Q (.bl (!(Builtin.Str.occurrences j i 0 j.length 1).isEmpty)) H)
theorem Pc:Nd X (compareOp .In) (fun x y H Q=>wg x y H Q):=by
 intro pins s σ H x y v u Q I rx ry h;obtain⟨i,j,rfl,rfl,q⟩:=h;obtain⟨t,rfl⟩:=rx;obtain⟨t',rfl⟩:=ry;exact in_str (Yh I q rfl)
theorem tq:Nd X (compareOp .Is) (fun x y H Q=>y=.non/\Q (.bl (decide (x=.non))) H):=by
 intro pins s σ H x y v u Q I rx ry h;obtain⟨rfl,q⟩:=h;cases ry;refine is_none_gen (Yh I q ?_)
 cases x<;>first
  | (cases rx;rfl)
  | (obtain⟨t,rfl⟩:=rx;rfl)
theorem Zbq:Nd X (compareOp .IsNot) (fun x y H Q=>y=.non/\Q (.bl (!decide (x=.non))) H):=by
 intro pins s σ H x y v u Q I rx ry h;obtain⟨rfl,q⟩:=h;cases ry;refine isnot_none_gen (Yh I q ?_)
 cases x<;>first
  | (cases rx;rfl)
  | (obtain⟨t,rfl⟩:=rx;rfl)
theorem cn(b:Expr){op:CmpOp}(h:op≠.In:=by decide)(h2:op≠.NotIn:=by decide):behindInMarks op b=false:=by
 have e1:(op == CmpOp.In)=false:=by cases op<;>first | rfl | exact absurd rfl h
 have e2:(op == CmpOp.NotIn)=false:=by cases op<;>first | rfl | exact absurd rfl h2
 cases b<;>simp[behindInMarks,e1,e2]
theorem Ru{op:CmpOp}{r:R2}(ho:Nd X (compareOp op) r)(ha:PE X a ta)(hb:PE X b tb)(hm:behindInMarks op b=false):PE X (.Compare a [op] [b] pos) (tOp r ta tb):=by
 intro pins s σ H Q I h;exact wpAny_Compare1 (binT ha hb I h fun v u s2 x y H2 I2 rx ry q=>ho pins s2 σ H2 x y v u Q I2 rx ry q) hm
inductive Zge(Q:(Bool->Hp->Prop))(x:V)(H':Hp):Prop
 | mk(k)(Vg:x=.bl k)(Vk:Q k H')
def Zwf(t:TE):TT:=fun σ H Q=>t σ H fun x H'=>Zge Q x H'
theorem Md{op:CmpOp}{r:R2}(ho:Nd X (compareOp op) r)(ha:PE X a ta)(hb:PE X b tb)(hm:behindInMarks op b=false):PT X (.Compare a [op] [b] pos) (Zwf (tOp r ta tb)):=by
 intro pins s σ H Q I h
 refine wpAny_isTrue_Compare1 (V0 (ha pins s σ H _ I h) fun v s1 ⟨x,H1,I1,r1,q1⟩=>V0 (hb pins s1 σ H1 _ I1 q1) fun u s2 ⟨y,H2,I2,r2,q2⟩ =>
  V0 (ho pins s2 σ H2 x y v u _ I2 r1 r2 q2) fun c s3 ⟨z,H3,I3,r3,k,e,q3⟩=>?_) hm
 subst e;cases r3;exact wpAny_truthy_bool ⟨H3,I3,q3⟩
inductive Zwt(r':R2)(tc:TE)(σ:St)(Q:VK)(y:V)(z:V)(H3:Hp):Prop
 | mk(k)(Vg:z=.bl k)(Vk:(if k=true then tc σ H3 fun w' H4=>r' y w' H4 Q else Q (.bl false) H3))
def Zwc(r r':R2)(ta tb tc:TE):TE:=fun σ H Q=>ta σ H fun x H1=>tb σ H1 fun y H2=>r x y H2 fun z H3=>Zwt r' tc σ Q y z H3
theorem Kx{op op':CmpOp}{r r':R2}(ho:Nd X (compareOp op) r)(ho':Nd X (compareOp op') r')(ha:PE X a ta)(hb:PE X b tb)(hc:PE X c tc)
  (hm:lastMarks [op,op'] [b,c]=false:=by with_unfolding_all rfl):PE X (.Compare a [op,op'] [b,c] pos) (Zwc r r' ta tb tc):=by
 intro pins s σ H Q I h
 refine Compare_chain (V0 (ha pins s σ H _ I h) fun v s1 ⟨x,H1,I1,r1,q1⟩=>chain_link (V0 (hb pins s1 σ H1 _ I1 q1) fun u s2 ⟨y,H2,I2,r2,q2⟩ =>
  V0 (ho pins s2 σ H2 x y v u _ I2 r1 r2 q2) fun d s3 ⟨z,H3,I3,r3,k,e,q3⟩=>?_)) hm
 subst e;cases r3;refine wpAny_truthy_bool ?_;cases k with
 | false=>exact ite_ff ⟨.bl false,H3,I3,rfl,q3⟩
 | true=>exact ite_tt (chain_last (V0 (hc pins s3 σ H3 _ I3 q3) fun w' s4 ⟨z',H4,I4,r4,q4⟩=>ho' pins s4 σ H4 y z' u w' Q I4 r2 r4 q4))
theorem j7{op op':CmpOp}{r r':R2}(ho:Nd X (compareOp op) r)(ho':Nd X (compareOp op') r')(ha:PE X a ta)(hb:PE X b tb)(hc:PE X c tc)
  (hm:lastMarks [op,op'] [b,c]=false:=by with_unfolding_all rfl):PT X (.Compare a [op,op'] [b,c] pos) (Zwf (Zwc r r' ta tb tc)):=by
 intro pins s σ H Q I h
 refine isTrue_chain (V0 (ha pins s σ H _ I h) fun v s1 ⟨x,H1,I1,r1,q1⟩=>test_link (V0 (hb pins s1 σ H1 _ I1 q1) fun u s2 ⟨y,H2,I2,r2,q2⟩ =>
  V0 (ho pins s2 σ H2 x y v u _ I2 r1 r2 q2) fun d s3 ⟨z,H3,I3,r3,k,e,q3⟩=>?_)) hm
 subst e;cases r3;refine wpAny_truthy_bool ?_;cases k with
 | false =>
  obtain⟨k',e',q'⟩:=q3;cases e';exact ite_ff ⟨H3,I3,q'⟩
 | true =>
  refine ite_tt (test_last (V0 (hc pins s3 σ H3 _ I3 q3) fun w' s4 ⟨z',H4,I4,r4,q4⟩=>V0 (ho' pins s4 σ H4 y z' u w' _ I4 r2 r4 q4) fun d' s5 ⟨z2,H5,I5,r5,k2,e2,q5⟩=>?_));subst e2;cases r5;exact wpAny_truthy_bool ⟨H5,I5,q5⟩
def TruV(K:W.Frag)(x:V)(H:Hp)(k:Bool):Prop :=
 match x with
 | .non=>k=false
 | .bl b=>k=b
 | .int i=>k=(i != 0)
 | .str y=>y.length<=sizeLine/\k=((y.length:Int) != 0)
 | .byt y=>y.size<=sizeLine/\k=((y.size:Int) != 0)
 | .ref p=>(∃xs,Z0 K H p xs/\k=!xs.isEmpty)\/(∃xs,Yv K H p xs/\k=!xs.isEmpty)\/∃kvs,H p=some (.dK kvs)/\k=!kvs.isEmpty
 | _=>False
theorem lg{κ:Type}{kvs:List (κ×V)}{vs:List (κ×Value)}(r:KV kvs vs):(!vs.isEmpty)=!kvs.isEmpty:=by
 cases r<;>rfl
theorem Ke{xs:List V}{its:List Value}(r:Yb xs its):(!its.toArray.isEmpty)=!xs.isEmpty:=by
 cases r<;>simp
theorem Po:(sizeLine:Nat)<2 ^ 63:=by rw[sizeLine_eq];decide
theorem tru_ok:TruR X (fun x H Q=>∃k,TruV X.K x H k/\Q k H):=by
 intro pins s σ H x v Q I rx h;obtain⟨k,e,q⟩:=h;have hl:=Po;have hs:sizeLine=16777216:=sizeLine_eq;cases x with
 | non =>
  cases rx;have e':k=false:=e;subst e';exact truthy_none ⟨H,I,q⟩
 | bl b =>
  cases rx;have e':k=b:=e;subst e';exact wpAny_truthy_bool ⟨H,I,q⟩
 | int i =>
  obtain⟨t,rfl⟩:=rx;have e':k=(i != 0):=e;subst e';exact PySem.P.truthy_int ⟨H,I,q⟩
 | str y =>
  obtain⟨t,rfl⟩:=rx;obtain⟨hy,e'⟩:y.length<=sizeLine/\k=((y.length:Int) != 0):=e;subst e';exact PySem.P.truthy_str (by omega) ⟨H,I.tok _,q⟩
 | byt y =>
  obtain⟨t,rfl⟩:=rx;obtain⟨hy,e'⟩:y.size<=sizeLine/\k=((y.size:Int) != 0):=e;subst e';exact W.truthy_bytes (by omega) ⟨H,I.tok _,q⟩
 | ref p =>
  cases rx;have e':(∃xs,Z0 X.K H p xs/\k=!xs.isEmpty)\/(∃xs,Yv X.K H p xs/\k=!xs.isEmpty)\/∃kvs,H p=some (.dK kvs)/\k=!kvs.isEmpty:=e;rcases e' with ⟨xs,hx,e'⟩ | ⟨xs,hx,e'⟩ | ⟨kvs,hx,e'⟩
  ·subst e';obtain⟨its,r,pl,hz⟩:=I.list hx;have hlen:=r.length;exact wpAny_truthy_list pl.isList (by simp only[Dy];omega) ⟨H,I.tok _,by rw[Ke r];exact q⟩
  ·subst e';obtain⟨its,r,pl,hz⟩:=I.tuple hx;have hlen:=r.length;exact truthy_tuple pl (by simp only[Dy];omega) ⟨H,I.tok _,by rw[Ke r];exact q⟩
  ·subst e';obtain⟨hz,hS,vs,r,m⟩:kvs.length<=sizeLine/\(p == sysModules)=false/\∃vs,KV kvs vs/\s.heap.DictOf (Y2 X.prog X.w) p vs:=I.hok p _ hx;have hlen:kvs.length=vs.length:=Paired.length r;exact wpAny_truthy_dict hS m (by omega) ⟨H,I.tok _,by rw[lg r];exact q⟩
 | _=>exact(show False from e).elim
theorem E8(ha:PE X a ta)(he:∀whole,isTrue a X.env whole=(do let v <-whole;standAt a.pos;holding [v] (truthy v))) :
  PT X a (fun σ H Q=>ta σ H fun x H'=>∃k,TruV X.K x H' k/\Q k H'):=by
 intro pins s σ H Q I h;exact isTrue_plain (V0 (ha pins s σ H _ I h) fun v s1 ⟨x,H1,I1,r1,q1⟩=>tru_ok pins s1 σ H1 x v Q I1 r1 q1) (he _)
theorem Tu{x:V}{us:List Value}(r:Yb [x] us):∃u,us=[u]/\Z9 x u:=by
 cases r with
 | cons r1 r2=>cases r2;exact⟨_,rfl,r1⟩
theorem ue{x y:V}{us:List Value}(r:Yb [x,y] us):∃u w',us=[u,w']/\Z9 x u/\Z9 y w':=by
 cases r with
 | cons r1 r2 =>
  cases r2 with
  | cons r3 r4=>cases r4;exact⟨_,_,rfl,r1,r3⟩
inductive y6(xs:List V)(H:Hp)(Q:VK):Prop
 | mk(i j)(Vg:xs=[.int i,.int j])(Vk:Q (.int (if j<i then j else i)) H)
theorem Xy(hc:X.calm=true):D9 X (.builtin "min") (fun xs H Q=>y6 xs H Q):=by
 intro pins s σ H xs us Q I r h;obtain⟨i,j,rfl,q⟩:=h;obtain⟨u,w',rfl,⟨t,rfl⟩,⟨t',rfl⟩⟩:=ue r;refine min_two_ints (I.ok.hd hc) fun h' tk k=>⟨_,H,I.kept k, ?_,q⟩;by_cases hj:j<i
 ·rw[if_pos hj,if_pos hj];exact⟨_,rfl⟩
 ·rw[if_neg hj,if_neg hj];exact⟨_,rfl⟩
theorem P8:D9 X (.type "int") (fun xs H Q=>(∃i,xs=[.int i]/\Q (.int i) H)\/∃k,xs=[.bl k]/\Q (.int (if k then 1 else 0)) H):=by
 intro pins s σ H xs us Q I r h;rcases h with ⟨i,rfl,q⟩ | ⟨k,rfl,q⟩
 ·obtain⟨u,rfl,t,rfl⟩:=Tu r;exact call_int_int ⟨.int i,H,I,⟨_,rfl⟩,q⟩
 ·obtain⟨u,rfl,r1⟩:=Tu r;cases r1;exact call_int_bool ⟨.int (if k then 1 else 0),H,I.tok _,⟨_,rfl⟩,q⟩
inductive rp(xs:List V)(H:Hp)(Q:VK):Prop
 | mk(x)(Vg:xs=[.str x])(Vk:x.length=1)(V1:Q (.int (x.cps.getD 0 0:Nat)) H)
theorem Zk1:D9 X (.builtin "ord") (fun xs H Q=>rp xs H Q):=by
 intro pins s σ H xs us Q I r h;obtain⟨x,rfl,hz,q⟩:=h;obtain⟨u,rfl,t,rfl⟩:=Tu r;exact ord_of_one hz ⟨.int _,H,I.tok _,⟨_,rfl⟩,q⟩
end
structure ObjM(h:Heap)(x dx C:Addr)(mA:Bw):Prop where
 obj:h.get? x=some (W.instObj C dx)
 ns:h.Ns1 dx mA
 ne:dx≠x
theorem Zqc{h:Heap}{dx:Addr}{mA:Bw}(n:h.Ns1 dx mA):∃od,h.get? dx=some od/\∀name,W.lookIn name od=some (mA name):=by
 obtain⟨o,es,ep,ho,hd,hk,_,hm⟩:=n;refine⟨o,ho,fun name=>?_⟩;have e:=hm name;unfold nsFind findBy at e;rw[<-Array.find?_toList]at e;unfold W.lookIn;rw[hd];dsimp only
 split
 ·rename_i y q
  rw[q]at e;exact congrArg some e
 ·rename_i q
  rw[q]at e
  have a:es.toList.any (·.refKey)=false:=by
   rw[List.any_eq_false];intro y hy;obtain⟨z,t,Zy6⟩:=hk y (Array.mem_toList_iff.mp hy);simp[DictEntry.refKey,Zy6]
  have a':¬ es.toList.any (·.refKey)=true:=by rw[a];exact T7
  rw[if_neg a'];exact congrArg some e
theorem ObjM.look{h:Heap}{x dx C:Addr}{mA:Bw}(I:ObjM h x dx C mA):∃od,W.InstAt h x (W.instObj C dx) C (some od)/\∀name,W.lookIn name od=some (mA name) :=
 let ⟨od,ho,hl⟩:=Zqc I.ns
 ⟨od,⟨I.obj,rfl,rfl,ho⟩,hl⟩
section
variable{prog:Program}{w:World}{A:Around}{E:Vt}{s:Shared}{K:W.Frag}{x dx C f:Addr}{mA:Bw}{name:Str}{v:Value}
end
theorem Qi.some_of{v:V}{o:Option Value}(r:Qi (some v) o):∃u,o=some u/\Z9 v u:=by
 cases o with
 | none=>exact(show False from r).elim
 | some u=>exact⟨u,rfl,r⟩
section
variable{P:Program}{w:World}{H H':Hp}{h h':Heap}{a C dx:Addr}{fs fs':List (Str×V)}
theorem Zb1(hok:R6 P w H h)(e:H a=some (.ins C dx fs)):∃mA,ObjM h a dx C mA/\(∀f,Qi (fs.lookup f) (mA f))/\PySem.Within mA (fs.map (·.1))/\fs.length<=1000/\H dx=some (.own a):=by
 obtain⟨d,z,ne,ob,mA,n,r,q⟩:=(show Vq P w H h a (.ins C dx fs) from hok a _ e);exact⟨mA,⟨ob,n,ne⟩,r,q,z,d⟩
end
structure Cls(K:W.Frag)(C:Addr):Prop where
 pg:W.plainGet K C Str.empty=true
 hd:W.hasDictIn K C=true
 po:W.plainOver K C=true
 sa:W.findIn K (.ref C) "__setattr__" = some (some (.builtin "object.__setattr__"))
theorem Cls.get{K:W.Frag}{C:Addr}(c:Cls K C)(f:Str):W.plainGet K C f=true:=c.pg
def NoAttr(K:W.Frag)(C:Addr)(f:Str):Prop:=W.findIn K (.ref C) f=some none
structure Con(K:W.Frag)(C:Addr)(f:Str)(v:V)(u:Value):Prop where
 at_:W.findIn K (.ref C) f=some (some u)
 rel:Z9 v u
 get:W.specialIn K u "__get__" = some none
 cp:W.copiedNames.contains f=false
structure Meth(K:W.Frag)(C:Addr)(m:Str)(f:Addr):Prop where
 at_:W.findIn K (.ref C) m=some (some (.ref f))
 fn:W.isFn K (.ref f)=true
 kp:W.keepIn K (.ref f)=true
section
variable{X:Cx}{pins:Uv}{σ:St}{H:Hp}{s:Shared}{a C dx:Addr}{fs:List (Str×V)}{f:Str}{v:V}{A:Around}{E:Vt}
end
section
variable{X:Cx}{o e value:Expr}{f:Str}{pos pos' tpos:Pos}{ta tv:TE}
end
section
variable{X:Cx}{pins:Uv}{σ:St}{H:Hp}{s:Shared}{A:Around}{E:Vt}{Q:Vt}{c:Value}{b:Bool}
inductive Se(K:W.Frag)(H:Hp):V->Value->Prop where
 | non:Se K H .non (.type "NoneType")
 | bl (x:Bool):Se K H (.bl x) (.type "bool")
 | int (i:Int):Se K H (.int i) (.type "int")
 | str (x:Str):Se K H (.str x) (.type "str")
 | flt (x:UInt64):Se K H (.flt x) (.type "float")
 | lst {a:Addr} {xs:List V} (e:H a=some (.lst xs)):Se K H (.ref a) (.type "list")
 | frz {a:Addr} {o:Obj} {xs:List V} (e:H a=some (.frz o (.lst xs))):Se K H (.ref a) (.type "list")
 | tup {a:Addr} {xs:List V} (e:H a=some (.tup xs)):Se K H (.ref a) (.type "tuple")
 | dK {a:Addr} {kvs:List (Um×V)} (e:H a=some (.dK kvs)):Se K H (.ref a) (.type "dict")
 | dT {a:Addr} {kvs:List (List Um×V)} (e:H a=some (.dT kvs)):Se K H (.ref a) (.type "dict")
 | ins {a C dx:Addr} {fs:List (Str×V)} (e:H a=some (.ins C dx fs)) (cl:Cls K C) (ha:W.findIn K (.ref C) "__class__" = some (some (.builtin "object.__class__")))
   (hn:W.specialIn K (.builtin "object.__class__") "__get__" = some (some (.builtin "getset_descriptor.__get__"))) (htk:W.takesIn K (.builtin "object.__class__")=some true)
   (hm:W.mroIn K C (.type "object")=some true):Se K H (.ref a) (.ref C)
theorem Mo{x:V}{u t:Value}(I:Zi X pins σ H s)(rx:Z9 x u)(ty:Se X.K H x t)(e:W.kitOne X.K t c=some b)(h:∀tk,Q (.bool b) { s with toks:=tk }) :
  wpAny (model X.prog X.w) A (call (.builtin "isinstance") [u,c]) Q E s:=by
 cases ty with
 | non=>cases Zr rx;exact W.kia_one W.kitx_none I.kIn True.intro e (fun z=>nomatch z) h
 | bl y=>cases Zr rx;exact W.kia_one W.kitx_bool I.kIn True.intro e (fun z=>nomatch z) h
 | int i=>obtain⟨t,q⟩:=(show ∃t,u=Value.int i t from rx);cases q;exact W.kia_one W.kitx_int I.kIn True.intro e (fun z=>nomatch z) h
 | str y=>obtain⟨t,q⟩:=(show ∃t,u=Value.str y t from rx);cases q;exact W.kia_one W.kitx_str I.kIn True.intro e (fun z=>nomatch z) h
 | flt y=>obtain⟨t,q⟩:=(show ∃t,u=Value.float y t from rx);cases q;exact W.kia_one W.kitx_float I.kIn True.intro e (fun z=>nomatch z) h
 | @lst a xs ea =>
  cases Zr rx;obtain⟨_,_,n,_,h1⟩:=(show Vq X.prog X.w H s.heap a (.lst xs) from I.hok a _ ea);exact W.kia_one W.kitx_list I.kIn ⟨_,h1,rfl⟩ e (fun z=>nomatch z) h
 | @frz a ob xs ea =>
  cases Zr rx;obtain⟨_,_,_,n,_,h1⟩:=(show Vq X.prog X.w H s.heap a (.frz ob (.lst xs)) from I.hok a _ ea);exact W.kia_one W.kitx_list I.kIn ⟨_,h1,rfl⟩ e (fun z=>nomatch z) h
 | @tup a xs ea =>
  cases Zr rx;obtain⟨_,_,_,p⟩:=(show Vq X.prog X.w H s.heap a (.tup xs) from I.hok a _ ea);obtain⟨o,h1,h2,_⟩:=p;exact W.kia_one W.kitx_tuple I.kIn ⟨o,h1,h2⟩ e (fun z=>nomatch z) h
 | @dK a kvs ea =>
  cases Zr rx;obtain⟨_,_,vs,_,p⟩:=(show Vq X.prog X.w H s.heap a (.dK kvs) from I.hok a _ ea);obtain⟨o,es,ep,h1,h2,_⟩:=p;exact W.kia_one W.kitx_dict I.kIn ⟨o,h1,h2.1⟩ e (fun z=>nomatch z) h
 | @dT a kvs ea =>
  cases Zr rx;obtain⟨_,_,xs,_,o,es,ep,h1,h2,_⟩:=(show Vq X.prog X.w H s.heap a (.dT kvs) from I.hok a _ ea);exact W.kia_one W.kitx_dict I.kIn ⟨o,h1,h2.1⟩ e (fun z=>nomatch z) h
 | @ins a C dx fs ea cl ha hn htk hm =>
  cases Zr rx;obtain⟨mA,O,_⟩:=Zb1 I.hok ea;obtain⟨od,J,_⟩:=O.look;exact W.kia_one (W.kitx_own (cl.get _) cl.hd ha hn htk hm) I.kIn J e (fun z=>nomatch z) h
end
structure Ur(k:Nat)(A:Around):Prop where
 hd:A.handled=none
 dp:A.depth+3 * k+5<recursionLimit
 un:A.units+16 * k+200<cLine
 gd:A.guards=some []
theorem Ur.mono{j k:Nat}{A:Around}(r:Ur k A)(h:j<=k):Ur j A:=⟨r.hd,by have:=r.dp;omega,by have:=r.un;omega,r.gd⟩
theorem Ur.deeper{k:Nat}{A:Around}(r:Ur (k+1) A)(env:Env):Ur k (A.deeper env) :=
 ⟨r.hd,by have:=r.dp;show A.depth+1+3 * k+5<_;omega,by have:=r.un;show A.units+3+16 * k+200<_;omega,r.gd⟩
theorem Ur.in1{k:Nat}{A:Around}(r:Ur (k+1) A):Ur k A.in1 :=
 ⟨r.hd,by have:=r.dp;show A.depth+3 * k+5<_;omega,by have:=r.un;show A.units+1+16 * k+200<_;omega,r.gd⟩
theorem Ur.depth{k:Nat}{A:Around}(r:Ur k A):A.depth<recursionLimit:=by have:=r.dp;omega
theorem Ur.units{k:Nat}{A:Around}(r:Ur k A):A.units+64<cLine:=by have:=r.un;omega
theorem Ur.units0{k:Nat}{A:Around}(r:Ur k A):A.units<cLine:=by have:=r.un;omega
def tNil:TA:=fun _ H Q=>Q [] H
def Zwd(ta:TE)(tr:TA):TA:=fun σ H Q=>ta σ H fun x H1=>tr σ H1 fun xs H2=>Q (x::xs) H2
section
variable{X:Cx}{e:Expr}{es:List Expr}{te:TE}{t:TA}{pos:Pos}
theorem Zx:PA X [] tNil:=fun _ _ _ _ H Q I h=>Calls.spliced_nil ⟨[],H,I,.nil,h⟩
theorem Zj(ha:PE X e te)(hr:PA X es t)(hs:starEach (e::es) X.env=(false,eval e X.env)::starEach es X.env:=by rfl):PA X (e::es) (Zwd te t):=by
 intro pos pins s σ H Q I h;rw[hs];show wpAny _ _ (spliced ((false,eval e X.env)::backTo pos (starEach es X.env))) _ _ s;refine Calls.spliced_cons (V0 (ha pins s σ H _ I h) fun u s1 ⟨x,H1,I1,r1,q1⟩=>?_);exact V0 (hr pos pins s1 σ H1 _ I1 q1) fun us s2 ⟨xs,H2,I2,r2,q2⟩=>⟨x::xs,H2,I2,.cons r1 r2,q2⟩
inductive tTup_I(Q:VK)(xs:List V)(H1:Hp):Prop
 | mk  (Vg:xs.length<=sizeLine)(Vk:∀p,H1 p=none->Q (.ref p) (Yq H1 p (.tup xs)))
def tTup(t:TA):TE:=fun σ H Q=>t σ H fun xs H1=>tTup_I Q xs H1
inductive tLst_I(Q:VK)(xs:List V)(H1:Hp):Prop
 | mk  (Vg:xs.length<=sizeLine)(Vk:∀p,H1 p=none->Q (.ref p) (Yq H1 p (.lst xs)))
def tLst(t:TA):TE:=fun σ H Q=>t σ H fun xs H1=>tLst_I Q xs H1
theorem Ya{x1}(h:PA X es t):PE X (.Tuple es x1 pos) (tTup t):=by
 intro pins s σ H Q I hq;refine wpAny_Tuple_spliced (V0 (h pos pins s σ H _ I hq) fun us s1 ⟨xs,H1,I1,r,z,q⟩=>⟨by rw[<-r.length];exact z, ?_⟩);have hf:H1 s1.heap.objs.size=none:=I1.hok.fresh (Vj _);refine⟨.ref s1.heap.objs.size,Yq H1 s1.heap.objs.size (.tup xs),I1.laid (t':=s1.toks) (fun b u e=>G4 _ e) (Vj _) ?_,rfl,q _ hf⟩;exact⟨z,us,r,⟨_,Rj _ rfl,rfl,⟨_,rfl⟩,rfl⟩⟩
theorem Yt(h:PA X es t):PE X (.List es pos) (tLst t):=by
 intro pins s σ H Q I hq;refine wpAny_List_spliced (V0 (h pos pins s σ H _ I hq) fun us s1 ⟨xs,H1,I1,r,z,q⟩=>⟨by rw[<-r.length];exact z, ?_⟩);have hf:H1 s1.heap.objs.size=none:=I1.hok.fresh (Vj _);refine⟨.ref s1.heap.objs.size,Yq H1 s1.heap.objs.size (.lst xs),I1.laid (t':=s1.toks) (fun b u e=>G4 _ e) (Vj _) ?_,rfl,q _ hf⟩;exact⟨z,us,0,r,Rj _ rfl⟩
end
abbrev Sp:=List V->Hp->VK->XK->Prop
abbrev fh:=List Env->Hp->Shared->XK->Value->Shared->Prop
structure uh(P:Program)(w:World)(K:W.Frag)(mg:Bw)(base:Heap)(A:Around)(outer:List Env)(s:Shared)(H:Hp):Prop where
 frames:A.frames=some outer
 mod:Mod K mg base
 bs:∀b o,base.get? b=some o->s.heap.get? b=some o/\H b=none
 bsz:base.objs.size<=s.heap.objs.size
 funs:s.heap.FunFrames base outer
 frf:∀b∈frs outer,H b=none
 hok:R6 P w H s.heap
 bare:AllBare s.gens
def CE(outer:List Env)(P:Program)(w:World)(H:Hp)(s:Shared)(Q:VK)(u:Value)(s':Shared):Prop :=
 ∃v H',s'.os=s.os/\AllBare s'.gens/\Un (frs outer) [] H H' s.heap s'.heap/\R6 P w H' s'.heap/\Z9 v u/\Q v H'
def CR(CX:fh)(outer:List Env)(P:Program)(w:World)(H:Hp)(s:Shared)(Q:VK)(E:XK)(r:Result)(s':Shared):Prop :=
 match r with
 | .ok (.ret u)=>CE outer P w H s Q u s'
 | .ok _=>False
 | .error e=>CX outer H s E e s'
structure Yn(P:Program)(w:World)(K:W.Frag)(mg:Bw)(base:Heap)(CX:fh)(k:Nat)(f:Addr)(fd:FuncData)(ps:List Str)(sp:Sp):Prop where
 len:∀vs H Q E,sp vs H Q E->vs.length=ps.length
 run:∀(A:Around) (outer:List Env) (s:Shared) (H:Hp) (args:Args) (us:List Value) (vs:List V) (Q:VK) (E:XK),Ur k A->uh P w K mg base A outer s H->BindsTo s fd args (ps.zip us)->Yb vs us->sp vs H Q E ->
  codeAny (model P w) A (.call (.ref f) args) (CR CX outer P w H s Q E) s
theorem Yn.mono{P:Program}{w:World}{K:W.Frag}{mg:Bw}{base:Heap}{CX:fh}{j k:Nat}{f:Addr}{fd:FuncData}{ps:List Str}{sp:Sp}(F:Yn P w K mg base CX j f fd ps sp)(h:j<=k) :
  Yn P w K mg base CX k f fd ps sp:=⟨F.len,fun A outer s H args us vs Q E hr=>F.run A outer s H args us vs Q E (hr.mono h)⟩
theorem Yn.imp{P:Program}{w:World}{K:W.Frag}{mg:Bw}{base:Heap}{CX:fh}{k:Nat}{f:Addr}{fd:FuncData}{ps:List Str}{sp sp':Sp}(F:Yn P w K mg base CX k f fd ps sp)
  (h:∀vs H Q E,sp' vs H Q E->sp vs H Q E):Yn P w K mg base CX k f fd ps sp' :=
 ⟨fun vs H Q E q=>F.len vs H Q E (h _ _ _ _ q),fun A outer s H args us vs Q E hr he hb hv hs=>F.run A outer s H args us vs Q E hr he hb hv (h _ _ _ _ hs)⟩
theorem uh.in1{P:Program}{w:World}{K:W.Frag}{mg:Bw}{base:Heap}{A:Around}{outer:List Env}{s:Shared}{H:Hp}(e:uh P w K mg base A outer s H) :
  uh P w K mg base A.in1 outer s H:=⟨e.frames,e.mod,e.bs,e.bsz,e.funs,e.frf,e.hok,e.bare⟩
section
variable{X:Cx}{pins:Uv}{σ:St}{H:Hp}{s s':Shared}
theorem Zi.env0(I:Zi X pins σ H s):uh X.prog X.w X.K X.mg X.base X.A X.stack s H :=
 ⟨I.ok.frames,I.ok.mod,I.bs,Gw I.ok.bsz I.sz,I.stack,I.stkFree,I.hok,I.bare⟩
theorem Zi.after{Q:VK}{u:Value}(I:Zi X pins σ H s)(h:CE X.stack X.prog X.w H s Q u s'):EP X pins σ Q u s':=by
 obtain⟨v,H',os,bare,un,hok,r,q⟩:=h;obtain⟨hh,g,d,t,os'⟩:=s';obtain rfl:os'=s.os:=os;exact⟨v,H',I.call (h':=hh) (g':=g) (d':=d) (t':=t) (ch:=[]) un hok bare (fun b z=>absurd z (by simp)),r,q⟩
end
def Zwl(sp:Sp)(dvs:List V)(E:XK)(t:TA):TE:=fun σ H Q=>t σ H fun vs H1=>sp (vs++dvs) H1 Q E
def G5(K:W.Frag)(fd:FuncData)(ps:List Str)(ds:List Value):Prop :=
 ∀(s:Shared) (us:List Value),K.In s.heap->(us++ds).length=ps.length->BindsTo s fd ⟨us,[]⟩ (ps.zip (us++ds))
theorem G5.all{K:W.Frag}{fd:FuncData}{ps:List Str}(h:∀us:List Value,us.length=ps.length->bindArgs fd ⟨us,[]⟩=pure (ps.zip us)):G5 K fd ps []:=fun s us _ hl=>by
 rw[List.append_nil]at hl ⊢;exact .of_eq (h us hl)
def pf(CX:fh)(X:Cx)(E:XK):Prop:=∀(pins:Uv) (σ:St) (H:Hp) (s:Shared) (e:Value) (s':Shared),Zi X pins σ H s->CX X.stack H s E e s'->X.xe e s'
section
variable{X:Cx}{CX:fh}{k:Nat}{f C:Addr}{fd:FuncData}{ps:List Str}{sp:Sp}{dvs:List V}{ds:List Value}{E:XK}{x m:Str}{p pos apos:Pos}{e o:Expr}{es:List Expr}{ta:TE}{t:TA}
theorem Zvm{pins:Uv}{σ:St}{H:Hp}{s:Shared}{Q:VK}{us:List Value}{vs:List V}(F:Yn X.prog X.w X.K X.mg X.base CX k f fd ps sp)(hr:Ur k X.A)(hb:G5 X.K fd ps ds)(hd:Yb dvs ds)(hx:pf CX X E)
  (I:Zi X pins σ H s) (r:Yb vs us) (h:sp (vs++dvs) H Q E):wpAny (model X.prog X.w) X.A (call (.ref f) us) (EP X pins σ Q) X.xe s:=by
 have r2:Yb (vs++dvs) (us++ds):=r.append hd;have hl:(us++ds).length=ps.length:=by rw[<-r2.length];exact F.len _ _ _ _ h
 refine wpAny_call (codeAny_mono (F.run X.A X.stack s H ⟨us,[]⟩ (us++ds) (vs++dvs) Q E hr I.env0 (hb s us I.kIn hl) r2 h) fun r s' hq=>?_);cases r with
 | error e=>exact hx pins σ H s e s' I hq
 | ok fl =>
  cases fl with
  | ret u=>exact I.after hq
  | next=>exact False.elim hq
  | brk=>exact False.elim hq
  | cont=>exact False.elim hq
theorem Zf6(F:Yn X.prog X.w X.K X.mg X.base CX k f fd ps sp)(hr:Ur k X.A)(hg:Gl X x)(hm:X.mg x=some (.ref f))(hk:W.keepIn X.K (.ref f)=true)(hb:G5 X.K fd ps ds)(hd:Yb dvs ds)(hx:pf CX X E)
  (ha:PA X (e::es) t) (hdb:(x == ("__debug__" : Str))=false:=by decide) (he:starEach (e::es) X.env=(false,eval e X.env)::starEach es X.env:=by rfl) (P0:(backTo pos (starEach es X.env)).any (·.1)=false:=by rfl) :
  PE X (.Call (.Name x p) (e::es) [] pos) (Zwl sp dvs E t):=by
 intro pins s σ H Q I h;refine wpAny_Call_Name_kw (Zzy I hg hm ?_ hdb);refine W.callWith_K (h₀:=X.base) I.ok.mod.kin hk (V0 (ha pos pins s σ H _ I h) fun us s1 ⟨vs,H1,I1,r,q⟩=>⟨I1.kIn, ?_⟩) he P0;exact Zvm F hr hb hd hx I1 r q
structure Mk(K:W.Frag)(C f:Addr):Prop where
 makes:W.makesIn K C=true
 init:W.findIn K (.ref C) "__init__" = some (some (.ref f))
 fn:W.isFn K (.ref f)=true
 kp:W.keepIn K (.ref C)=true
end
section
variable{X:Cx}{CX:fh}{k:Nat}{f C:Addr}{fd:FuncData}{ps ks:List Str}{sp:Sp}{E:XK}{x m:Str}{p pos apos kpos:Pos}{e o:Expr}{es:List Expr}{kws:List Keyword}{te ta:TE}{t tk:TA}{nm:Option Str}
structure KBinds(K:W.Frag)(fd:FuncData)(ps ks:List Str)(g:List Value->List Value->List Value)(gV:List V->List V->List V):Prop where
 to:∀(s:Shared) (us ws:List Value),K.In s.heap->(g us ws).length=ps.length->BindsTo s fd ⟨us,ks.zip ws⟩ (ps.zip (g us ws))
 rel:∀{vs:List V} {us:List Value} {zs:List V} {ws:List Value},Yb vs us->Yb zs ws->Yb (gV vs zs) (g us ws)
variable{g:List Value->List Value->List Value}{gV:List V->List V->List V}
end
structure Zp(N P:List Str)(sc:Scope):Prop where
 kind:sc.kind=.function
 co:sc.isCoroutine=false
 gen:sc.isGenerator=false
 nd:N.Nodup
 pre:N.take P.length=P
 par:∀x∈P,sc.names.lookup x=some .local\/sc.names.lookup x=some .cell
 nofree:∀y∈sc.names,y.2≠.free
theorem Xk{kindOf:Str->Option NameKind}{x:Str}:∀{binds:List (Str×Value)} {m:Bw},(∀v,(x,v) ∉ binds)->bindL kindOf binds m x=m x
 | [],_,_=>rfl
 | (n,v)::r,m,h=>by
  unfold bindL;rw[Xk fun w hw=>h w (Rq _ hw)]
  split
  ·have:x≠n:=by rintro rfl;exact h v Te
   simp[this]
  ·rfl
theorem Xf{kindOf:Str->Option NameKind}{x:Str}:∀{binds:List (Str×Value)} {m:Bw},(∀v,(x,v) ∉ binds)->bindC kindOf binds m x=m x
 | [],_,_=>rfl
 | (n,v)::r,m,h=>by
  unfold bindC;rw[Xf fun w hw=>h w (Rq _ hw)]
  split
  ·rfl
  ·have:x≠n:=by rintro rfl;exact h v Te
   simp[this]
theorem Xg{kindOf:Str->Option NameKind}{x:Str}{v:Value}:∀{P:List Str} {vs:List Value} {i:Nat} {m:Bw},P.Nodup->P[i]?=some x->vs[i]?=some v->kindOf x=some .local ->
  bindL kindOf (P.zip vs) m x=some v
 | [],_,_,_,_,h,_,_=>by simp at h
 | _::_,[],_,_,_,_,h,_=>by simp at h
 | p::P,w::vs,0,m,nd,h1,h2,hk=>by
  simp at h1 h2;subst h1;subst h2;show bindL kindOf ((p,w)::P.zip vs) m p=_;unfold bindL;rw[Xk fun v hv=>(List.nodup_cons.mp nd).1 (List.of_mem_zip hv).1,if_pos hk];simp
 | p::P,w::vs,i+1,m,nd,h1,h2,hk=>by
  show bindL kindOf ((p,w)::P.zip vs) m x=_;unfold bindL;exact Xg (i:=i) (List.nodup_cons.mp nd).2 (by simpa using h1) (by simpa using h2) hk
theorem Xb{kindOf:Str->Option NameKind}{x:Str}{v:Value}:∀{P:List Str} {vs:List Value} {i:Nat} {m:Bw},P.Nodup->P[i]?=some x->vs[i]?=some v->kindOf x≠some .local ->
  bindC kindOf (P.zip vs) m x=some v
 | [],_,_,_,_,h,_,_=>by simp at h
 | _::_,[],_,_,_,_,h,_=>by simp at h
 | p::P,w::vs,0,m,nd,h1,h2,hk=>by
  simp at h1 h2;subst h1;subst h2;show bindC kindOf ((p,w)::P.zip vs) m p=_;unfold bindC;rw[Xf fun v hv=>(List.nodup_cons.mp nd).1 (List.of_mem_zip hv).1,if_neg hk];simp
 | p::P,w::vs,i+1,m,nd,h1,h2,hk=>by
  show bindC kindOf ((p,w)::P.zip vs) m x=_;unfold bindC;exact Xb (i:=i) (List.nodup_cons.mp nd).2 (by simpa using h1) (by simpa using h2) hk
def start(N:List Str)(vs:List V):St:=vs.map some++List.replicate (N.length - vs.length) none
def Zq6(CX:fh)(P:Program)(w:World)(K:W.Frag)(mg:Bw)(base:Heap)(N:List Str)(qual:Str)(scope:Scope)(f:Addr)(cd:Value)(A:Around)(outer:List Env)(s:Shared)(H:Hp)(E:XK):Cx where
 prog:=P
 w:=w
 K:=K
 mg:=mg
 base:=base
 A:=A.deeper (envOfC qual scope s.heap.objs.size f cd)
 N:=N
 s₀:=s
 H₀:=H
 env:=envOfC qual scope s.heap.objs.size f cd
 outer:=outer
 stack:=envOfC qual scope s.heap.objs.size f cd::outer
 ex:=[]
 calm:=true
 fn:=fun _=>true
 pn:=[]
 xe:=fun e s'=>wpAny (model P w) (A.deeper (envOfC qual scope s.heap.objs.size f cd)) (leaving (envOfC qual scope s.heap.objs.size f cd) e) (fun _ s''=>CX outer H s E e s'') (fun e' s''=>CX outer H s E e' s'') s'
theorem y3{sc:Scope}{n:Nat}{x:Str}(h:sc.names.lookup x=some .cell):∃c,(cellsFrom n sc.names []).lookup x=some c:=by
 have q:=W.cellsFrom_some sc.names n [] (.inl h);exact Option.isSome_iff_exists.mp q
theorem Zqn{CX:fh}{P:Program}{w:World}{K:W.Frag}{mg:Bw}{base:Heap}{N ps:List Str}{qual:Str}{scope:Scope}{f:Addr}{cd:Value}{A:Around}{outer:List Env}{s s1:Shared}{H:Hp}{E:XK}{us:List Value}{vs:List V}
  (S:Zp N ps scope) (hd:A.handled=none) (e0:uh P w K mg base A outer s H) (hl:vs.length=ps.length) (r:Yb vs us)
  (x:InCallC s s.heap.objs.size (bindL (envOfC qual scope s.heap.objs.size f cd).kindOf (ps.zip us) fun _=>none) (cellsFrom (s.heap.objs.size+1) scope.names []) (bindC (envOfC qual scope s.heap.objs.size f cd).kindOf (ps.zip us) fun _=>none) s1) :
  Zi (Zq6 CX P w K mg base N qual scope f cd A outer s H E) [] (start N vs) H s1:=by
 have P0:ps.length<=N.length:=by have:=congrArg List.length S.pre;rw[T1]at this;omega
 obtain⟨h1,tk,rfl,hk⟩:=x.done;have noA:∀b:Addr,b ∉ (Zq6 CX P w K mg base N qual scope f cd A outer s H E).ex:=fun b z=>absurd (show b∈([]:List Addr) from z) (by simp)
 refine⟨⟨e0.mod,S.kind,rfl,rfl,Vj _,fun y z c h1 h2=>?_,fun y hy=>?_,fun y c _ h=>?_,fun _=>hd,Around.frames_deeper e0.frames,.inr ⟨rfl,rfl⟩,fun b z=>absurd z (noA b),e0.bs,e0.bsz,fun b _ _=>noA b,fun b z=>absurd z (noA b),e0.funs,e0.frf⟩,
  rfl,e0.bare,Un.kept hk,⟨_,x.toInCall.ns,fun i y v h1 h2 h3=>?_⟩,fun y c h=>⟨_,x.cell y c h⟩,e0.hok.fresh (Vj _),fun y c h=>?_,fun p hp=>absurd (show p∈([]:Uv) from hp) (by simp),e0.hok.kept hk, ?_⟩
 ·exact name_of_addr x.apart (PySem.mem_of_lookup h1) (PySem.mem_of_lookup h2)
 ·have hy:scope.names.lookup y=some .cell\/scope.names.lookup y=some .free:=hy;rcases hy with hy | hy
  ·exact y3 hy
  ·exact absurd rfl (S.nofree _ (PySem.mem_of_lookup hy))
 ·exact Nat.le_of_lt (x.above y c (PySem.mem_of_lookup h))
 ·have hi:i<vs.length:=by
   unfold start at h2;by_cases hi:i<vs.length
   ·exact hi
   ·rw[List.getElem?_append_right (by simpa using hi)]at h2;rw[List.getElem?_replicate]at h2
    split at h2<;>cases h2
  have ha:vs[i]?=some v:=by
   unfold start at h2;rw[List.getElem?_append_left (by simpa using hi),Ma]at h2;cases e:vs[i]? with
   | none=>rw[e]at h2;cases h2
   | some a=>rw[e]at h2;cases h2;rfl
  obtain⟨u,hu,rv⟩:=r.get ha
  have hp:ps[i]?=some y:=by
   rw[<-S.pre,List.getElem?_take_of_lt (by omega)];exact h1
  have ndP:ps.Nodup:=by rw[<-S.pre];exact S.nd.sublist (List.take_sublist _ _)
  refine⟨u,rv, ?_⟩;rcases S.par y (Ow hp) with k | k
  ·exact .inl ⟨k,Xg ndP hp hu k⟩
  ·obtain⟨c,e⟩:=y3 (n:=s.heap.objs.size+1) k;refine .inr ⟨.inl k,c,e, ?_⟩;have q:=x.cell y c e;rw[Xb ndP hp hu (by show scope.names.lookup y≠_;rw[k];decide)]at q;exact q
 ·exact e0.hok.fresh (Nat.le_of_lt (x.above y c (PySem.mem_of_lookup h)))
 ·unfold start;show _=N.length;rw[Xs,Yp,List.length_replicate];omega
theorem fn_of{CX:fh}{P:Program}{w:World}{K:W.Frag}{mg:Bw}{base:Heap}{k:Nat}{f:Addr}{name qual:Str}{params:Arguments}{body:List Stmt}{scope:Scope}{dV kV doc pm cdv ct oc:Value}{an od:Option Addr}
  {osl:Array (Option Value)} {N ps:List Str} {sp:Sp} (lk:K.lookup f=some ⟨oc,od,.func (W.fnOf name qual params body scope dV kV doc pm an cdv ct),osl⟩) (hcd:W.codeIn K cdv qual=true) (S:Zp N ps scope)
  (len:∀vs H Q E,sp vs H Q E->vs.length=ps.length)
  (Zkz:∀(A:Around) (outer:List Env) (s:Shared) (H:Hp) (vs:List V) (Q:VK) (E:XK),Ur k (A.deeper (envOfC qual scope s.heap.objs.size f cdv))->sp vs H Q E ->
   ∃t,jy (Zq6 CX P w K mg base N qual scope f cdv A outer s H E) body t/\t { nx:=fun _ H'=>Q .non H',rt:=Q } (start N vs) H) :
  Yn P w K mg base CX (k+1) f (W.fnOf name qual params body scope dV kV doc pm an cdv ct) ps sp:=by
 refine⟨len,fun A outer s H args us vs Q E hr e0 hb r hsp=>?_⟩;have hl:=len _ _ _ _ hsp;have KX:K.In s.heap:=e0.mod.kin.keeps fun b o e=>(e0.bs b o e).1;have lim:s.heap.NoLimit:=e0.mod.nolimit.keeps fun b o e=>(e0.bs b o e).1
 have hkind:∀y∈ps.zip us,scope.names.lookup y.1=some .local\/(scope.names.lookup y.1=some .cell/\((cellsFrom (s.heap.objs.size+1) scope.names []).lookup y.1).isSome=true):=fun⟨n,v⟩ hy=>by
  rcases S.par n (List.of_mem_zip hy).1 with q | q
  ·exact .inl q
  ·exact .inr ⟨q,W.cellsFrom_some _ _ _ (.inl q)⟩
 refine codeAny_call_function hr.depth (KX _ _ lk) rfl S.co S.gen rfl (W.codeRec_of KX hcd) (hb _ _ _ _ ?_);refine wpAny_newFunctionEnv_cells S.kind hkind fun env he s1 x=>?_;subst he;refine⟨lim.keeps x.toInCall.keep,codeAny_func ?_⟩;obtain⟨t,ht,hq⟩:=Zkz A outer s H vs Q E (hr.deeper _) hsp;have I:Zi (Zq6 CX P w K mg base N qual scope f cdv A outer s H E) [] (start N vs) H s1:=Zqn S hr.hd e0 hl r x;refine wpAny_mono (ht [] s1 (start N vs) H _ I hq) (fun fl s' hs=>?_) fun e s' hs=>hs
 have fin:∀{σ':St} {H':Hp} {v:V} {u:Value},Zi (Zq6 CX P w K mg base N qual scope f cdv A outer s H E) [] σ' H' s'->Z9 v u->Q v H'->CE outer P w H s Q u s' :=
  fun {σ' H' v u} J rv q=>⟨v,H',J.os,J.bare,J.base,J.hok,rv,q⟩
 cases fl with
 | ret u =>
  obtain⟨v,σ',H',J,rv,q⟩:=hs;exact fin J rv q
 | next =>
  obtain⟨σ',H',J,q⟩:=hs;exact fin (v:=V.non) (u:=Value.none) J rfl q
 | brk =>
  obtain⟨_,_,_,q⟩:=hs;exact False.elim q
 | cont =>
  obtain⟨_,_,_,q⟩:=hs;exact False.elim q
section
variable{X:Cx}{x:Str}{p pos:Pos}{e:Expr}{es:List Expr}{t:TA}{id T:String}{r:List V->Hp->VK->Prop}
def tCB(r:List V->Hp->VK->Prop)(t:TA):TE:=fun σ H Q=>t σ H fun vs H1=>r vs H1 Q
theorem Fe(hc:D9 X (.builtin id) r)(hg:Gl X x)(hm:X.mg x=none)(hv:bootBuiltins x=some (.builtin id))(ha:PA X (e::es) t)(hn:x ≠ "__name__" := by decide)(hdb:(x == ("__debug__" : Str))=false:=by decide)
  (he:starEach (e::es) X.env=(false,eval e X.env)::starEach es X.env:=by rfl) (P0:(backTo pos (starEach es X.env)).any (·.1)=false:=by rfl):PE X (.Call (.Name x p) (e::es) [] pos) (tCB r t):=by
 intro pins s σ H Q I h;refine wpAny_Call_Name_kw (Ld I hg hm hv ?_ hn hdb);exact callWith_builtin1 (V0 (ha pos pins s σ H _ I h) fun us s1 ⟨vs,H1,I1,r1,q1⟩=>hc pins s1 σ H1 vs us Q I1 r1 q1) he P0
theorem Ui(hc:D9 X (.type T) r)(hg:Gl X x)(hm:X.mg x=none)(hv:bootBuiltins x=some (.type T))(ha:PA X (e::es) t)(hn:x ≠ "__name__" := by decide)(hdb:(x == ("__debug__" : Str))=false:=by decide)
  (he:starEach (e::es) X.env=(false,eval e X.env)::starEach es X.env:=by rfl) (P0:(backTo pos (starEach es X.env)).any (·.1)=false:=by rfl):PE X (.Call (.Name x p) (e::es) [] pos) (tCB r t):=by
 intro pins s σ H Q I h;refine wpAny_Call_Name_kw (Ld I hg hm hv ?_ hn hdb);exact callWith_type1 (V0 (ha pos pins s σ H _ I h) fun us s1 ⟨vs,H1,I1,r1,q1⟩=>hc pins s1 σ H1 vs us Q I1 r1 q1) he P0
end
end L2
namespace HT
open PySem PyProof.Rows
section
open PySem.SeqAt
open PySem.AutoSeq1 (wpAny_loadPart')
open PySem.MeetsSeq PySem.MeetsSeq2 PySem.MeetsSeq3
end
section
variable{prog:Program}{w:World}{A:Around}{E:Vt}{s:Shared}
theorem Zmh{t b:Addr}{vs ws:List Value}{Q:Vt}(ht:IsTup s.heap t vs.toArray)(hb:IsTup s.heap b ws.toArray)(hv:vs≠[])
  (h1:ws=[]->Q (.ref t) s) (h2:ws≠[]->Q (.ref s.heap.objs.size) { s with heap:=s.heap.push { cls:=.type "tuple",data:=.seq (vs++ws).toArray } })
  (hsz:vs.length+ws.length<=sizeLine):wpAny (model prog w) A (binaryOp .Add (.ref t) (.ref b)) Q E s:=by
 obtain⟨⟨cls,dd,data,sl⟩,ho,hc,n,hd⟩:=id ht;obtain⟨⟨cls2,dd2,data2,sl2⟩,ho2,hc2,n2,hd2⟩:=id hb;simp only at hc hd hc2 hd2;subst hc hd hc2 hd2;have e:vs.toArray++ws.toArray=(vs++ws).toArray:=by simp
 by_cases hw:ws=[]
 ·exact concat_meets ⟨_,ho,rfl⟩ ⟨_,ho2,rfl⟩ noFill_tuple_add seq_tuple_add PySem.F.slot_tuple_add PySem.F.entry_tuple_add (PySem.F.args_tuple_add_2 _ _)
   (tuple_addW1 t b vs.toArray ws.toArray n n2 dd dd2 sl sl2 (by simpa using hv) (by simp[hw])) ⟨ho,ho2,h1 hw⟩
 ·refine concat_meets ⟨_,ho,rfl⟩ ⟨_,ho2,rfl⟩ noFill_tuple_add seq_tuple_add PySem.F.slot_tuple_add PySem.F.entry_tuple_add (PySem.F.args_tuple_add_2 _ _)
   (tuple_addW2 t b vs.toArray ws.toArray n n2 dd dd2 sl sl2 (by simpa using hv) (by simpa using hw) (by rw[Dy,Dy];exact hsz)) ⟨ho,ho2, ?_⟩
  rw[e];exact h2 hw
def Uo(n d:Nat):Option Int->Nat
 | none=>d
 | some v=>if v<0 then (v+(n:Int)).toNat else min v.toNat n
theorem Cf(n d:Nat):Uo n d none=d:=rfl
theorem oj(n d k:Nat):Uo n d (some (k:Int))=min k n:=by
 show (if (k:Int)<0 then ((k:Int)+(n:Int)).toNat else min (k:Int).toNat n)=min k n;rw[if_neg (by omega),Int.toNat_natCast]
theorem sIx_le(n d:Nat)(hd:d<=n)(o:Option Int):Uo n d o<=n:=by
 cases o with
 | none=>exact hd
 | some v =>
  show (if v<0 then (v+(n:Int)).toNat else min v.toNat n)<=n;by_cases hv:v<0
  ·rw[if_pos hv];omega
  ·rw[if_neg hv];exact Nat.min_le_right _ _
theorem Zze(v:Int)(n d:Nat):(if v<0 then max (v+(n:Int)) 0 else min v (n:Int))=((Uo n d (some v):Nat):Int):=by
 show (if v<0 then max (v+(n:Int)) 0 else min v (n:Int))=(((if v<0 then (v+(n:Int)).toNat else min v.toNat n):Nat):Int);by_cases hv:v<0
 ·simp only[if_pos hv];omega
 ·simp only[if_neg hv];omega
theorem se(lo hi:Option Int)(n:Nat):Builtin.Slice.sliceAdjust lo hi 1 (n:Int)=(((Uo n 0 lo:Nat):Int),((Uo n n hi:Nat):Int)):=by
 have h1:¬ ((1:Int)<0):=by omega
 unfold Builtin.Slice.sliceAdjust;simp only[h1,if_false];refine Prod.ext ?_ ?_
 ·cases lo with
  | none=>rfl
  | some v=>exact Zze v n 0
 ·cases hi with
  | none=>rfl
  | some v=>exact Zze v n n
theorem de(i j:Nat):Builtin.Slice.slicePlaces (i:Int) (j:Int) 1=j - i:=by
 unfold Builtin.Slice.slicePlaces;have h1:(1:Int)>0:=by omega
 simp only[h1,if_true,Int.ediv_one]
 split<;>omega
theorem Ea{v:Value}{o:Option Int}{Q:Option Int->Shared->Prop}(p:IsPart v o)(h:Q o s):wpAny (model prog w) A (Builtin.Slice.slicePartIndex v) Q E s:=by
 cases p with
 | none=>exact slicePart_none h
 | int i t=>exact slicePart_int h
theorem Bl{sl:Addr}{vl vu:Value}{lo hi:Option Int}{n:Nat}{Q:Int×Int×Nat->Shared->Prop}(hs:s.heap.IsSliceOf sl vl vu .none)(pl:IsPart vl lo)(pu:IsPart vu hi)
  (h:Q (((Uo n 0 lo:Nat):Int),1,Uo n n hi - Uo n 0 lo) s):wpAny (model prog w) A (Builtin.Slice.sliceApplied (.ref sl) (pure (n:Int))) Q E s:=by
 obtain⟨os,hos,hcs,hds⟩:=id hs;unfold Builtin.Slice.sliceApplied Builtin.Slice.sliceFields;refine Zo (Zo (wpAny_field hos hds (x:=vl) rfl (Zo (wpAny_field hos hds (x:=vu) rfl (Zo (wpAny_field hos hds (x:=.none) rfl (Y7 ?_)))))));refine Zo (slicePart_none ?_);show wpAny _ _ (if ((1:Int) == 0)=true then _ else _) _ _ s;rw[if_neg (by decide)];refine Zo (Ea pl (Zo (Ea pu (Zo (Y7 ?_)))));show wpAny _ _ (match Builtin.Slice.sliceAdjust lo hi 1 (n:Int) with | (lo,hi)=>pure (lo,(1:Int),Builtin.Slice.slicePlaces lo hi 1)) _ _ s;rw[se lo hi n];show wpAny _ _ (pure (((Uo n 0 lo:Nat):Int),(1:Int),Builtin.Slice.slicePlaces ((Uo n 0 lo:Nat):Int) ((Uo n n hi:Nat):Int) 1)) _ _ s;rw[de];exact Y7 h
theorem Zvo(xs:Array Value)(i k:Nat):((List.range k).filterMap fun(m:Nat)=>xs[((i:Int)+(m:Int) * 1).toNat]?).toArray=((xs.toList.drop i).take k).toArray:=by
 have e:(fun(m:Nat)=>xs[((i:Int)+(m:Int) * 1).toNat]?)=fun m=>xs[i+m]?:=by
  funext m
  have:((i:Int)+(m:Int) * 1).toNat=i+m:=by omega
  rw[this]
 rw[e];have:=pick_run xs i k;rw[List.filterMap_map]at this;have e2:((fun x=>xs[x]?) ∘ fun x=>i+x)=fun m=>xs[i+m]?:=rfl;rw[e2]at this;rw[this]
theorem Qy{t sl:Addr}{items:Array Value}{vl vu:Value}{lo hi:Option Int}{Q:Vt}(ht:IsTup s.heap t items)(hs:s.heap.IsSliceOf sl vl vu .none)(pl:IsPart vl lo)(pu:IsPart vu hi)
  (hw:¬ (Uo items.size 0 lo=0/\Uo items.size items.size hi=items.size))
  (h:Q (.ref s.heap.objs.size) { s with heap:=s.heap.push { cls:=.type "tuple",data:=.seq ((items.toList.drop (Uo items.size 0 lo)).take (Uo items.size items.size hi - Uo items.size 0 lo)).toArray } })
  (hsz:items.size<=sizeLine):wpAny (model prog w) A (getItem (.ref t) (.ref sl)) Q E s:=by
 have Qw:sizeOk (.seq ((items.toList.drop (Uo items.size 0 lo)).take (Uo items.size items.size hi - Uo items.size 0 lo)).toArray):=by
  show ((items.toList.drop (Uo items.size 0 lo)).take (Uo items.size items.size hi - Uo items.size 0 lo)).toArray.size<=sizeLine;rw[Dy,T1,List.length_drop,jk];omega
 have hj:Uo items.size items.size hi<=items.size:=sIx_le _ _ (Vj _) hi;obtain⟨os,hos,hcs,hds⟩:=id hs;have hTs:s.TypeIs (.ref sl) "slice" := ⟨os,hos,hcs⟩;unfold getItem
 try with_reducible refine wpAny_holding ?_
 first | refine Zo (Y7 ?_) | skip
 refine Zo (wpAny_sequenceKey ht.typeIs (by decide) ?_)
 refine Zo (wpAny_callSpecial?_slot (name:=Str.ofString "__getitem__") ht.typeIs slot_tuple_getitem
  (wpAny_call_entry slot_tuple_getitem ht.typeIs entry_tuple_getitem ?_ (args_tuple_getitem _ _)))
 show wpAny _ _ (Builtin.Tuple.tupleItemsOf (.ref t) >>= _) _ _ s;refine Zo (tupleItemsOf_ ht ?_);refine Zo (wpAny_typeOf hTs ?_);rw[if_pos (by decide)];refine Zo (Bl hs pl pu ?_)
 have hno:¬ ((((Uo items.size 0 lo:Nat):Int) == 0 && (1:Int) == 1 && (Uo items.size items.size hi - Uo items.size 0 lo) == items.size)=true):=by
  intro q;rw[Iq,Iq]at q;have q1:((Uo items.size 0 lo:Nat):Int)=0:=eq_of_beq q.1.1;have q2:Uo items.size items.size hi - Uo items.size 0 lo=items.size:=eq_of_beq q.2;exact hw ⟨by omega,by omega⟩
 show wpAny _ _ (if (((Uo items.size 0 lo:Nat):Int) == 0 && (1:Int) == 1 && (Uo items.size items.size hi - Uo items.size 0 lo) == items.size)=true then _ else _) _ _ s;rw[if_neg hno,Zvo]
 first
  | exact Zo (m:=Builtin.Tuple.tupleExact _) (wpAny_newObj_type (Y7 ⟨_,rfl,Y7 h⟩) Qw)
  | exact Zo (m:=Builtin.Tuple.tupleExact _) (wpAny_newObj_type (Zo (Y7 (Y7 ⟨_,rfl,Y7 h⟩))) Qw)
  | exact Zo (Zo (m:=Builtin.Tuple.tupleExact _) (wpAny_newObj_type (Y7 (Y7 ⟨_,rfl,Y7 h⟩)) Qw))
  | exact Zo (Zo (m:=Builtin.Tuple.tupleExact _) (wpAny_newObj_type (Y7 ⟨_,rfl,Y7 h⟩) Qw))
end
end HT
namespace L2
open PySem PySem.Spec PyProof.Rows
abbrev TO:=St->Hp->(Option Int->Hp->Prop)->Prop
def PO(X:Cx)(e:Option Expr)(t:TO):Prop :=
 ∀(pins:Uv) (s:Shared) (σ:St) (H:Hp) (Q:Option Int->Hp->Prop),Zi X pins σ H s->t σ H Q ->
  wpAny (model X.prog X.w) X.A (evalPart e X.env) (fun u s'=>∃o H',Zi X pins σ H' s'/\IsPart u o/\Q o H') X.xe s
def Zg2:TO:=fun _ H Q=>Q none H
inductive Zg0(Q:(Option Int->Hp->Prop))(x:V)(H1:Hp):Prop
 | mk(i)(Vg:x=.int i)(Vk:Q (some i) H1)
def tPart(t:TE):TO:=fun σ H Q=>t σ H fun x H1=>Zg0 Q x H1
section
variable{X:Cx}{e:Expr}{te:TE}{lo hi:Option Expr}{tl th:TO}{pos p2:Pos}
theorem U8:PO X none Zg2:=by
 intro pins s σ H Q I h;rw[evalPart_none];exact Y7 ⟨none,H,I,.none,h⟩
theorem U7(h:PE X e te):PO X (some e) (tPart te):=by
 intro pins s σ H Q I hw;rw[evalPart_some];refine V0 (h pins s σ H _ I hw) fun u s1 ⟨x,H1,I1,r1,q1⟩=>?_;obtain⟨i,rfl,q⟩:=q1;obtain⟨t,rfl⟩:=r1;exact⟨some i,H1,I1,.int i t,q⟩
def SlR(X:Cx)(r:V->Option Int->Option Int->Hp->VK->Prop):Prop :=
 ∀(pins:Uv) (s:Shared) (σ:St) (H:Hp) (x:V) (v vl vu:Value) (lo hi:Option Int) (sl:Addr) (Q:VK),Zi X pins σ H s->Z9 x v->s.heap.IsSliceOf sl vl vu .none->IsPart vl lo->IsPart vu hi->r x lo hi H Q ->
  ∃T id,typeLookup (.type T) "__getitem__" = pure (some (.builtin id))/\s.TypeIs v T/\wpAny (model X.prog X.w) X.A (getItem v (.ref sl)) (EP X pins σ Q) X.xe s
def tSl(r:V->Option Int->Option Int->Hp->VK->Prop)(te:TE)(tl th:TO):TE:=fun σ H Q=>te σ H fun x H1=>tl σ H1 fun l H2=>th σ H2 fun u H3=>r x l u H3 Q
theorem Uy{r:V->Option Int->Option Int->Hp->VK->Prop}(hr:SlR X r)(he:PE X e te)(hl:PO X lo tl)(hu:PO X hi th):PE X (.Subscript e (.Slice lo hi none p2) pos) (tSl r te tl th):=by
 intro pins s σ H Q I h;refine Subscript_ (V0 (he pins s σ H _ I h) fun v s1 ⟨x,H1,I1,r1,q1⟩=>?_);refine wpAny_Slice (V0 (hl pins s1 σ H1 _ I1 q1) fun vl s2 ⟨l,H2,I2,pl,q2⟩=>V0 (hu pins s2 σ H2 _ I2 q2) fun vu s3 ⟨u,H3,I3,pu,q3⟩=>?_);rw[evalPart_none];refine Y7 ?_;have I4:Zi X pins σ H3 { s3 with heap:=s3.heap.push { cls:=.type "slice",data:=.fields #[vl,vu,.none] } }:=I3.kept (t':=s3.toks) fun b ob q=>G4 _ q;obtain⟨T,id,hT,ht,hg⟩:=hr pins { s3 with heap:=s3.heap.push { cls:=.type "slice",data:=.fields #[vl,vu,.none] } } σ H3 x v vl vu l u s3.heap.objs.size Q I4 r1 (Heap.IsSliceOf.new ..) pl pu q3;show wpAny (model X.prog X.w) X.A (subscriptTail e (.Slice lo hi none p2) v (.ref s3.heap.objs.size)) (EP X pins σ Q) X.xe { s3 with heap:=s3.heap.push { cls:=.type "slice",data:=.fields #[vl,vu,.none] } };exact tail_any (ops:=[.ref s3.heap.objs.size,v]) ht hT hg (by with_unfolding_all rfl)
def Dj(xs:List V)(lo hi:Option Int):List V:=(xs.drop (HT.Uo xs.length 0 lo)).take (HT.Uo xs.length xs.length hi - HT.Uo xs.length 0 lo)
theorem C6(xs:List V)(lo hi:Option Int):(Dj xs lo hi).length<=xs.length:=by
 unfold Dj;rw[T1,List.length_drop];omega
inductive rSlT_I(K:W.Frag)(x:V)(lo:Option Int)(hi:Option Int)(H:Hp)(Q:VK):Prop
 | mk(a xs)(Vg:x=.ref a)(Vk:Yv K H a xs)(V1:¬ (HT.Uo xs.length 0 lo=0/\HT.Uo xs.length xs.length hi=xs.length))(Jk:∀p,H p=none->Q (.ref p) (Yq H p (.tup (Dj xs lo hi))))
def rSlT(K:W.Frag):V->Option Int->Option Int->Hp->VK->Prop:=fun x lo hi H Q=>rSlT_I K x lo hi H Q
theorem sl_tup:SlR X (rSlT X.K):=by
 intro pins s σ H x v vl vu lo hi sl Q I rx hs pl pu h;obtain⟨a,xs,rfl,hx,hw,q⟩:=h;cases rx;obtain⟨its,r,ht,hz⟩:=I.tuple hx;have hlen:its.toArray.size=xs.length:=by rw[Dy];exact r.length.symm
 refine⟨"tuple",_,slot_tuple_getitem.lookup,ht.typeIs, ?_⟩;refine HT.Qy ht hs pl pu (by rw[hlen];exact hw) ?_ (by rw[hlen];exact hz);rw[hlen];refine⟨.ref s.heap.objs.size,_,I.laid (t':=s.toks) (o:=.tup (Dj xs lo hi)) (fun b ob q=>G4 _ q) (Vj _) ?_,rfl,q _ (I.hok.fresh (Vj _))⟩;exact⟨Gw (C6 xs lo hi) hz,_,(r.drop (HT.Uo xs.length 0 lo)).take (HT.Uo xs.length xs.length hi - HT.Uo xs.length 0 lo),Hc.new _ _⟩
inductive Zfe(K:W.Frag)(x:V)(y:V)(H:Hp)(Q:VK):Prop
 | mk(a b xs ys)(Vg:x=.ref a)(Vk:y=.ref b)(V1:Yv K H a xs)(Jk:Yv K H b ys)(Mn:xs≠[])(Wb:xs.length+ys.length<=sizeLine)(fm:(ys=[]->Q (.ref a) H))(h7_:(ys≠[]->∀p,H p=none->Q (.ref p) (Yq H p (.tup (xs++ys)))))
def rCatT(K:W.Frag):R2:=fun x y H Q=>Zfe K x y H Q
theorem Yb.nil_iff{xs:List V}{us:List Value}(r:Yb xs us):us=[]↔xs=[]:=by
 cases r with
 | nil=>simp
 | cons _ _=>simp
theorem Zbj:Nd X (binaryOp .Add) (rCatT X.K):=by
 intro pins s σ H x y v u Q I rx ry h;obtain⟨a,b,xs,ys,rfl,rfl,ha,hb,hx,hz,q1,q2⟩:=h;cases rx;cases ry;obtain⟨its,r1,p1,_⟩:=I.tuple ha;obtain⟨yx,r2,p2,_⟩:=I.tuple hb;refine HT.Zmh p1 p2 (fun z=>hx (r1.nil_iff.mp z)) (fun z=>⟨.ref a,H,I,rfl,q1 (r2.nil_iff.mp z)⟩) (fun z=>?_) (by rw[<-r1.length, <-r2.length];exact hz);refine⟨.ref s.heap.objs.size,_,I.laid (t':=s.toks) (o:=.tup (xs++ys)) (fun b ob q=>G4 _ q) (Vj _) ?_,rfl,q2 (fun w=>z (r2.nil_iff.mpr w)) _ (I.hok.fresh (Vj _))⟩;exact⟨by rw[Xs];exact hz,_,r1.append r2,Hc.new _ _⟩
end
def ixN(n:Nat)(i:Int):Option Nat:=if 0<=i then (if i<n then some i.toNat else none) else if -(n:Int)<=i then some (i+n).toNat else none
def Pz{α:Type}(xs:List α)(i:Int):Option α:=(ixN xs.length i).bind fun j=>xs[j]?
theorem Zzg{n:Nat}{i:Int}{j:Nat}(h:ixN n i=some j):seqIndex? i n=some j/\j<n/\-(n:Int)<=i/\i<n:=by
 unfold ixN at h;by_cases h0:0<=i
 ·rw[if_pos h0]at h;by_cases h1:i<n
  ·rw[if_pos h1]at h;have e:i.toNat=j:=Hn h;exact⟨by rw[seqIndex_of h0 h1,e],by omega,by omega,h1⟩
  ·rw[if_neg h1]at h;cases h
 ·rw[if_neg h0]at h;by_cases h1:-(n:Int)<=i
  ·rw[if_pos h1]at h;have e:(i+n).toNat=j:=Hn h;exact⟨by rw[seqIndex_neg (by omega) h1,e],by omega,h1,by omega⟩
  ·rw[if_neg h1]at h;cases h
theorem Zz1{α:Type}{xs:List α}{i:Int}{v:α}(h:Pz xs i=some v):∃j,seqIndex? i xs.length=some j/\xs[j]?=some v/\j<xs.length/\-(xs.length:Int)<=i/\i<xs.length:=by
 unfold Pz at h;cases e:ixN xs.length i with
 | none=>rw[e]at h;cases h
 | some j =>
  rw[e]at h;obtain⟨h1,h2,h3,h4⟩:=Zzg e;exact⟨j,h1,h,h2,h3,h4⟩
theorem V4{α:Type}{xs:List α}{j:Nat}{v:α}(h:xs[j]?=some v):Pz xs (j:Int)=some v:=by
 have hj:j<xs.length:=(Q8.mp h).1
 have e:ixN xs.length (j:Int)=some j:=by
  unfold ixN;rw[if_pos (by omega),if_pos (by omega)];simp
 unfold Pz;rw[e];exact h
def Zz4(b:Expr):Prop:=∀o i,subscripted b false o i=operate [o,i] (getItem o i)
def IxR(X:Cx)(r:R2):Prop :=
 ∀(value slice:Expr) (pins:Uv) (s:Shared) (σ:St) (H:Hp) (x y:V) (v u:Value) (Q:VK),Zi X pins σ H s->Z9 x v->Z9 y u->r x y H Q ->
  subscripted slice false v u=operate [v,u] (getItem v u)->wpAny (model X.prog X.w) X.A (subscriptTail value slice v u) (EP X pins σ Q) X.xe s
def MtR(X:Cx)(id:String)(r:V->List V->Hp->VK->Prop):Prop :=
 ∀(pins:Uv) (s:Shared) (σ:St) (H:Hp) (x:V) (xs:List V) (v:Value) (us:List Value) (Q:VK),Zi X pins σ H s->Z9 x v->Yb xs us->r x xs H Q ->
  wpAny (model X.prog X.w) X.A (call (.builtin id) (v::us)) (EP X pins σ Q) X.xe s
section
variable{X:Cx}{a b:Expr}{ta tb:TE}{pos:Pos}
theorem Ut{r:R2}(hr:IxR X r)(ha:PE X a ta)(hb:PE X b tb)(hs:Zz4 b):PE X (.Subscript a b pos) (tOp r ta tb):=by
 intro pins s σ H Q I h;exact Subscript_ (binT ha hb I h fun v u s2 x y H2 I2 rx ry q=>hr a b pins s2 σ H2 x y v u Q I2 rx ry q (hs _ _))
inductive rIxL_I(K:W.Frag)(x:V)(y:V)(H:Hp)(Q:VK):Prop
 | mk(p xs i v)(Vg:x=.ref p)(Vk:y=.int i)(V1:Z0 K H p xs)(Jk:Pz xs i=some v)(Mn:Q v H)
def rIxL(K:W.Frag):R2:=fun x y H Q=>rIxL_I K x y H Q
inductive rIxT_I(K:W.Frag)(x:V)(y:V)(H:Hp)(Q:VK):Prop
 | mk(p xs i v)(Vg:x=.ref p)(Vk:y=.int i)(V1:Yv K H p xs)(Jk:Pz xs i=some v)(Mn:Q v H)
def rIxT(K:W.Frag):R2:=fun x y H Q=>rIxT_I K x y H Q
theorem Z2:IxR X (rIxL X.K):=by
 intro value slice pins s σ H x y v u Q I rx ry h hs;obtain⟨p,xs,i,z,rfl,rfl,hq,he,q⟩:=h;cases rx;obtain⟨t,rfl⟩:=ry;obtain⟨its,r,pl,hz⟩:=I.list hq;obtain⟨j,h1,h2,h3,h4,h5⟩:=Zz1 he;obtain⟨w,ew,rw'⟩:=r.get h2;have hl:=r.length;have hn:=Po;have fin:EP X pins σ Q w s:=⟨z,H,I,rw',q⟩;by_cases h0:0<=i
 ·have hj:i.toNat=j:=by
   rw[seqIndex_of h0 h5]at h1;exact Hn h1
  exact item_listR pl.isList h0 (by omega) (by rw[hj];simpa using ew) fin hs
 ·have hj:(i+(its.toArray.size:Int)).toNat=j:=by
   rw[seqIndex_neg (by omega) h4]at h1;rw[Dy, <-hl];exact Hn h1
  exact subscriptTail_builtinR (x:=w) pl.isList.typeIs slot_list_getitem.lookup
   (wpAny_getItem_list_neg (Q:=fun r s'=>r=w/\EP X pins σ Q r s') pl.isList (by omega) (by rw[Dy]<;>omega) (by omega) (by rw[hj];simpa using ew) ⟨rfl,fin⟩) hs
theorem Zk:IxR X (rIxT X.K):=by
 intro value slice pins s σ H x y v u Q I rx ry h hs;obtain⟨p,xs,i,z,rfl,rfl,hq,he,q⟩:=h;cases rx;obtain⟨t,rfl⟩:=ry;obtain⟨its,r,pl,hz⟩:=I.tuple hq;obtain⟨j,h1,h2,h3,h4,h5⟩:=Zz1 he;obtain⟨w,ew,rw'⟩:=r.get h2;have hl:=r.length;have hn:=Po;have fin:EP X pins σ Q w s:=⟨z,H,I,rw',q⟩
 exact subscriptTail_builtinR (x:=w) pl.typeIs slot_tuple_getitem.lookup
  (getItem_tuple (j:=j) (Q:=fun r s'=>r=w/\EP X pins σ Q r s') pl (by omega) (by omega) (by rw[Dy, <-hl];exact h1) (by simpa using ew) ⟨rfl,fin⟩) hs
theorem nv(its:List Value)(n j:Nat)(u:Value):Obj.mapSeq (·.setIfInBounds j u) { cls:=.type "list",data:=.seq its.toArray n }={ cls:=.type "list",data:=.seq (its.set j u).toArray n }:=by
 simp[Obj.mapSeq]
theorem Zi.lst{pins:Uv}{σ:St}{H:Hp}{s:Shared}{p:Addr}{xs:List V}(I:Zi X pins σ H s)(h:H p=some (.lst xs)) :
  ∃(its:List Value) (n:Nat),Yb xs its/\s.heap.get? p=some { cls:=.type "list",data:=.seq its.toArray n }/\xs.length<=sizeLine:=by
 obtain⟨z,its,n,r,e⟩:=I.hok p _ h;exact⟨its,n,r,e,z⟩
theorem Zi.lstUpd{pins:Uv}{σ:St}{H:Hp}{s:Shared}{p:Addr}{xs ys:List V}{its its':List Value}{n n':Nat}{f:Obj->Obj}(I:Zi X pins σ H s)(h:H p=some (.lst xs))
  (ho:s.heap.get? p=some { cls:=.type "list",data:=.seq its.toArray n }) (hf:f { cls:=.type "list",data:=.seq its.toArray n }={ cls:=.type "list",data:=.seq its'.toArray n' }) (r:Yb ys its') (hz:ys.length<=sizeLine) (t:Nat) :
  Zi X pins σ (Yq H p (.lst ys)) { s with heap:=s.heap.update p f,toks:=t }:=by
 have e:(s.heap.update p f).get? p=some { cls:=.type "list",data:=.seq its'.toArray n' }:=by
  rw[Heap.get?_update_self f ho (by rw[hf]<;>rfl),hf]
 refine I.write (x:=p) (e:=p) (by rw[h];trivial) (.inl rfl) (fun b u hb q=>(Heap.get?_update_other _ _ (Ne.symm hb)).trans q) ⟨_,e⟩ ?_;exact⟨hz,its',n',r,e⟩
inductive Zfu(o:V)(i:V)(v:V)(H:Hp)(Q:(Hp->Prop)):Prop
 | mk(p xs k j)(Vg:o=.ref p)(Vk:i=.int k)(V1:H p=some (.lst xs))(Jk:ixN xs.length k=some j)(Mn:Q (Yq H p (.lst (xs.set j v))))
def rSetL:V->V->V->Hp->(Hp->Prop)->Prop:=fun o i v H Q=>Zfu o i v H Q
theorem Fc:PSet X rSetL:=by
 intro pins s σ H o i v ov iv u Q I ro ri rv h;obtain⟨p,xs,k,j,rfl,rfl,hp,hj,q⟩:=h;cases ro;obtain⟨t,rfl⟩:=ri;obtain⟨its,n,r,ho,hz⟩:=I.lst hp;obtain⟨h1,h2,h3,h4⟩:=Zzg hj;have hl:=r.length;have hn:=Po
 have I':Zi X pins σ (Yq H p (.lst (xs.set j v))) { s with heap:=s.heap.update p (Obj.mapSeq (·.setIfInBounds j u)) } :=
  I.lstUpd hp ho (nv its n j u) (r.set rv j) (by rw[List.length_set];exact hz) s.toks
 by_cases h0:0<=k
 ·have hk:k.toNat=j:=by
   rw[seqIndex_of h0 h4]at h1;exact Hn h1
  exact W.ki_setAt ho h0 (by omega) (by rw[Dy, <-hl];exact h4) (by rw[hk];exact⟨_,I',q⟩)
 ·have hk:(k+(its.toArray.size:Int)).toNat=j:=by
   rw[seqIndex_neg (by omega) h3]at h1;rw[Dy, <-hl];exact Hn h1
  exact W.ki_setBack ho (by omega) (by rw[Dy, <-hl];exact h3) (by omega) (by rw[hk];exact⟨_,I',q⟩)
theorem X5(lo hi:Option Int)(n:Nat):(sliceBounds lo hi none n).1=((HT.Uo n 0 lo:Nat):Int)/\(sliceBounds lo hi none n).2.1=((HT.Uo n n hi:Nat):Int)/\(sliceBounds lo hi none n).2.2=1:=by
 refine⟨?_, ?_,rfl⟩
 ·cases lo with
  | none=>simp[sliceBounds,HT.Uo]
  | some i =>
   simp only[sliceBounds,HT.Uo,Option.getD_none,show (1:Int)>0 by decide,if_true];by_cases h:i<0
   ·simp only[h,if_true]<;>omega
   ·simp only[h,if_false]<;>omega
 ·cases hi with
  | none=>simp[sliceBounds,HT.Uo]
  | some i =>
   simp only[sliceBounds,HT.Uo,Option.getD_none,show (1:Int)>0 by decide,if_true];by_cases h:i<0
   ·simp only[h,if_true]<;>omega
   ·simp only[h,if_false]<;>omega
theorem Av(its:List Value)(lo hi:Option Int):slicePick its.toArray lo hi none=((its.drop (HT.Uo its.length 0 lo)).take (HT.Uo its.length its.length hi - HT.Uo its.length 0 lo)).toArray:=by
 obtain⟨h1,h2,h3⟩:=X5 lo hi its.toArray.size;unfold slicePick;rw[h1,h2,h3];simp only[sliceRange_one,pick_run,Dy]<;>rfl
inductive rSlL_I(K:W.Frag)(x:V)(lo:Option Int)(hi:Option Int)(H:Hp)(Q:VK):Prop
 | mk(a xs)(Vg:x=.ref a)(Vk:Z0 K H a xs)(V1:∀p,H p=none->Q (.ref p) (Yq H p (.lst (Dj xs lo hi))))
def rSlL(K:W.Frag):V->Option Int->Option Int->Hp->VK->Prop:=fun x lo hi H Q=>rSlL_I K x lo hi H Q
theorem Ft:SlR X (rSlL X.K):=by
 intro pins s σ H x v vl vu lo hi sl Q I rx hs pl pu h;obtain⟨a,xs,rfl,hx,q⟩:=h;cases rx;obtain⟨its,r,ht,hz⟩:=I.list hx;have hlen:=r.length;refine⟨"list",_,slot_list_getitem.lookup,ht.isList.typeIs, ?_⟩;refine wpAny_getItem_list_slice ht.isList hs pl pu .none (by simp) ?_ (by rw[Dy]<;>omega);rw[Av, <-hlen];refine⟨.ref s.heap.objs.size,_,I.laid (t':=s.toks) (o:=.lst (Dj xs lo hi)) (fun b ob q=>G4 _ q) (Vj _) ?_,rfl,q _ (I.hok.fresh (Vj _))⟩;exact⟨Gw (C6 xs lo hi) hz,_,0,(r.drop (HT.Uo xs.length 0 lo)).take (HT.Uo xs.length xs.length hi - HT.Uo xs.length 0 lo),Rj _ rfl⟩
def Nv:V->Bool
 | .non=>true
 | .bl _=>true
 | .int _=>true
 | .str _=>true
 | _=>false
def eqV:V->V->Bool
 | .non,.non=>true
 | .bl a,.bl b=>a == b
 | .bl a,.int b=>(if a then 1 else 0) == b
 | .int a,.bl b=>a == (if b then 1 else 0)
 | .int a,.int b=>a == b
 | .str a,.str b=>a == b
 | _,_=>false
theorem Zkl{A:Around}{s:Shared}{y x:V}{u v:Value}(ry:Z9 y u)(rx:Z9 x v)(fy:Nv y=true)(fx:Nv x=true):SeqAt.EqAt A s u v (eqV y x):=by
 cases y with
 | non =>
  cases ry;cases x with
  | non=>cases rx;exact SeqAt.EqAt.same _
  | bl b=>cases rx;exact SeqAt.EqAt.none_bool b
  | int b=>obtain⟨t,rfl⟩:=rx;exact SeqAt.EqAt.none_int b t
  | str b=>obtain⟨t,rfl⟩:=rx;exact SeqAt.EqAt.none_str b t
  | _=>exact absurd (show false=true from fx) T7
 | bl a =>
  cases ry;cases x with
  | non=>cases rx;exact SeqAt.EqAt.bool_none a
  | bl b=>cases rx;exact SeqAt.EqAt.bool_bool a b
  | int b=>obtain⟨t,rfl⟩:=rx;exact SeqAt.EqAt.bool_int a b t
  | str b=>obtain⟨t,rfl⟩:=rx;exact SeqAt.EqAt.bool_str a b t
  | _=>exact absurd (show false=true from fx) T7
 | int a =>
  obtain⟨t',rfl⟩:=ry;cases x with
  | non=>cases rx;exact SeqAt.EqAt.int_none a t'
  | bl b=>cases rx;exact SeqAt.EqAt.int_bool a t' b
  | int b=>obtain⟨t,rfl⟩:=rx;exact SeqAt.EqAt.int_int a t' b t
  | str b=>obtain⟨t,rfl⟩:=rx;exact SeqAt.EqAt.int_str a t' b t
  | _=>exact absurd (show false=true from fx) T7
 | str a =>
  obtain⟨t',rfl⟩:=ry;cases x with
  | non=>cases rx;exact SeqAt.EqAt.str_none a t'
  | bl b=>cases rx;exact SeqAt.EqAt.str_bool a t' b
  | int b=>obtain⟨t,rfl⟩:=rx;exact SeqAt.EqAt.str_int a t' b t
  | str b=>obtain⟨t,rfl⟩:=rx;exact SeqAt.EqAt.str_str a t' b t
  | _=>exact absurd (show false=true from fx) T7
 | _=>exact absurd (show false=true from fy) T7
def rl(x:V)(u:Value):Bool:=match u with
 | .none=>eqV .non x
 | .bool b=>eqV (.bl b) x
 | .int i _=>eqV (.int i) x
 | .str z _=>eqV (.str z) x
 | _=>false
theorem Zkn{x y:V}{u:Value}(r:Z9 y u)(f:Nv y=true):rl x u=eqV y x:=by
 cases y with
 | non=>cases r;rfl
 | bl b=>cases r;rfl
 | int i=>obtain⟨t,rfl⟩:=r;rfl
 | str z=>obtain⟨t,rfl⟩:=r;rfl
 | _=>exact absurd (show false=true from f) T7
theorem Qa{x:V}:∀{xs:List V} {us:List Value},Yb xs us->xs.all Nv=true->us.any (rl x)=xs.any fun y=>eqV y x
 | _,_,.nil,_=>rfl
 | y::xs,u::us,.cons r t,f=>by
  rw[List.all_cons,Iq]at f;rw[List.any_cons,List.any_cons,Zkn r f.1,Qa t f.2]
theorem Co{A:Around}{s:Shared}{x:V}{v:Value}(rx:Z9 x v)(fx:Nv x=true):∀{xs:List V} {us:List Value},Yb xs us->xs.all Nv=true->∀u∈us,SeqAt.EqAt A s u v (rl x u)
 | _,_,.nil,_=>fun u hu=>by cases hu
 | y::xs,u::us,.cons r t,f=>fun u' hu=>by
  rw[List.all_cons,Iq]at f;rcases G2.mp hu with rfl | hu
  ·rw[Zkn r f.1];exact Zkl r rx f.1 fx
  ·exact Co rx fx t f.2 u' hu
def z9(x:V)(xs:List V):Bool:=xs.any fun y=>eqV y x
inductive rIn_I(K:W.Frag)(neg:Bool)(x:V)(y:V)(H:Hp)(Q:VK):Prop
 | mk(p xs)(Vg:y=.ref p)(Vk:(Z0 K H p xs\/Yv K H p xs))(V1:Nv x=true)(Jk:xs.all Nv=true)(Mn:Q (.bl (if neg then !z9 x xs else z9 x xs)) H)
def rIn(K:W.Frag)(neg:Bool):R2:=fun x y H Q=>rIn_I K neg x y H Q
theorem Iu:Nd X (compareOp .In) (rIn X.K false):=by
 intro pins s σ H x y v u Q I rx ry h;obtain⟨p,xs,rfl,hq,fx,fs,q⟩:=h;cases ry;rcases hq with hq | hq
 ·obtain⟨its,r,pl,hz⟩:=I.list hq;refine SeqAt.in_listAt (rl x) pl.isList (fun w hw=>Co rx fx r fs w (by simpa using hw)) ⟨.bl _,H,I,rfl, ?_⟩;rw[show its.toArray.any (rl x)=its.any (rl x) by simp,Qa r fs];exact q
 ·obtain⟨its,r,pl,hz⟩:=I.tuple hq;refine SeqAt.in_tupleAt (rl x) pl (fun w hw=>Co rx fx r fs w (by simpa using hw)) ⟨.bl _,H,I,rfl, ?_⟩;rw[show its.toArray.any (rl x)=its.any (rl x) by simp,Qa r fs];exact q
theorem Jx:Nd X (compareOp .NotIn) (rIn X.K true):=by
 intro pins s σ H x y v u Q I rx ry h;obtain⟨p,xs,rfl,hq,fx,fs,q⟩:=h;cases ry;rcases hq with hq | hq
 ·obtain⟨its,r,pl,hz⟩:=I.list hq;refine SeqAt.notIn_listAt (rl x) pl.isList (fun w hw=>Co rx fx r fs w (by simpa using hw)) ⟨.bl _,H,I,rfl, ?_⟩;rw[show its.toArray.any (rl x)=its.any (rl x) by simp,Qa r fs];exact q
 ·obtain⟨its,r,pl,hz⟩:=I.tuple hq;refine SeqAt.notIn_tupleAt (rl x) pl (fun w hw=>Co rx fx r fs w (by simpa using hw)) ⟨.bl _,H,I,rfl, ?_⟩;rw[show its.toArray.any (rl x)=its.any (rl x) by simp,Qa r fs];exact q
inductive Hf(K:W.Frag)(xs:List V)(H:Hp)(Q:VK):Prop
 | mk(p ys)(Vg:xs=[.ref p])(Vk:(Z0 K H p ys\/Yv K H p ys))(V1:Q (.int ys.length) H)
theorem Zn:D9 X (.builtin "len") (fun xs H Q=>Hf X.K xs H Q):=by
 intro pins s σ H xs us Q I r h;obtain⟨p,ys,rfl,hq,q⟩:=h;obtain⟨u,rfl,rx⟩:=Tu r;cases rx;have hn:=Po;rcases hq with hq | hq
 ·obtain⟨its,r',pl,hz⟩:=I.list hq;have hlen:=r'.length;exact Calls.call_len_list pl.isList (by simp only[Dy]<;>omega) ⟨.int ys.length,H,I.tok _,⟨s.toks+1,by rw[Dy,hlen]⟩,q⟩
 ·obtain⟨its,r',pl,hz⟩:=I.tuple hq;have hlen:=r'.length;exact len_tuple pl (by simp only[Dy]<;>omega) ⟨.int ys.length,H,I.tok _,⟨s.toks+1,by rw[Dy,hlen]⟩,q⟩
inductive Hg(xs:List V)(H:Hp)(Q:VK):Prop
 | mk(z)(Vg:xs=[.str z])(Vk:z.length<=sizeLine)(V1:Q (.int z.length) H)
theorem Mh:D9 X (.builtin "len") (fun xs H Q=>Hg xs H Q):=by
 intro pins s σ H xs us Q I r h;obtain⟨z,rfl,hz,q⟩:=h;obtain⟨u,rfl,t,rfl⟩:=Tu r;have hn:=Po;exact len_str (by omega) ⟨.int z.length,H,I.tok _,⟨_,rfl⟩,q⟩
inductive Hk(K:W.Frag)(xs:List V)(H:Hp)(Q:VK):Prop
 | mk(p ys)(Vg:xs=[.ref p])(Vk:(Z0 K H p ys\/Yv K H p ys))(V1:∀l,H l=none->Q (.ref l) (Yq H l (.lst ys)))
theorem Ms:D9 X (.type "list") (fun xs H Q=>Hk X.K xs H Q):=by
 intro pins s σ H xs us Q I r h;obtain⟨p,ys,rfl,hq,q⟩:=h;obtain⟨u,rfl,rx⟩:=Tu r;cases rx
 have fin:∀(its:List Value),Yb ys its->ys.length<=sizeLine->∀(h':Heap) (c':Nat),(∀b o',s.heap.get? b=some o'->h'.get? b=some o') ->
   h'.get? s.heap.objs.size=some { cls:=.type "list",dict:=none,data:=.seq its.toArray c',slots:=#[] }->EP X pins σ Q (.ref s.heap.objs.size) { s with heap:=h' }:=fun its r' hz h' c' kp e =>
  ⟨.ref s.heap.objs.size,_,I.laid (t':=s.toks) kp (Vj _) (show Vq X.prog X.w _ h' _ (.lst ys) from⟨hz,its,c',r',e⟩),rfl,q _ (I.hok.fresh (Vj _))⟩
 rcases hq with hq | hq
 ·obtain⟨its,r',pl,hz⟩:=I.list hq;have hlen:=r'.length;obtain⟨o,ho,hc,n,hd⟩:=pl.isList;exact call_list_seq p (.inl rfl) ho hc hd (fun h' c' kp e=>fin its r' hz h' c' kp e) (by simp only[Dy]<;>omega)
 ·obtain⟨its,r',pl,hz⟩:=I.tuple hq;have hlen:=r'.length;obtain⟨o,ho,hc,n,hd⟩:=pl;exact call_list_seq p (.inr rfl) ho hc hd (fun h' c' kp e=>fin its r' hz h' c' kp e) (by simp only[Dy]<;>omega)
inductive Sh(K:W.Frag)(xs:List V)(H:Hp)(Q:VK):Prop
 | mk(p ys)(Vg:xs=[.ref p])(Vk:((Z0 K H p ys/\∀l,H l=none->Q (.ref l) (Yq H l (.tup ys)))\/(Yv K H p ys/\Q (.ref p) H)))
theorem Yl:D9 X (.type "tuple") (fun xs H Q=>Sh X.K xs H Q):=by
 intro pins s σ H xs us Q I r h;obtain⟨p,ys,rfl,h⟩:=h;obtain⟨u,rfl,rx⟩:=Tu r;cases rx;rcases h with ⟨hq,q⟩ | ⟨hq,q⟩
 ·obtain⟨its,r',pl,hz⟩:=I.list hq;have hlen:=r'.length;refine call_tuple_list pl.isList (fun h' kp=>?_) (by simp only[Dy]<;>omega);have I1:Zi X pins σ H { s with heap:=h' }:=I.kept (t':=s.toks) kp
  have I2:Zi X pins σ (Yq H h'.objs.size (.tup ys)) { s with heap:=h'.push { cls:=.type "tuple",data:=.seq its.toArray } } :=
   I1.laid (t':=s.toks) (fun b o e=>G4 _ e) (Vj _) (show Vq X.prog X.w _ _ _ (.tup ys) from⟨hz,its,r',Hc.new _ _⟩)
  exact⟨.ref h'.objs.size,_,I2,rfl,q _ (I1.hok.fresh (Vj _))⟩
 ·obtain⟨its,r',pl,hz⟩:=I.tuple hq;exact call_tuple_same pl ⟨.ref p,H,I,rfl,q⟩
def tyV(K:W.Frag)(T:String)(x:V)(H:Hp):Prop:=match x with
 | .str _=>T = "str"
 | .int _=>T = "int"
 | .ref p=>(T = "list" /\ ∃xs,Z0 K H p xs)\/(T = "tuple" /\ ∃o,K.lookup p=some o/\o.cls=.type "tuple" /\ o.dict=none) \/
   (T = "dict" /\ ((∃kvs,H p=some (.dK kvs))\/∃kvs,H p=some (.dT kvs)))\/(T = "set" /\ ∃S n,H p=some (.set S n))
 | _=>False
theorem Zwy{pins:Uv}{σ:St}{H:Hp}{s:Shared}{T:String}{x:V}{v:Value}(I:Zi X pins σ H s)(r:Z9 x v)(ty:tyV X.K T x H) :
  s.TypeIs v T/\∀a,v=.ref a->∃ob,s.heap.get? a=some ob/\ob.dict=none:=by
 cases x with
 | str z =>
  obtain⟨t,rfl⟩:=r;cases Zr ty;exact⟨typeIs_str s z t,fun _ e=>nomatch e⟩
 | int i =>
  obtain⟨t,rfl⟩:=r;cases Zr ty;exact⟨typeIs_int s i t,fun _ e=>nomatch e⟩
 | ref p =>
  cases r;rcases ty with ⟨rfl,xs,hq⟩ | ⟨rfl,o,hk,hc,hd⟩ | ⟨rfl,hk⟩ | ⟨rfl,S,n,hk⟩
  ·obtain⟨its,_,pl,_⟩:=I.list hq;refine⟨pl.isList.typeIs,fun a e=>?_⟩;cases e;obtain⟨o,n,e,c,hd,_⟩:=pl;exact⟨o,e,hd⟩
  ·refine⟨⟨o,I.kIn p o hk,hc⟩,fun a e=>?_⟩;cases e;exact⟨o,I.kIn _ o hk,hd⟩
  ·have z:∃o,s.heap.get? p=some o/\o.ExactDict:=by
    rcases hk with ⟨kvs,hk⟩ | ⟨kvs,hk⟩
    ·obtain⟨_,_,_,_,o,_,_,e,ex,_⟩:=I.hok p _ hk;exact⟨o,e,ex⟩
    ·obtain⟨_,_,_,_,o,_,_,e,ex,_⟩:=I.hok p _ hk;exact⟨o,e,ex⟩
   obtain⟨o,e,ex⟩:=z;refine⟨⟨o,e,ex.1⟩,fun a e2=>?_⟩;cases e2;exact⟨o,e,ex.2.1⟩
  ·obtain⟨o,_,_,_,e,ex,_⟩:=I.hok p _ hk;refine⟨⟨o,e,ex.1⟩,fun a e2=>?_⟩;cases e2;exact⟨o,e,ex.2.1⟩
 | _=>exact False.elim ty
def tBM0(K:W.Frag)(T:String)(r:V->List V->Hp->VK->Prop)(to:TE):TE:=fun σ H Q=>to σ H fun x H1=>tyV K T x H1/\r x [] H1 Q
def tBM(K:W.Frag)(T:String)(r:V->List V->Hp->VK->Prop)(to:TE)(t:TA):TE:=fun σ H Q=>to σ H fun x H1=>tyV K T x H1/\t σ H1 fun xs H2=>r x xs H2 Q
variable{o e:Expr}{es:List Expr}{to:TE}{t:TA}{name:Str}{apos cpos:Pos}{T id:String}{r:V->List V->Hp->VK->Prop}
theorem pe_bm0(pa:PlainAttrs T)(slot:Slot T name id)(hty:typeOf (.builtin id)=pure (.type "method_descriptor"))(hm:MtR X id r)(ho:PE X o to)
  (Zkx:attributeBase o name X.env (eval o X.env)=eval o X.env:=by rfl) (Zy5:(apos.endLine == cpos.line)=true:=by rfl):PE X (.Call (.Attribute o name apos) [] [] cpos) (tBM0 X.K T r to):=by
 intro pins s σ H Q I h;refine wpAny_Call_method0_late Zkx Zy5 (V0 (ho pins s σ H _ I h) fun v s1 ⟨x,H1,I1,r1,ty,q1⟩=>?_);obtain⟨h1,h2⟩:=Zwy I1 r1 ty;exact⟨T,id,pa,slot,hty,h1,h2,Calls.callWith_builtin rfl (PySem.evalArgs_none (hm pins s1 σ H1 x [] v [] Q I1 r1 .nil q1))⟩
theorem oi(pa:PlainAttrs T)(slot:Slot T name id)(hty:typeOf (.builtin id)=pure (.type "method_descriptor"))(hm:MtR X id r)(ho:PE X o to)(ha:PA X (e::es) t)
  (Zkx:attributeBase o name X.env (eval o X.env)=eval o X.env:=by rfl)
  (hfew:((backTo cpos (starEach (e::es) X.env)).all (fun x=>!x.1) && (backToKw cpos (keywordEach [] X.env)).all (fun x=>x.1.isSome)
   && decide ((e::es).length+([]:List Keyword).length+(if ([]:List Keyword).isEmpty then 0 else 1)<30))=true:=by rfl)
  (Zy5:(apos.endLine == cpos.line)=true:=by rfl) (hs:starEach (e::es) X.env=(false,eval e X.env)::starEach es X.env:=by rfl) (hplain:(backTo cpos (starEach es X.env)).any (·.1)=false:=by rfl) :
  PE X (.Call (.Attribute o name apos) (e::es) [] cpos) (tBM X.K T r to t):=by
 intro pins s σ H Q I h;refine wpAny_Call_method_late Zkx hfew Zy5 rfl (V0 (ho pins s σ H _ I h) fun v s1 ⟨x,H1,I1,r1,ty,q1⟩=>?_);obtain⟨h1,h2⟩:=Zwy I1 r1 ty;refine⟨T,id,pa,slot,hty,h1,h2, ?_⟩;have hA:=ha cpos pins s1 σ H1 _ I1 q1;rw[hs]at hA ⊢;refine Calls.callWith_builtin (by show (false || (backTo cpos (starEach es X.env)).any (·.1))=false;rw[hplain]<;>rfl) (Calls.evalArgs_plain ?_);exact V0 hA fun us s2 ⟨vs,H2,I2,r2,q2⟩=>hm pins s2 σ H2 x vs v us Q I2 r1 r2 q2
end
def MtM(X:Cx)(id:String)(r:V->List V->Hp->VK->Prop):Prop :=
 ∀(pins:Uv) (s:Shared) (σ:St) (H:Hp) (x:V) (xs:List V) (v:Value) (us:List Value) (Q:VK),Zi X pins σ H s->Z9 x v->Yb xs us->r x xs H Q ->
  wpAny (model X.prog X.w) X.A (call (.builtin id) (v::us)) (EP X pins σ Q) X.xe s
theorem Yb.one:∀{x:V} {us:List Value},Yb [x] us->∃u,us=[u]/\Z9 x u
 | _,_,.cons r .nil=>⟨_,rfl,r⟩
theorem Yb.zero:∀{us:List Value},Yb [] us->us=[]
 | _,.nil=>rfl
theorem Yb.dropLast{xs:List V}{us:List Value}(h:Yb xs us):Yb xs.dropLast us.dropLast:=by
 induction h with
 | nil=>exact .nil
 | cons r t ih =>
  cases t with
  | nil=>exact .nil
  | cons q t'=>exact .cons r ih
theorem Yb.reverse{xs:List V}{us:List Value}(h:Yb xs us):Yb xs.reverse us.reverse:=by
 induction h with
 | nil=>exact .nil
 | cons r t ih=>rw[List.reverse_cons,List.reverse_cons];exact Yb.append ih (.cons r .nil)
theorem rn{α:Type}(l:List α):l.eraseIdx (l.length - 1)=l.dropLast:=by
 induction l with
 | nil=>rfl
 | cons a r ih =>
  cases r with
  | nil=>rfl
  | cons b r =>
   have e:(a::b::r).length - 1=((b::r).length - 1)+1:=by
    have h1:(a::b::r).length=r.length+2:=rfl;have h2:(b::r).length=r.length+1:=rfl;omega
   rw[e,List.eraseIdx_cons_succ,ih]
   all_goals rfl
section
variable{X:Cx}{pins:Uv}{σ:St}{H:Hp}{s:Shared}{l b:Addr}{xs ys zs:List V}
theorem Zi.lset{its its':List Value}{n:Nat}{f:Array Value->Array Value}{t':Nat}(I:Zi X pins σ H s)(hH:H l=some (.lst xs))
  (e:s.heap.get? l=some { cls:=.type "list",data:=.seq its.toArray n }) (hf:f its.toArray=its'.toArray) (hv:Yb ys its') (hz:ys.length<=sizeLine) :
  Zi X pins σ (Yq H l (.lst ys)) { s with heap:=s.heap.update l (Obj.mapSeq f),toks:=t' }:=by
 have q:=PySem.IsL.update e f;rw[hf]at q;refine I.write (x:=l) (e:=l) (by rw[hH];exact trivial) (.inl rfl) (fun b' u hb hu=>(Heap.get?_update_other s.heap (Obj.mapSeq f) (Ne.symm hb)).trans hu) ⟨_,q⟩ ?_;exact⟨hz,its',_,hv,q⟩
theorem Zi.lnew{its:List Value}{t':Nat}(I:Zi X pins σ H s)(hv:Yb ys its)(hz:ys.length<=sizeLine) :
  Zi X pins σ (Yq H s.heap.objs.size (.lst ys)) { s with heap:=s.heap.push { cls:=.type "list",data:=.seq its.toArray },toks:=t' } :=
 I.laid (fun _ _ q=>G4 _ q) (Vj _) ⟨hz,its,0,hv,Rj _ rfl⟩
theorem Zi.fresh(I:Zi X pins σ H s):H s.heap.objs.size=none:=I.hok.fresh (Vj _)
theorem Zi.lstM(I:Zi X pins σ H s)(hH:H l=some (.lst xs)):xs.length<=sizeLine/\∃(its:List Value) (n:Nat),Yb xs its/\xs.length=its.length/\s.heap.get? l=some { cls:=.type "list",data:=.seq its.toArray n }:=by
 obtain⟨z,its,n,r,e⟩:=I.hok l _ hH;exact⟨z,its,n,r,r.length,e⟩
theorem Zyk{n:Nat}(h:n<=sizeLine):Builtin.List.listTooLong n=false:=by
 unfold Builtin.List.listTooLong;exact My (by omega)
end
section
variable{X:Cx}
inductive Zxe(x:V)(vs:List V)(H:Hp)(Q:VK):Prop
 | mk(l xs y)(Vg:x=.ref l)(Vk:vs=[y])(V1:H l=some (.lst xs))(Jk:xs.length<sizeLine)(Mn:Q .non (Yq H l (.lst (xs++[y]))))
def Zf1:V->List V->Hp->VK->Prop:=fun x vs H Q=>Zxe x vs H Q
theorem Pu:MtM X "list.append" Zf1:=by
 intro pins s σ H x vs v us Q I rx rv h;obtain⟨l,xs,y,rfl,rfl,hH,hz,q⟩:=h;cases rx;obtain⟨u,rfl,ru⟩:=rv.one;obtain⟨z,its,n,r,hl,e⟩:=I.lstM hH;refine call_meets F.slot_list_append ⟨_,e,rfl⟩ F.entry_list_append (F.args_list_append_2 _ _) (PySem.list_append l its.toArray n u (by rw[Dy];omega)) ⟨e, ?_⟩;refine⟨.non,_,I.lset (its':=its++[u]) hH e (by simp) (r.append (.cons ru .nil)) ?_,rfl,q⟩;rw[Xs,List.length_singleton];omega
inductive Zxo(x:V)(vs:List V)(H:Hp)(Q:VK):Prop
 | mk(l b xs zs)(Vg:x=.ref l)(Vk:vs=[.ref b])(V1:H l=some (.lst xs))(Jk:H b=some (.lst zs))(Mn:xs.length+zs.length<=sizeLine)(Wb:Q .non (Yq H l (.lst (xs++zs))))
def Zfa:V->List V->Hp->VK->Prop:=fun x vs H Q=>Zxo x vs H Q
theorem Ie:MtM X "list.extend" Zfa:=by
 intro pins s σ H x vs v us Q I rx rv h;obtain⟨l,b,xs,zs,rfl,rfl,hH,hB,hz,q⟩:=h;cases rx;obtain⟨u,rfl,ru⟩:=rv.one;cases ru;obtain⟨z,its,n,r,hl,e⟩:=I.lstM hH;obtain⟨z2,yx,n2,r2,hl2,e2⟩:=I.lstM hB;have hsz:its.toArray.size+yx.toArray.size<=sizeLine:=by rw[Dy,Dy];omega
 have hlong:¬ (!its.toArray.isEmpty && Builtin.List.listTooLong (its.toArray.size+yx.toArray.size))=true:=by
  rw[Zyk hsz,Bool.and_false];exact T7
 refine call_meets F.slot_list_extend ⟨_,e,rfl⟩ F.entry_list_extend (F.args_list_extend_2 _ _)
  (AutoSeq1.list_extend_list_list_0 l its.toArray n b yx.toArray n2 hlong (by rw[Dy];omega) (by omega)) ⟨e,e2, ?_⟩
 refine⟨.non,_,I.lset (its':=its++yx) hH e (by simp) (r.append r2) ?_,rfl,q⟩;rw[Xs];omega
inductive rPop_I(x:V)(vs:List V)(H:Hp)(Q:VK):Prop
 | mk(l xs y)(Vg:x=.ref l)(Vk:vs=[])(V1:H l=some (.lst xs))(Jk:xs[xs.length - 1]?=some y)(Mn:Q y (Yq H l (.lst xs.dropLast)))
def rPop:V->List V->Hp->VK->Prop:=fun x vs H Q=>rPop_I x vs H Q
theorem mt_pop:MtM X "list.pop" rPop:=by
 intro pins s σ H x vs v us Q I rx rv h;obtain⟨l,xs,y,rfl,rfl,hH,hy,q⟩:=h;cases rx;have hus:=rv.zero;subst hus;obtain⟨z,its,n,r,hl,e⟩:=I.lstM hH;obtain⟨u,hu,ru⟩:=r.get hy
 have hy':its.toArray[its.toArray.size - 1]?=some u:=by
  show its.toArray[its.length - 1]?=some u;rw[<-Array.getElem?_toList, <-hl];exact hu
 refine call_meets F.slot_list_pop ⟨_,e,rfl⟩ F.entry_list_pop (F.args_list_pop_1 _) (MeetsSeq.list_pop_last l its.toArray n u hy' (by rw[Dy];omega)) ⟨e, ?_⟩;refine⟨y,_,I.lset (its':=its.dropLast) hH e ?_ r.dropLast ?_,ru,q⟩
 ·show its.toArray.eraseIdxIfInBounds (its.toArray.size - 1)=its.dropLast.toArray;rw[Dy,List.eraseIdxIfInBounds_toArray,rn]
 ·rw[List.length_dropLast];omega
inductive rCat_I(x:V)(y:V)(H:Hp)(Q:VK):Prop
 | mk(l b xs zs)(Vg:x=.ref l)(Vk:y=.ref b)(V1:H l=some (.lst xs))(Jk:H b=some (.lst zs))(Mn:xs.length+zs.length<=sizeLine)(Wb:∀p,H p=none->Q (.ref p) (Yq H p (.lst (xs++zs))))
def rCat:R2:=fun x y H Q=>rCat_I x y H Q
theorem Zv9:Nd X (binaryOp .Add) rCat:=by
 intro pins s σ H x y v u Q I rx ry h;obtain⟨l,b,xs,zs,rfl,rfl,hH,hB,hz,q⟩:=h;cases rx;cases ry;obtain⟨z,its,n,r,hl,e⟩:=I.lstM hH;obtain⟨z2,yx,n2,r2,hl2,e2⟩:=I.lstM hB;refine PySem.P.add_list e e2 ?_ (by rw[Dy,Dy];omega);have ea:its.toArray++yx.toArray=(its++yx).toArray:=by simp
 rw[ea];exact⟨.ref _,_,I.lnew (t':=s.toks) (r.append r2) (by rw[Xs];omega),rfl,q _ I.fresh⟩
theorem Zbr{α:Type}(xs:List α)(k:Nat):(List.replicate k xs).flatten.length=k * xs.length:=by
 induction k with
 | zero=>simp
 | succ k ih=>rw[List.replicate_succ,List.flatten_cons,Xs,ih,Nat.succ_mul,Nat.add_comm]
end
section
variable{prog:Program}{w:World}{A:Around}{E:Vt}{s:Shared}
end
section
variable{X:Cx}
end
end L2
namespace Att
open PySem PySem.W PySem.Calls PyProof.Rows
theorem Sd{P:Params}{h:Heap}:∀(ns:List Int) (vs:List Value),WellAll P h vs (ns.map WData.int)->IntsAre vs ns:=by
 intro ns
 induction ns with
 | nil =>
  intro vs w;rw[List.map_nil]at w;cases w;exact .nil
 | cons n ns ih =>
  intro vs w;rw[R5]at w;cases w with
  | cons a b =>
   cases a;exact .cons _ _ (ih _ b)
theorem Zxs{l:OpenLaw}{n:Nat}(hn:l.most=some n){P:Params}{h:Heap}{args:List WData}{vals:List Value}
  (Zb7:l.row.toRowW.claim.pre args=true) (hwl:WellAll P h vals args) :
  ∃a vs ns,vals=[Value.ref a]/\args=[WData.list (ns.map WData.int)]/\h.get? a=some { cls:=.type "list",data:=.seq vs.toArray }/\IntsAre vs ns/\ns.length<=n:=by
 have hsh:WShape.hasAll [] args [.list .int]=true:=(pre_splitW Zb7).1;have hc:l.pre.holds [] { args:=args }=true:=(pre_splitW Zb7).2;obtain⟨d,r,rfl,h1,h2⟩:=hasAllW_cons hsh;obtain rfl:=hasAllW_nil h2;obtain⟨xs,rfl,h3⟩:=hasW_list h1;obtain⟨ns,rfl⟩:=items_int h3
 have hlen:ns.length<=n:=by
  unfold OpenLaw.pre at hc
  have h4:(WTm.not (.lt (.lit (.int (n:Int))) (.len (.arg 0)))).holds [] { args:=[.list (ns.map .int)] }=true:=by
   have h4:=(holds_andW hc).1;rw[hn]at h4;exact h4
  have h5:=condW_of h4 (w_not (w_lt w_lit (w_len_list (w_arg rfl))));rw[Yp]at h5;refine Nat.le_of_not_lt fun q=>?_;have q':(n:Int)<((ns.length:Nat):Int):=by omega
  first
   | (rw[Gq q']at h5;exact absurd h5 (by decide))
   | (simp at h5;omega)
 cases hwl with
 | cons w1 w2 =>
  cases w2;cases w1 with
  | list ho Zkq=>exact⟨_,_,ns,rfl,rfl,ho,Sd ns _ Zkq,hlen⟩
theorem Zx0(l:OpenLaw)(args:List WData):l.row.toRowW.claim.post args (.bool true) args=true :=
 postW_of (r:=l.row.toRowW) (X:=(true == true))
  (show WShape.has [] (.bool true) .bool=true by first | rfl | decide | simp[WShape.has,WShape.arms,WShape.armsAll])
  (show (WTm.eq .res (.lit (.bool true))).value [] { args:=args,res:=some (.bool true),after:=args }=some (.bool (true == true)) from w_eq_bool (w_res rfl) w_lit) rfl
theorem kr{l:OpenLaw}{n:Nat}{q:Program}{loose:List Str}{XP:(Str->Option Value)->Heap->Prop}{YP:World->Heap->Prop}{d:DefRec}
  (hn:l.most=some n) (hdf:d.params.defaults=[])
  (call:∀(w:World) (s₀ s₁:Shared) (mg mb:Bw) (fa:Addr) (o:Obj) (pm cd doc:Value) (a:Addr) (vs:List Value) (ns:List Int),
   Ground q loose [] XP w s₀ mg mb s₁.heap->YP w s₁.heap ->
   s₁.heap.get? fa=some o->o.data=.func (docDef d.name d.params d.body d.scope pm cd doc)->s₁.heap.CodeRec cd d.name->mg d.name=some (.ref fa) ->
   s₁.heap.get? a=some { cls:=.type "list",data:=.seq vs.toArray }->IntsAre vs ns->ns.length<=n->s₁.gens=#[] ->
   codeAny (model l.prog w) callerA (.call (.ref fa) ⟨[.ref a],[]⟩) (fun r s'=>r=.ok (.ret (.bool true))/\OldK s₁.heap s'.heap/\s'.os=s₁.os/\AllBare s'.gens) s₁) :
  WalkO q loose XP YP l.row.toRowW d [] (fun f vs=>PySem.call f vs):=by
 intro w s₀ s₁ mg mb G Y fa o pm cd doc dV kV ho hd hcd hD hmg hg args vals as Zb7 hlay hrd hwl hlo;obtain rfl:dV=.none:=Dflts.none hD hdf;obtain rfl:kV=.none:=Dflts.noKw hD;obtain⟨a,vs,ns,rfl,rfl,hobj,hints,hlen⟩:=Zxs hn Zb7 hwl;refine enter_call (codeAny_mono (call w s₀ s₁ mg mb fa o pm cd doc a vs ns G Y ho (fd_plain hd) hcd hmg hobj hints hlen hg) fun r s' hq=>?_);obtain⟨rfl,h2,h3,h4⟩:=hq;exact⟨.inl ⟨.bool true,.bool true,[],rfl,fun _=>rfl,.bool true,Zx0 l _,fun _=>⟨List.Pairwise.nil,fun _ hm=>(nomatch hm)⟩⟩,h2,h3,h4⟩
section
variable{prog:Program}{w:World}{A:Around}{E:Vt}{s:Shared}{K:Frag}
end
end Att
namespace L2
open PySem PySem.Spec PyProof.Rows
theorem Iv:∀{vs:List Value} {ns:List Int},IntsAre vs ns->Yb (ns.map V.int) vs
 | _,_,.nil=>.nil
 | _,_,.cons n t h=>.cons ⟨t,rfl⟩ (Iv h)
def Only(H:Hp):Prop:=∀b,H b=none\/∃o xs,H b=some (.frz o (.lst xs))
theorem Zyu{P:Program}{w:World}{K:W.Frag}{mg mb:Bw}{CX:fh}{k:Nat}{fa a:Addr}{fd:FuncData}{x:Str}{sp:Sp}{s₁:Shared}{vs:List Value}{ns:List Int}
  (KX:K.In s₁.heap) (hns:s₁.heap.Ns mainGlobals mg) (hb:s₁.heap.Ns builtinsNs mb) (hbb:∀x:Str,x ≠ "__name__" -> mb x=bootBuiltins x) (hlim:s₁.heap.NoLimit) (hg:s₁.gens=#[])
  (ha:s₁.heap.get? a=some { cls:=.type "list",data:=.seq vs.toArray }) (hi:IntsAre vs ns) (hl:ns.length<=sizeLine) (hr:Ur k callerA)
  (F:∀base:Heap,K.In base->base.Ns mainGlobals mg->Yn P w K mg base CX k fa fd [x] sp) (hbind:∀(s:Shared) (u:Value),BindsTo s fd ⟨[u],[]⟩ [(x,u)])
  (hsp:∀H:Hp,Only H->Z0 K H a (ns.map V.int)->sp [.ref a] H (fun v _=>v=.bl true) fun _ _ _=>False)
  (hCX:∀H e s',CX [] H s₁ (fun _ _ _=>False) e s'->False) :
  codeAny (model P w) callerA (.call (.ref fa) ⟨[.ref a],[]⟩) (fun r s'=>r=.ok (.ret (.bool true))/\OldK s₁.heap s'.heap/\s'.os=s₁.os/\AllBare s'.gens) s₁:=by
 have rv:=Iv hi;have lenV:=hi.length
 have core:∀H:Hp,Only H->Z0 K H a (ns.map V.int)->R6 P w H s₁.heap->(∀b,H b≠none->b=a)->(H a≠none->K.lookup a=none) ->
   codeAny (model P w) callerA (.call (.ref fa) ⟨[.ref a],[]⟩) (fun r s'=>r=.ok (.ret (.bool true))/\OldK s₁.heap s'.heap/\s'.os=s₁.os/\AllBare s'.gens) s₁:=by
  intro H hO hS hok hA hK;have base_of:∀{b:Addr} {o:Obj},s₁.heap.get? b=some o->H b=none->(xj s₁.heap H).get? b=some o:=fun e n=>Zy8 e n
  have noA:∀{b:Addr} {o:Obj} {es:Array DictEntry} {ep:Nat},s₁.heap.get? b=some o->o.data=.dict es ep->H b=none:=fun {b o es ep} e d=>by
   cases q:H b with
   | none=>rfl
   | some u =>
    have e':b=a:=hA b (by rw[q];simp);subst e';rw[ha]at e;cases e;have d':Data.seq vs.toArray _=Data.dict es ep:=d;cases d'
  have nsK:∀{b:Addr} {m:Bw},s₁.heap.Ns b m->(xj s₁.heap H).Ns b m:=fun {b m} ⟨o,es,ep,e,d,r⟩=>⟨o,es,ep,base_of e (noA e d),d,r⟩
  have hKb:K.In (xj s₁.heap H):=fun b o e=>base_of (KX b o e) (by
   cases q:H b with
   | none=>rfl
   | some u =>
    have e':b=a:=hA b (by rw[q];simp);subst e';rw[hK (by rw[q];simp)]at e;cases e)
  have hM:Mod K mg (xj s₁.heap H):=⟨hKb,nsK hns,⟨mb,nsK hb,hbb⟩,let ⟨mc,h1,h2⟩:=hlim;⟨mc,nsK h1,h2⟩⟩;have e0:uh P w K mg (xj s₁.heap H) callerA [] s₁ H:=⟨rfl,hM,fun b o e=>Zbk e,Nat.le_of_eq (Zqh _ _),trivial,fun b hb=>absurd (show b∈([]:List Addr) from hb) (by simp),hok,.of_eq hg⟩;refine codeAny_mono ((F _ hKb (nsK hns)).run callerA [] s₁ H ⟨[.ref a],[]⟩ [.ref a] [.ref a] _ _ hr e0 (hbind s₁ (.ref a)) (.cons rfl .nil) (hsp H hO hS)) fun r s' h=>?_;cases r with
  | error e=>exact(hCX H e s' h).elim
  | ok fl =>
   cases fl with
   | next=>exact False.elim h
   | brk=>exact False.elim h
   | cont=>exact False.elim h
   | ret u =>
    obtain⟨v,H',os,bare,un,hok',r',q⟩:=h;have q':v=.bl true:=q;subst q';obtain rfl:u=Value.bool true:=r';refine⟨rfl,OldK.of_keep fun b o e=>?_,os,bare⟩;cases q:H b with
    | none=>exact un.keep b o e q (by intro z;exact absurd (show b∈([]:List Addr) from z) (by simp)) (by simp)
    | some u =>
     rcases hO b with z | ⟨ob,xs,z⟩
     ·rw[q]at z;cases z
     ·have z2:=un.frzs b ob _ z;obtain⟨e1,_⟩:=hok b _ z;obtain⟨e2,_⟩:=hok' b _ z2;rw[e]at e1;cases e1;exact e2
 cases hk:K.lookup a with
 | some o =>
  have e:=KX a o hk;rw[ha]at e;cases e;refine core (fun _=>none) (fun _=>.inl rfl) (.inr ⟨_,vs.toArray,_,hk,rfl,rfl,rfl,by rw[Dy,lenV];exact hl,by simpa using rv⟩) (fun b u z=>by have z':(none:Option HO)=some u:=z;cases z') (fun b z=>absurd rfl z) fun z=>absurd rfl z
 | none =>
  refine core (fun b=>if b=a then some (.frz { cls:=.type "list",data:=.seq vs.toArray } (.lst (ns.map V.int))) else none) (fun b=>?_) (.inl (.inr ⟨{ cls:=.type "list",data:=.seq vs.toArray },if_pos rfl⟩)) (fun b u z=>?_) (fun b z=>?_) fun _=>hk
  ·by_cases hb:b=a
   ·exact .inr ⟨_,_,if_pos hb⟩
   ·exact .inl (if_neg hb)
  ·by_cases hb:b=a
   ·have z':=(if_pos hb).symm.trans z;cases z';subst hb;exact⟨ha,by rw[Yp];exact hl,vs,_,rv,ha⟩
   ·have z':=(if_neg hb).symm.trans z;cases z'
  ·by_cases hb:b=a
   ·exact hb
   ·exact absurd (if_neg hb) z
theorem Zgu{l:W.OpenLaw}{n k:Nat}{q:Program}{loose:List Str}{XP:(Str->Option Value)->Heap->Prop}{YP:World->Heap->Prop}{d:DefRec}{K:Params->W.Frag}{CX:World->fh}{sp:World->Sp}{x:Str}
  (hn:l.most=some n) (hn2:n<=sizeLine) (hdf:d.params.defaults=[]) (hr:Ur k callerA)
  (hY:∀(w:World) (h:Heap),YP w h->(K w.params).In h)
  (F:∀(w:World) (mg:Bw) (fa:Addr) (h:Heap),(K w.params).In h->h.Ns mainGlobals mg->mg d.name=some (.ref fa) ->
   ∃fd:FuncData,(∀(s:Shared) (u:Value),BindsTo s fd ⟨[u],[]⟩ [(x,u)]) /\
    ∀base:Heap,(K w.params).In base->base.Ns mainGlobals mg->Yn l.prog w (K w.params) mg base (CX w) k fa fd [x] (sp w))
  (hsp:∀(w:World) (H:Hp) (a:Addr) (ns:List Int),ns.length<=n->Only H->Z0 (K w.params) H a (ns.map V.int)->sp w [.ref a] H (fun v _=>v=.bl true) fun _ _ _=>False)
  (hCX:∀(w:World) (H:Hp) (s:Shared) (e:Value) (s':Shared),CX w [] H s (fun _ _ _=>False) e s'->False) :
  W.WalkO q loose XP YP l.row.toRowW d [] (fun f vs=>PySem.call f vs):=by
 refine Att.kr hn hdf fun w s₀ s₁ mg mb fa o pm cd doc a vs ns G Y ho hd hcd hmg hobj hints hlen hg=>?_;have KX:=hY w _ Y;obtain⟨fd,hb,hF⟩:=F w mg fa _ KX G.T.g hmg;exact Zyu KX G.T.g G.T.b G.T.builtins G.T.nolimit hg hobj hints (Gw hlen hn2) hr hF hb (fun H hO hS=>hsp w H a ns hlen hO hS) fun H e s'=>hCX w H s₁ e s'
abbrev Je:fh:=fun _ _ _ _ _ _=>False
abbrev E0:XK:=fun _ _ _=>False
theorem Zdj{X:Cx}:pf Je X E0:=fun _ _ _ _ _ _ _ h=>h.elim
structure Fun(K:W.Frag)(x qual:Str)(st:Stmt)(f:Addr)(fd:FuncData):Prop where
 ex:∃(oc:Value) (od:Option Addr) (kV doc pm:Value) (an:Option Addr) (cdv ct:Value) (osl:Array (Option Value)),
  fd=W.fnOf x qual (Dh st) (Gs st) (Zv st) .none kV doc pm an cdv ct/\K.lookup f=some ⟨oc,od,.func fd,osl⟩/\W.codeIn K cdv qual=true
 kp:W.keepIn K (.ref f)=true
section
variable{P:Program}{w:World}{K:W.Frag}{mg:Bw}{base:Heap}
theorem Fun.ok{x qual:Str}{st:Stmt}{f:Addr}{fd:FuncData}{N ps:List Str}{k:Nat}{sp:Sp}(F:Fun K x qual st f fd)(S:Zp N ps (Zv st))(len:∀vs H Q E,sp vs H Q E->vs.length=ps.length)
  (Zkz:∀(cdv:Value) (A:Around) (outer:List Env) (s:Shared) (H:Hp) (vs:List V) (Q:VK) (E:XK),Ur k (A.deeper (envOfC qual (Zv st) s.heap.objs.size f cdv))->sp vs H Q E ->
   ∃t,jy (Zq6 Je P w K mg base N qual (Zv st) f cdv A outer s H E).nox (Gs st) t/\t { nx:=fun _ H'=>Q .non H',rt:=Q } (start N vs) H):Yn P w K mg base Je (k+1) f fd ps sp:=by
 obtain⟨oc,od,kV,doc,pm,an,cdv,ct,osl,rfl,lk,hcd⟩:=F.ex;refine fn_of lk hcd S len fun A outer s H vs Q E hr hsp=>?_;obtain⟨t,h,q⟩:=Zkz cdv A outer s H vs Q E hr hsp;exact⟨t,h.nox,q⟩
theorem Fun.binds{x qual:Str}{st:Stmt}{f:Addr}{fd:FuncData}{ps:List Str}(F:Fun K x qual st f fd)
  (h:∀(kV doc pm:Value) (an:Option Addr) (cdv ct:Value) (us:List Value),us.length=ps.length->bindArgs (W.fnOf x qual (Dh st) (Gs st) (Zv st) .none kV doc pm an cdv ct) ⟨us,[]⟩=pure (ps.zip us)):G5 K fd ps []:=by
 obtain⟨oc,od,kV,doc,pm,an,cdv,ct,osl,rfl,lk,hcd⟩:=F.ex;exact .all (h kV doc pm an cdv ct)
theorem Z3{x qual:Str}{st:Stmt}{f:Addr}{oc:Value}{od an:Option Addr}{osl:Array (Option Value)}{kV doc pm cdv ct:Value}(l:K.lookup f=some ⟨oc,od,.func (W.fnOf x qual (Dh st) (Gs st) (Zv st) .none kV doc pm an cdv ct),osl⟩)
  (c:W.codeIn K cdv qual=true) (k:W.keepIn K (.ref f)=true):Fun K x qual st f (W.fnOf x qual (Dh st) (Gs st) (Zv st) .none kV doc pm an cdv ct):=⟨⟨oc,od,kV,doc,pm,an,cdv,ct,osl,rfl,l,c⟩,k⟩
end
theorem To{A:Around}{k:Nat}(hr:Ur k A):A.units+1<cLine:=Iz (Nat.add_le_add_left (by decide:1<=64) _) hr.units
theorem Yi{n:Nat}(h:n<=1000):n<sizeLine:=Iz h (by decide)
theorem sz(n:Nat)(h:n<=sizeLine:=by decide):n<=sizeLine:=h
theorem Ur.m{j k:Nat}{A:Around}(r:Ur k A)(h:j<=k:=by omega):Ur j A:=r.mono h
section
variable{X:Cx}
theorem pv(i:Nat){x:Str}{pos:Pos}(hN:X.N[i]?=some x:=by rfl)(hv:Vis X.env.scope x:=by first | exact Or.inl rfl | exact Or.inr (Or.inl rfl) | exact Or.inr (Or.inr rfl))(hd:(x == ("__debug__" : Str))=false:=by decide)
  (hcd:(x == ("__classdict__" : Str))=false:=by decide):PE X (.Name x pos) (Zxv i):=pe_var hN hv hd hcd
end
theorem Y6{A B:Prop}(h:B):if false=true then A else B:=by
 rw[if_neg T7];exact h
theorem Zu{A B:Prop}(h:A):if true=true then A else B:=by
 rw[if_pos rfl];exact h
theorem Vw{c A B:Prop}[Decidable c](h1:c->A)(h2:¬ c->B):if c then A else B:=by
 by_cases h:c
 ·rw[if_pos h];exact h1 h
 ·rw[if_neg h];exact h2 h
def Zw(H H':Hp):Prop:=∀b o,H b=some o->H' b=some o
theorem Zw.refl(H:Hp):Zw H H:=fun _ _ h=>h
theorem Zw.trans{H H1 H2:Hp}(a:Zw H H1)(b:Zw H1 H2):Zw H H2:=fun c o h=>b c o (a c o h)
theorem Zw.free{H H':Hp}(e:Zw H H'){l:Addr}(h:H' l=Option.none):H l=Option.none:=by
 cases q:H l with
 | none=>rfl
 | some o =>
  rw[e l o q]at h;cases h
theorem Zw.seq{K:W.Frag}{H H':Hp}{a:Addr}{xs:List V}(e:Zw H H')(h:Z0 K H a xs):Z0 K H' a xs:=by
 rcases h with (h | ⟨o,h⟩) | h
 ·exact .inl (.inl (e _ _ h))
 ·exact .inl (.inr ⟨o,e _ _ h⟩)
 ·exact .inr h
inductive D where
 | non | bl(b:Bool) | int(i:Int) | str(x:Str) | tup(xs:List D) | lst(xs:List D)
mutual
def Gp(K:W.Frag)(H:Hp):D->V->Prop
 | .non,v=>v=.non
 | .bl b,v=>v=.bl b
 | .int i,v=>v=.int i
 | .str x,v=>v=.str x
 | .tup ds,v=>∃a vs,v=.ref a/\Yv K H a vs/\Vy K H ds vs
 | .lst ds,v=>∃a vs,v=.ref a/\Z0 K H a vs/\Vy K H ds vs
def Vy(K:W.Frag)(H:Hp):List D->List V->Prop
 | [],vs=>vs=[]
 | d::ds,vs=>∃v r,vs=v::r/\Gp K H d v/\Vy K H ds r
end
mutual
def Ml:D->D->Bool
 | .non,.non=>true
 | .bl a,.bl b=>a == b
 | .bl a,.int b=>(if a then 1 else 0) == b
 | .int a,.bl b=>a == (if b then 1 else 0)
 | .int a,.int b=>a == b
 | .str a,.str b=>a == b
 | .tup xs,.tup ys=>Ss xs ys
 | .lst xs,.lst ys=>Ss xs ys
 | _,_=>false
def Ss:List D->List D->Bool
 | [],[]=>true
 | x::xs,y::ys=>Ml x y && Ss xs ys
 | _,_=>false
end
mutual
def N2:D->Nat
 | .tup xs=>C5 xs+1
 | .lst xs=>C5 xs+1
 | _=>0
def C5:List D->Nat
 | []=>0
 | d::ds=>max (N2 d) (C5 ds)
end
mutual
theorem yu:∀d:D,Ml d d=true
 | .non=>rfl
 | .bl b=>by simp[Ml]
 | .int b=>by simp[Ml]
 | .str b=>by simp[Ml]
 | .tup xs=>by simp only[Ml];exact P6 xs
 | .lst xs=>by simp only[Ml];exact P6 xs
theorem P6:∀d:List D,Ss d d=true
 | []=>rfl
 | x::xs=>by simp only[Ss,yu x,P6 xs,Bool.and_self]
end
theorem Vy.length{K:W.Frag}{H:Hp}:∀{ds:List D} {vs:List V},Vy K H ds vs->ds.length=vs.length
 | [],vs,h=>by
  have e:vs=[]:=h;subst e
  rfl
 | d::ds,vs,h=>by
  obtain⟨v,r,e,_,h2⟩:=(show ∃v r,vs=v::r/\Gp K H d v/\Vy K H ds r from h);rw[e,S6,S6,Vy.length h2]
theorem Vy.get{K:W.Frag}{H:Hp}:∀{ds:List D} {vs:List V} {i:Nat} {d:D},Vy K H ds vs->ds[i]?=some d->∃v,vs[i]?=some v/\Gp K H d v
 | [],vs,i,d,_,e=>by simp at e
 | d::ds,vs,0,d',h,e=>by
  obtain⟨v,r,rfl,h1,_⟩:=(show ∃v r,vs=v::r/\Gp K H d v/\Vy K H ds r from h);simp at e;subst e;exact⟨v,rfl,h1⟩
 | d::ds,vs,i+1,d',h,e=>by
  obtain⟨v,r,rfl,_,h2⟩:=(show ∃v r,vs=v::r/\Gp K H d v/\Vy K H ds r from h);obtain⟨v',e1,h3⟩:=Vy.get (i:=i) h2 (by simpa using e);exact⟨v',by simpa using e1,h3⟩
theorem Be:∀{ds:List D} {d:D},d∈ds->N2 d<=C5 ds
 | d::ds,d',h=>by
  simp only[C5];rcases G2.mp h with e | h
  ·subst e;omega
  ·have:=Be h;omega
theorem Jd:∀ds es:List D,((List.range (min ds.length es.length)).all (fun j=>Ml (ds.getD j .non) (es.getD j .non)) && ds.length == es.length)=Ss ds es
 | [],[]=>rfl
 | [],e::es=>by simp[Ss]
 | d::ds,[]=>by simp[Ss]
 | d::ds,e::es=>by
  have ih:=Jd ds es;have e1:min (d::ds).length (e::es).length=min ds.length es.length+1:=by simp only[S6];omega
  rw[e1,List.range_succ_eq_map];simp only[List.all_cons,List.all_map,Ss, <-ih,S6,List.getD_cons_zero]
  have e2:((ds.length+1 == es.length+1):Bool)=(ds.length == es.length):=by
   rw[Bool.eq_iff_iff];simp
  rw[e2,Bool.and_assoc]
  rfl
section
variable{X:Cx}{pins:Uv}{σ:St}{H:Hp}{s:Shared}
theorem Zi.not_both(I:Zi X pins σ H s){a:Addr}{xs ys:List V}(h:Z0 X.K H a xs)(h':Yv X.K H a ys):False:=by
 obtain⟨its,r,⟨o,n,e,c,_⟩,_⟩:=I.list h;obtain⟨its',r',⟨o',e',c',_⟩,_⟩:=I.tuple h';rw[e]at e';cases e';rw[c]at c'
 injection c' with c''
 exact absurd c'' (by decide)
mutual
theorem Gp.inj(I:Zi X pins σ H s):∀(d e:D) (v:V),Gp X.K H d v->Gp X.K H e v->d=e
 | .non,e,v,h,h'=>by
  have q:v=.non:=h;subst q;cases e with
  | non=>rfl
  | tup _=>obtain⟨_,_,z,_⟩:=h';cases z
  | lst _=>obtain⟨_,_,z,_⟩:=h';cases z
  | _=>cases Zr h'
 | .bl b,e,v,h,h'=>by
  have q:v=.bl b:=h;subst q;cases e with
  | bl c=>cases Zr h';rfl
  | tup _=>obtain⟨_,_,z,_⟩:=h';cases z
  | lst _=>obtain⟨_,_,z,_⟩:=h';cases z
  | _=>cases Zr h'
 | .int b,e,v,h,h'=>by
  have q:v=.int b:=h;subst q;cases e with
  | int c=>cases Zr h';rfl
  | tup _=>obtain⟨_,_,z,_⟩:=h';cases z
  | lst _=>obtain⟨_,_,z,_⟩:=h';cases z
  | _=>cases Zr h'
 | .str b,e,v,h,h'=>by
  have q:v=.str b:=h;subst q;cases e with
  | str c=>cases Zr h';rfl
  | tup _=>obtain⟨_,_,z,_⟩:=h';cases z
  | lst _=>obtain⟨_,_,z,_⟩:=h';cases z
  | _=>cases Zr h'
 | .tup ds,e,v,h,h'=>by
  obtain⟨a,vs,rfl,q,ar⟩:=(show ∃a vs,v=.ref a/\Yv X.K H a vs/\Vy X.K H ds vs from h);cases e with
  | tup es =>
   obtain⟨a',ws,z,q',C9⟩:=(show ∃a' vs,V.ref a=.ref a'/\Yv X.K H a' vs/\Vy X.K H es vs from h');cases z;have e:=I.tuple_inj q q';subst e;rw[Vy.inj I ds es vs ar C9]
  | lst es =>
   obtain⟨a',ws,z,q',C9⟩:=(show ∃a' vs,V.ref a=.ref a'/\Z0 X.K H a' vs/\Vy X.K H es vs from h');cases z;exact(I.not_both q' q).elim
  | non=>cases Zr h'
  | bl _=>cases Zr h'
  | int _=>cases Zr h'
  | str _=>cases Zr h'
 | .lst ds,e,v,h,h'=>by
  obtain⟨a,vs,rfl,q,ar⟩:=(show ∃a vs,v=.ref a/\Z0 X.K H a vs/\Vy X.K H ds vs from h);cases e with
  | lst es =>
   obtain⟨a',ws,z,q',C9⟩:=(show ∃a' vs,V.ref a=.ref a'/\Z0 X.K H a' vs/\Vy X.K H es vs from h');cases z;have e:=I.list_inj q q';subst e;rw[Vy.inj I ds es vs ar C9]
  | tup es =>
   obtain⟨a',ws,z,q',C9⟩:=(show ∃a' vs,V.ref a=.ref a'/\Yv X.K H a' vs/\Vy X.K H es vs from h');cases z;exact(I.not_both q q').elim
  | non=>cases Zr h'
  | bl _=>cases Zr h'
  | int _=>cases Zr h'
  | str _=>cases Zr h'
theorem Vy.inj(I:Zi X pins σ H s):∀(ds es:List D) (vs:List V),Vy X.K H ds vs->Vy X.K H es vs->ds=es
 | [],es,vs,h,h'=>by
  have q:vs=[]:=h;subst q;cases es with
  | nil=>rfl
  | cons e es=>obtain⟨_,_,z,_⟩:=h';cases z
 | d::ds,es,vs,h,h'=>by
  obtain⟨v,r,rfl,h1,h2⟩:=(show ∃v r,vs=v::r/\Gp X.K H d v/\Vy X.K H ds r from h);cases es with
  | nil=>cases Zr h'
  | cons e es =>
   obtain⟨v',r',z,h1',h2'⟩:=(show ∃v' r',v::r=v'::r'/\Gp X.K H e v'/\Vy X.K H es r' from h');cases z;rw[Gp.inj I d e v h1 h1',Vy.inj I ds es r h2 h2']
end
def Xw:D->Option V
 | .non=>some .non
 | .bl b=>some (.bl b)
 | .int i=>some (.int i)
 | .str x=>some (.str x)
 | _=>none
theorem Gp.flat{K:W.Frag}{d:D}{x v:V}(e:Xw d=some x)(h:Gp K H d v):v=x/\Nv x=true:=by
 cases d with
 | non=>cases e;exact⟨h,rfl⟩
 | bl b=>cases e;exact⟨h,rfl⟩
 | int i=>cases e;exact⟨h,rfl⟩
 | str q=>cases e;exact⟨h,rfl⟩
 | tup q=>cases e
 | lst q=>cases e
theorem Mi{d:D}{x:V}(h:Xw d=some x):(d=.non/\x=.non)\/(∃b,d=.bl b/\x=.bl b)\/(∃i,d=.int i/\x=.int i)\/∃q,d=.str q/\x=.str q:=by
 cases d with
 | non=>cases h;exact .inl ⟨rfl,rfl⟩
 | bl b=>cases h;exact .inr (.inl ⟨b,rfl,rfl⟩)
 | int i=>cases h;exact .inr (.inr (.inl ⟨i,rfl,rfl⟩))
 | str q=>cases h;exact .inr (.inr (.inr ⟨q,rfl,rfl⟩))
 | tup q=>cases h
 | lst q=>cases h
theorem Hx{d e:D}{x y:V}(h:Xw d=some x)(h':Xw e=some y):Ml d e=eqV x y:=by
 rcases Mi h with ⟨rfl,rfl⟩ | ⟨_,rfl,rfl⟩ | ⟨_,rfl,rfl⟩ | ⟨_,rfl,rfl⟩<;>rcases Mi h' with ⟨rfl,rfl⟩ | ⟨_,rfl,rfl⟩ | ⟨_,rfl,rfl⟩ | ⟨_,rfl,rfl⟩<;>rfl
theorem Vi{xs:List V}{us:List Value}(r:Yb xs us){j:Nat}(h:j<us.length){x:V}(e:xs[j]?=some x):Z9 x us[j]:=by
 obtain⟨u,e1,q⟩:=r.get e;rw[Nn h]at e1;cases e1;exact q
theorem Zmk{es:List D}{a:Addr}{x:V}{u:Value}{A:Around}{its:Array Value}{d:D}(h:Xw d=some x)(rx:Z9 x u)(ht:IsTup s.heap a its)(Uc:A.units<cLine):SeqAt.EqAt A s u (.ref a) (Ml d (.tup es)):=by
 rcases Mi h with ⟨rfl,rfl⟩ | ⟨b,rfl,rfl⟩ | ⟨b,rfl,rfl⟩ | ⟨b,rfl,rfl⟩
 ·cases rx;exact SeqAt.EqAt.none_tuple ht Uc
 ·cases rx;exact SeqAt.EqAt.bool_tuple b ht Uc
 ·obtain⟨t,rfl⟩:=rx;exact SeqAt.EqAt.int_tuple b t ht Uc
 ·obtain⟨t,rfl⟩:=rx;exact SeqAt.EqAt.str_tuple b t ht Uc
theorem Zmg{es:List D}{a:Addr}{x:V}{u:Value}{A:Around}{its:Array Value}{d:D}(h:Xw d=some x)(rx:Z9 x u)(ht:s.heap.IsList a its)(Uc:A.units<cLine):SeqAt.EqAt A s u (.ref a) (Ml d (.lst es)):=by
 rcases Mi h with ⟨rfl,rfl⟩ | ⟨b,rfl,rfl⟩ | ⟨b,rfl,rfl⟩ | ⟨b,rfl,rfl⟩
 ·cases rx;exact SeqAt.EqAt.none_list ht Uc
 ·cases rx;exact SeqAt.EqAt.bool_list b ht Uc
 ·obtain⟨t,rfl⟩:=rx;exact SeqAt.EqAt.int_list b t ht Uc
 ·obtain⟨t,rfl⟩:=rx;exact SeqAt.EqAt.str_list b t ht Uc
theorem Zmf{es:List D}{a:Addr}{x:V}{u:Value}{A:Around}{its:Array Value}{d:D}(h:Xw d=some x)(rx:Z9 x u)(ht:IsTup s.heap a its)(Uc:A.units<cLine):SeqAt.EqAt A s (.ref a) u (Ml (.tup es) d):=by
 rcases Mi h with ⟨rfl,rfl⟩ | ⟨b,rfl,rfl⟩ | ⟨b,rfl,rfl⟩ | ⟨b,rfl,rfl⟩
 ·cases rx;exact SeqAt.EqAt.tuple_none ht Uc
 ·cases rx;exact SeqAt.EqAt.tuple_bool b ht Uc
 ·obtain⟨t,rfl⟩:=rx;exact SeqAt.EqAt.tuple_int b t ht Uc
 ·obtain⟨t,rfl⟩:=rx;exact SeqAt.EqAt.tuple_str b t ht Uc
theorem Zmm{es:List D}{a:Addr}{x:V}{u:Value}{A:Around}{its:Array Value}{d:D}(h:Xw d=some x)(rx:Z9 x u)(ht:s.heap.IsList a its)(Uc:A.units<cLine):SeqAt.EqAt A s (.ref a) u (Ml (.lst es) d):=by
 rcases Mi h with ⟨rfl,rfl⟩ | ⟨b,rfl,rfl⟩ | ⟨b,rfl,rfl⟩ | ⟨b,rfl,rfl⟩
 ·cases rx;exact SeqAt.EqAt.list_none ht Uc
 ·cases rx;exact SeqAt.EqAt.list_bool b ht Uc
 ·obtain⟨t,rfl⟩:=rx;exact SeqAt.EqAt.list_int b t ht Uc
 ·obtain⟨t,rfl⟩:=rx;exact SeqAt.EqAt.list_str b t ht Uc
theorem Bi{d:D}(h:Xw d=none):(∃ds,d=.tup ds)\/∃ds,d=.lst ds:=by
 cases d with
 | non=>cases h
 | bl b=>cases h
 | int i=>cases h
 | str q=>cases h
 | tup q=>exact .inl ⟨q,rfl⟩
 | lst q=>exact .inr ⟨q,rfl⟩
def Zjm(A:Around)(s:Shared)(K:W.Frag)(H:Hp)(ds:List D):Prop:=∀d∈ds,∀(e:D) (x y:V) (u v:Value),Gp K H d x->Gp K H e y->Z9 x u->Z9 y v->SeqAt.EqAt A s u v (Ml d e)
theorem Zjm.at{A:Around}{K:W.Frag}{ds es:List D}{vs Ij:List V}{its its':List Value}(E:Zjm A s K H ds)(ar:Vy K H ds vs)(C9:Vy K H es Ij)(r:Yb vs its)(r':Yb Ij its'){j:Nat}(h1:j<its.toArray.size)(h2:j<its'.toArray.size)(j1:j<ds.length)(j2:j<es.length) :
  SeqAt.EqAt A s its.toArray[j] its'.toArray[j] (Ml (ds.getD j .non) (es.getD j .non)):=by
 obtain⟨x1,g1,i1⟩:=ar.get (Nn j1);obtain⟨y1,g2,i2⟩:=C9.get (Nn j2);have d1:ds.getD j .non=ds[j]:=by simp[j1]
 have d2:es.getD j .non=es[j]:=by simp[j2]
 rw[d1,d2];exact E _ (G0e j1) _ x1 y1 _ _ i1 i2 (Vi r (by simpa using h1) g1) (Vi r' (by simpa using h2) g2)
theorem Zmb(I:Zi X pins σ H s){ds es:List D}{a a':Addr}{vs Ij:List V}{A:Around}(q:Yv X.K H a vs)(ar:Vy X.K H ds vs)(q':Yv X.K H a' Ij)(C9:Vy X.K H es Ij)(hne:a≠a')(E:Zjm A.in1 s X.K H ds)(Uc:A.units<cLine) :
  SeqAt.EqAt A s (.ref a) (.ref a') (Ml (.tup ds) (.tup es)):=by
 obtain⟨its,r,ht,_⟩:=I.tuple q;obtain⟨its',r',xq,_⟩:=I.tuple q';have l1:its.toArray.size=ds.length:=by rw[Dy, <-r.length, <-ar.length]
 have l2:its'.toArray.size=es.length:=by rw[Dy, <-r'.length, <-C9.length]
 have main:=SeqAt.RcAt.tuples (A:=A) (e:=fun j=>Ml (ds.getD j .non) (es.getD j .non)) ht xq Uc (fun j h1 h2=>E.at ar C9 r r' h1 h2 (by omega) (by omega));rw[l1,l2,Jd]at main;exact SeqAt.EqAt.of_refs hne main
theorem Zmd(I:Zi X pins σ H s){ds es:List D}{a a':Addr}{vs Ij:List V}{A:Around}(q:Z0 X.K H a vs)(ar:Vy X.K H ds vs)(q':Z0 X.K H a' Ij)(C9:Vy X.K H es Ij)(hne:a≠a')(E:Zjm A.in1 s X.K H ds)(Uc:A.units<cLine) :
  SeqAt.EqAt A s (.ref a) (.ref a') (Ml (.lst ds) (.lst es)):=by
 obtain⟨its,r,hp,_⟩:=I.list q;obtain⟨its',r',hp',_⟩:=I.list q';have l1:its.toArray.size=ds.length:=by rw[Dy, <-r.length, <-ar.length]
 have l2:its'.toArray.size=es.length:=by rw[Dy, <-r'.length, <-C9.length]
 by_cases hl:ds.length=es.length
 ·have main:=SeqAt.RcAt.lists (A:=A) (e:=fun j=>Ml (ds.getD j .non) (es.getD j .non)) hp.isList hp'.isList (by omega) Uc (fun j h1 h2=>E.at ar C9 r r' h1 h2 (by omega) (by omega));have al:=Jd ds es;rw[<-hl,Nat.min_self,B0s,Bool.and_true]at al;rw[l1,al]at main;exact SeqAt.EqAt.of_refs hne main
 ·have main:=SeqAt.RcAt.lists_lengths (A:=A) hp.isList hp'.isList (by rw[l1,l2];simpa using hl) Uc;have al:=Jd ds es;have hf:(ds.length == es.length)=false:=by simpa using hl
  rw[hf,Bool.and_false]at al;have z:Ml (D.lst ds) (D.lst es)=Ss ds es:=by simp only[Ml]
  rw[z, <-al];exact SeqAt.EqAt.of_refs hne main
theorem Zq2(I:Zi X pins σ H s){d e:D}{x y:V}{u v:Value}{A:Around}(Dx:Xw d=none)(Jq:Xw e=none)(hd:Gp X.K H d x)(he:Gp X.K H e y)(rx:Z9 x u)(ry:Z9 y v)(E:∀ds,d=.tup ds\/d=.lst ds->Zjm A.in1 s X.K H ds)(Uc:A.units<cLine) :
  SeqAt.EqAt A s u v (Ml d e):=by
 by_cases hxy:x=y
 ·subst hxy;have ee:=Gp.inj I d e x hd he;subst ee;rw[yu]
  have uv:u=v:=by
   rcases Bi Dx with ⟨ds,rfl⟩ | ⟨ds,rfl⟩
   ·obtain⟨a,_,rfl,_⟩:=hd;cases rx;cases ry;rfl
   ·obtain⟨a,_,rfl,_⟩:=hd;cases rx;cases ry;rfl
  subst uv;exact SeqAt.EqAt.same _
 ·rcases Bi Dx with ⟨ds,rfl⟩ | ⟨ds,rfl⟩
  ·obtain⟨a,vs,rfl,q,ar⟩:=hd;cases rx;rcases Bi Jq with ⟨es,rfl⟩ | ⟨es,rfl⟩
   ·obtain⟨a',Ij,rfl,q',C9⟩:=he;cases ry;exact Zmb I q ar q' C9 (fun z=>hxy (by rw[z])) (E ds (.inl rfl)) Uc
   ·obtain⟨a',Ij,rfl,q',C9⟩:=he;cases ry;obtain⟨_,_,ht,_⟩:=I.tuple q;obtain⟨_,_,hp',_⟩:=I.list q';exact SeqAt.EqAt.tuple_list ht hp'.isList Uc
  ·obtain⟨a,vs,rfl,q,ar⟩:=hd;cases rx;rcases Bi Jq with ⟨es,rfl⟩ | ⟨es,rfl⟩
   ·obtain⟨a',Ij,rfl,q',C9⟩:=he;cases ry;obtain⟨_,_,hp,_⟩:=I.list q;obtain⟨_,_,xq,_⟩:=I.tuple q';exact SeqAt.EqAt.list_tuple hp.isList xq Uc
   ·obtain⟨a',Ij,rfl,q',C9⟩:=he;cases ry;exact Zmd I q ar q' C9 (fun z=>hxy (by rw[z])) (E ds (.inr rfl)) Uc
theorem Zq1(I:Zi X pins σ H s){d e:D}{x y:V}{u v:Value}{A:Around}(hd:Gp X.K H d x)(he:Gp X.K H e y)(rx:Z9 x u)(ry:Z9 y v)(E:∀ds,d=.tup ds\/d=.lst ds->Zjm A.in1 s X.K H ds)(Uc:A.units<cLine) :
  SeqAt.EqAt A s u v (Ml d e):=by
 cases Dx:Xw d with
 | some x' =>
  obtain⟨rfl,fx⟩:=Gp.flat Dx hd;cases Jq:Xw e with
  | some y' =>
   obtain⟨rfl,fy⟩:=Gp.flat Jq he;rw[Hx Dx Jq];exact Zkl rx ry fx fy
  | none =>
   rcases Bi Jq with ⟨es,rfl⟩ | ⟨es,rfl⟩
   ·obtain⟨a,vs,rfl,q,_⟩:=he;cases ry;obtain⟨its,_,ht,_⟩:=I.tuple q;exact Zmk Dx rx ht Uc
   ·obtain⟨a,vs,rfl,q,_⟩:=he;cases ry;obtain⟨its,_,hp,_⟩:=I.list q;exact Zmg Dx rx hp.isList Uc
 | none =>
  cases Jq:Xw e with
  | some y' =>
   obtain⟨rfl,fy⟩:=Gp.flat Jq he;rcases Bi Dx with ⟨es,rfl⟩ | ⟨es,rfl⟩
   ·obtain⟨a,vs,rfl,q,_⟩:=hd;cases rx;obtain⟨its,_,ht,_⟩:=I.tuple q;exact Zmf Jq ry ht Uc
   ·obtain⟨a,vs,rfl,q,_⟩:=hd;cases rx;obtain⟨its,_,hp,_⟩:=I.list q;exact Zmm Jq ry hp.isList Uc
  | none=>exact Zq2 I Dx Jq hd he rx ry E Uc
theorem Zq3{d:D}{ds:List D}(h:d=.tup ds\/d=.lst ds){c:D}(m:c∈ds):N2 c+1<=N2 d:=by
 have:=Be m;rcases h with rfl | rfl
 ·have z:N2 (D.tup ds)=C5 ds+1:=by simp only[N2]
  omega
 ·have z:N2 (D.lst ds)=C5 ds+1:=by simp only[N2]
  omega
theorem Zmt(I:Zi X pins σ H s)(n:Nat):∀(A:Around) (d e:D) (x y:V) (u v:Value),N2 d<n->Gp X.K H d x->Gp X.K H e y->Z9 x u->Z9 y v->A.units+N2 d<cLine->SeqAt.EqAt A s u v (Ml d e):=by
 induction n with
 | zero=>intro A d e x y u v h;exact absurd h (Nat.not_lt_zero _)
 | succ n ih =>
  intro A d e x y u v h hd he rx ry hu;refine Zq1 I hd he rx ry (fun ds hds c hc e' x' y' u' v' h1 h2 r1 r2=>?_) (by omega);have hp:=Zq3 hds hc;refine ih A.in1 c e' x' y' u' v' (by omega) h1 h2 r1 r2 ?_;show A.units+1+N2 c<cLine;omega
theorem Hq(I:Zi X pins σ H s)(d e:D)(x y:V)(u v:Value)(A:Around)(hd:Gp X.K H d x)(he:Gp X.K H e y)(rx:Z9 x u)(ry:Z9 y v)(hu:A.units+N2 d<cLine)(Uc:A.units<cLine) :
  SeqAt.EqAt A s u v (Ml d e):=Zmt I (N2 d+1) A d e x y u v (Nat.lt_succ_self _) hd he rx ry hu
end
theorem Zvc{A:Around}{s:Shared}{y x:V}{u v:Value}(ry:Z9 y u)(rx:Z9 x v)(fy:Nv y=true)(fx:Nv x=true):SeqAt.RcAt A s u v ((eqV y x)):=by
 cases y with
 | non =>
  cases ry;cases x with
  | non=>cases rx;exact SeqAt.RcAt.none_none
  | bl b=>cases rx;exact SeqAt.RcAt.none_bool b
  | int b=>obtain⟨t,rfl⟩:=rx;exact SeqAt.RcAt.none_int b t
  | str b=>obtain⟨t,rfl⟩:=rx;exact SeqAt.RcAt.none_str b t
  | _=>exact absurd (show false=true from fx) T7
 | bl a =>
  cases ry;cases x with
  | non=>cases rx;exact SeqAt.RcAt.bool_none a
  | bl b=>cases rx;exact SeqAt.RcAt.bool_bool a b
  | int b=>obtain⟨t,rfl⟩:=rx;exact SeqAt.RcAt.bool_int a b t
  | str b=>obtain⟨t,rfl⟩:=rx;exact SeqAt.RcAt.bool_str a b t
  | _=>exact absurd (show false=true from fx) T7
 | int a =>
  obtain⟨t',rfl⟩:=ry;cases x with
  | non=>cases rx;exact SeqAt.RcAt.int_none a t'
  | bl b=>cases rx;exact SeqAt.RcAt.int_bool a t' b
  | int b=>obtain⟨t,rfl⟩:=rx;exact SeqAt.RcAt.int_int a t' b t
  | str b=>obtain⟨t,rfl⟩:=rx;exact SeqAt.RcAt.int_str a t' b t
  | _=>exact absurd (show false=true from fx) T7
 | str a =>
  obtain⟨t',rfl⟩:=ry;cases x with
  | non=>cases rx;exact SeqAt.RcAt.str_none a t'
  | bl b=>cases rx;exact SeqAt.RcAt.str_bool a t' b
  | int b=>obtain⟨t,rfl⟩:=rx;exact SeqAt.RcAt.str_int a t' b t
  | str b=>obtain⟨t,rfl⟩:=rx;exact SeqAt.RcAt.str_str a t' b t
  | _=>exact absurd (show false=true from fx) T7
 | _=>exact absurd (show false=true from fy) T7
theorem rcEq_D{X:Cx}{pins:Uv}{σ:St}{H:Hp}{s:Shared}(I:Zi X pins σ H s)(d e:D)(x y:V)(u v:Value)(A:Around)(hd:Gp X.K H d x)(he:Gp X.K H e y)(rx:Z9 x u)(ry:Z9 y v)(hu:A.units+N2 d<cLine)(Uc:A.units<cLine) :
  SeqAt.RcAt A s u v ((Ml d e)):=by
 cases Dx:Xw d with
 | some x' =>
  obtain⟨rfl,fx⟩:=Gp.flat Dx hd;cases Jq:Xw e with
  | some y' =>
   obtain⟨rfl,fy⟩:=Gp.flat Jq he;rw[Hx Dx Jq];exact Zvc rx ry fx fy
  | none =>
   cases e with
   | tup es =>
    obtain⟨a,vs,rfl,q,_⟩:=he;cases ry;obtain⟨its,_,ht,_⟩:=I.tuple q;cases d with
    | non=>cases Dx;cases rx;exact SeqAt.RcAt.none_tuple ht Uc
    | bl b=>cases Dx;cases rx;exact SeqAt.RcAt.bool_tuple b ht Uc
    | int b=>cases Dx;obtain⟨t,rfl⟩:=rx;exact SeqAt.RcAt.int_tuple b t ht Uc
    | str b=>cases Dx;obtain⟨t,rfl⟩:=rx;exact SeqAt.RcAt.str_tuple b t ht Uc
    | tup _=>cases Dx
    | lst _=>cases Dx
   | lst es =>
    obtain⟨a,vs,rfl,q,_⟩:=he;cases ry;obtain⟨its,_,hp,_⟩:=I.list q;have ht:=hp.isList;cases d with
    | non=>cases Dx;cases rx;exact SeqAt.RcAt.none_list ht Uc
    | bl b=>cases Dx;cases rx;exact SeqAt.RcAt.bool_list b ht Uc
    | int b=>cases Dx;obtain⟨t,rfl⟩:=rx;exact SeqAt.RcAt.int_list b t ht Uc
    | str b=>cases Dx;obtain⟨t,rfl⟩:=rx;exact SeqAt.RcAt.str_list b t ht Uc
    | tup _=>cases Dx
    | lst _=>cases Dx
   | non=>cases Jq
   | bl _=>cases Jq
   | int _=>cases Jq
   | str _=>cases Jq
 | none =>
  cases Jq:Xw e with
  | some y' =>
   obtain⟨rfl,fy⟩:=Gp.flat Jq he;cases d with
   | tup es =>
    obtain⟨a,vs,rfl,q,_⟩:=hd;cases rx;obtain⟨its,_,ht,_⟩:=I.tuple q;cases e with
    | non=>cases Jq;cases ry;exact SeqAt.RcAt.tuple_none ht Uc
    | bl b=>cases Jq;cases ry;exact SeqAt.RcAt.tuple_bool b ht Uc
    | int b=>cases Jq;obtain⟨t,rfl⟩:=ry;exact SeqAt.RcAt.tuple_int b t ht Uc
    | str b=>cases Jq;obtain⟨t,rfl⟩:=ry;exact SeqAt.RcAt.tuple_str b t ht Uc
    | tup _=>cases Jq
    | lst _=>cases Jq
   | lst es =>
    obtain⟨a,vs,rfl,q,_⟩:=hd;cases rx;obtain⟨its,_,hp,_⟩:=I.list q;have ht:=hp.isList;cases e with
    | non=>cases Jq;cases ry;exact SeqAt.RcAt.list_none ht Uc
    | bl b=>cases Jq;cases ry;exact SeqAt.RcAt.list_bool b ht Uc
    | int b=>cases Jq;obtain⟨t,rfl⟩:=ry;exact SeqAt.RcAt.list_int b t ht Uc
    | str b=>cases Jq;obtain⟨t,rfl⟩:=ry;exact SeqAt.RcAt.list_str b t ht Uc
    | tup _=>cases Jq
    | lst _=>cases Jq
   | non=>cases Dx
   | bl _=>cases Dx
   | int _=>cases Dx
   | str _=>cases Dx
  | none =>
   cases d with
   | tup ds =>
    obtain⟨a,vs,rfl,q,ar⟩:=hd;cases rx;obtain⟨its,r,ht,_⟩:=I.tuple q;cases e with
    | tup es =>
     obtain⟨a',Ij,rfl,q',C9⟩:=he;cases ry;obtain⟨its',r',xq,_⟩:=I.tuple q';have l1:its.toArray.size=ds.length:=by rw[Dy, <-r.length, <-ar.length]
     have l2:its'.toArray.size=es.length:=by rw[Dy, <-r'.length, <-C9.length]
     have main:=SeqAt.RcAt.tuples (A:=A) (e:=fun j=>Ml (ds.getD j .non) (es.getD j .non)) ht xq Uc (fun j h1 h2=>by
       have j1:j<ds.length:=by omega
       have j2:j<es.length:=by omega
       have e1:ds[j]?=some ds[j]:=Nn j1;have e2:es[j]?=some es[j]:=Nn j2;obtain⟨x1,g1,i1⟩:=ar.get e1;obtain⟨y1,g2,i2⟩:=C9.get e2;have d1:ds.getD j .non=ds[j]:=by simp[j1]
       have d2:es.getD j .non=es[j]:=by simp[j2]
       show SeqAt.EqAt A.in1 s _ _ (Ml (ds.getD j .non) (es.getD j .non));rw[d1,d2];have hm:=Be (G0e j1);have z1:N2 (D.tup ds)=C5 ds+1:=by simp only[N2]
       refine Hq I ds[j] es[j] x1 y1 _ _ A.in1 i1 i2 (Vi r (by simpa using h1) g1) (Vi r' (by simpa using h2) g2) ?_ ?_
       ·show A.units+1+N2 ds[j]<cLine;omega
       ·show A.units+1<cLine;omega)
     rw[l1,l2,Jd]at main;exact main
    | lst es =>
     obtain⟨a',Ij,rfl,q',C9⟩:=he;cases ry;obtain⟨its',r',hp',_⟩:=I.list q';exact SeqAt.RcAt.tuple_list ht hp'.isList Uc
    | non=>cases Jq
    | bl _=>cases Jq
    | int _=>cases Jq
    | str _=>cases Jq
   | lst ds =>
    obtain⟨a,vs,rfl,q,ar⟩:=hd;cases rx;obtain⟨its,r,hp,_⟩:=I.list q;have ht:=hp.isList;cases e with
    | lst es =>
     obtain⟨a',Ij,rfl,q',C9⟩:=he;cases ry;obtain⟨its',r',hp',_⟩:=I.list q';have xq:=hp'.isList;have l1:its.toArray.size=ds.length:=by rw[Dy, <-r.length, <-ar.length]
     have l2:its'.toArray.size=es.length:=by rw[Dy, <-r'.length, <-C9.length]
     by_cases hl:ds.length=es.length
     ·have main:=SeqAt.RcAt.lists (A:=A) (e:=fun j=>Ml (ds.getD j .non) (es.getD j .non)) ht xq (by omega) Uc (fun j h1 h2=>by
       have j1:j<ds.length:=by omega
       have j2:j<es.length:=by omega
       have e1:ds[j]?=some ds[j]:=Nn j1;have e2:es[j]?=some es[j]:=Nn j2;obtain⟨x1,g1,i1⟩:=ar.get e1;obtain⟨y1,g2,i2⟩:=C9.get e2;have d1:ds.getD j .non=ds[j]:=by simp[j1]
       have d2:es.getD j .non=es[j]:=by simp[j2]
       show SeqAt.EqAt A.in1 s _ _ (Ml (ds.getD j .non) (es.getD j .non));rw[d1,d2];have hm:=Be (G0e j1);have z1:N2 (D.lst ds)=C5 ds+1:=by simp only[N2]
       refine Hq I ds[j] es[j] x1 y1 _ _ A.in1 i1 i2 (Vi r (by simpa using h1) g1) (Vi r' (by simpa using h2) g2) ?_ ?_
       ·show A.units+1+N2 ds[j]<cLine;omega
       ·show A.units+1<cLine;omega)
      have al:=Jd ds es;rw[<-hl,Nat.min_self,B0s,Bool.and_true]at al;rw[l1,al]at main;exact main
     ·have main:=SeqAt.RcAt.lists_lengths (A:=A) ht xq (by rw[l1,l2];simpa using hl) Uc;have al:=Jd ds es;have hf:(ds.length == es.length)=false:=by simpa using hl
      rw[hf,Bool.and_false]at al;have z:Ml (D.lst ds) (D.lst es)=Ss ds es:=by simp only[Ml]
      rw[z, <-al];exact main
    | tup es =>
     obtain⟨a',Ij,rfl,q',C9⟩:=he;cases ry;obtain⟨its',r',xq,_⟩:=I.tuple q';exact SeqAt.RcAt.list_tuple ht xq Uc
    | non=>cases Jq
    | bl _=>cases Jq
    | int _=>cases Jq
    | str _=>cases Jq
   | non=>cases Dx
   | bl _=>cases Dx
   | int _=>cases Dx
   | str _=>cases Dx
theorem rcNe_V{A:Around}{s:Shared}{y x:V}{u v:Value}(ry:Z9 y u)(rx:Z9 x v)(fy:Nv y=true)(fx:Nv x=true):SeqAt.RcNeAt A s u v (!(eqV y x)):=by
 cases y with
 | non =>
  cases ry;cases x with
  | non=>cases rx;exact SeqAt.RcNeAt.none_none
  | bl b=>cases rx;exact SeqAt.RcNeAt.none_bool b
  | int b=>obtain⟨t,rfl⟩:=rx;exact SeqAt.RcNeAt.none_int b t
  | str b=>obtain⟨t,rfl⟩:=rx;exact SeqAt.RcNeAt.none_str b t
  | _=>exact absurd (show false=true from fx) T7
 | bl a =>
  cases ry;cases x with
  | non=>cases rx;exact SeqAt.RcNeAt.bool_none a
  | bl b=>cases rx;exact SeqAt.RcNeAt.bool_bool a b
  | int b=>obtain⟨t,rfl⟩:=rx;exact SeqAt.RcNeAt.bool_int a b t
  | str b=>obtain⟨t,rfl⟩:=rx;exact SeqAt.RcNeAt.bool_str a b t
  | _=>exact absurd (show false=true from fx) T7
 | int a =>
  obtain⟨t',rfl⟩:=ry;cases x with
  | non=>cases rx;exact SeqAt.RcNeAt.int_none a t'
  | bl b=>cases rx;exact SeqAt.RcNeAt.int_bool a t' b
  | int b=>obtain⟨t,rfl⟩:=rx;exact SeqAt.RcNeAt.int_int a t' b t
  | str b=>obtain⟨t,rfl⟩:=rx;exact SeqAt.RcNeAt.int_str a t' b t
  | _=>exact absurd (show false=true from fx) T7
 | str a =>
  obtain⟨t',rfl⟩:=ry;cases x with
  | non=>cases rx;exact SeqAt.RcNeAt.str_none a t'
  | bl b=>cases rx;exact SeqAt.RcNeAt.str_bool a t' b
  | int b=>obtain⟨t,rfl⟩:=rx;exact SeqAt.RcNeAt.str_int a t' b t
  | str b=>obtain⟨t,rfl⟩:=rx;exact SeqAt.RcNeAt.str_str a t' b t
  | _=>exact absurd (show false=true from fx) T7
 | _=>exact absurd (show false=true from fy) T7
theorem rcNe_D{X:Cx}{pins:Uv}{σ:St}{H:Hp}{s:Shared}(I:Zi X pins σ H s)(d e:D)(x y:V)(u v:Value)(A:Around)(hd:Gp X.K H d x)(he:Gp X.K H e y)(rx:Z9 x u)(ry:Z9 y v)(hu:A.units+N2 d<cLine)(Uc:A.units<cLine) :
  SeqAt.RcNeAt A s u v (!(Ml d e)):=by
 cases Dx:Xw d with
 | some x' =>
  obtain⟨rfl,fx⟩:=Gp.flat Dx hd;cases Jq:Xw e with
  | some y' =>
   obtain⟨rfl,fy⟩:=Gp.flat Jq he;rw[Hx Dx Jq];exact rcNe_V rx ry fx fy
  | none =>
   cases e with
   | tup es =>
    obtain⟨a,vs,rfl,q,_⟩:=he;cases ry;obtain⟨its,_,ht,_⟩:=I.tuple q;cases d with
    | non=>cases Dx;cases rx;exact SeqAt.RcNeAt.none_tuple ht Uc
    | bl b=>cases Dx;cases rx;exact SeqAt.RcNeAt.bool_tuple b ht Uc
    | int b=>cases Dx;obtain⟨t,rfl⟩:=rx;exact SeqAt.RcNeAt.int_tuple b t ht Uc
    | str b=>cases Dx;obtain⟨t,rfl⟩:=rx;exact SeqAt.RcNeAt.str_tuple b t ht Uc
    | tup _=>cases Dx
    | lst _=>cases Dx
   | lst es =>
    obtain⟨a,vs,rfl,q,_⟩:=he;cases ry;obtain⟨its,_,hp,_⟩:=I.list q;have ht:=hp.isList;cases d with
    | non=>cases Dx;cases rx;exact SeqAt.RcNeAt.none_list ht Uc
    | bl b=>cases Dx;cases rx;exact SeqAt.RcNeAt.bool_list b ht Uc
    | int b=>cases Dx;obtain⟨t,rfl⟩:=rx;exact SeqAt.RcNeAt.int_list b t ht Uc
    | str b=>cases Dx;obtain⟨t,rfl⟩:=rx;exact SeqAt.RcNeAt.str_list b t ht Uc
    | tup _=>cases Dx
    | lst _=>cases Dx
   | non=>cases Jq
   | bl _=>cases Jq
   | int _=>cases Jq
   | str _=>cases Jq
 | none =>
  cases Jq:Xw e with
  | some y' =>
   obtain⟨rfl,fy⟩:=Gp.flat Jq he;cases d with
   | tup es =>
    obtain⟨a,vs,rfl,q,_⟩:=hd;cases rx;obtain⟨its,_,ht,_⟩:=I.tuple q;cases e with
    | non=>cases Jq;cases ry;exact SeqAt.RcNeAt.tuple_none ht Uc
    | bl b=>cases Jq;cases ry;exact SeqAt.RcNeAt.tuple_bool b ht Uc
    | int b=>cases Jq;obtain⟨t,rfl⟩:=ry;exact SeqAt.RcNeAt.tuple_int b t ht Uc
    | str b=>cases Jq;obtain⟨t,rfl⟩:=ry;exact SeqAt.RcNeAt.tuple_str b t ht Uc
    | tup _=>cases Jq
    | lst _=>cases Jq
   | lst es =>
    obtain⟨a,vs,rfl,q,_⟩:=hd;cases rx;obtain⟨its,_,hp,_⟩:=I.list q;have ht:=hp.isList;cases e with
    | non=>cases Jq;cases ry;exact SeqAt.RcNeAt.list_none ht Uc
    | bl b=>cases Jq;cases ry;exact SeqAt.RcNeAt.list_bool b ht Uc
    | int b=>cases Jq;obtain⟨t,rfl⟩:=ry;exact SeqAt.RcNeAt.list_int b t ht Uc
    | str b=>cases Jq;obtain⟨t,rfl⟩:=ry;exact SeqAt.RcNeAt.list_str b t ht Uc
    | tup _=>cases Jq
    | lst _=>cases Jq
   | non=>cases Dx
   | bl _=>cases Dx
   | int _=>cases Dx
   | str _=>cases Dx
  | none =>
   cases d with
   | tup ds =>
    obtain⟨a,vs,rfl,q,ar⟩:=hd;cases rx;obtain⟨its,r,ht,_⟩:=I.tuple q;cases e with
    | tup es =>
     obtain⟨a',Ij,rfl,q',C9⟩:=he;cases ry;obtain⟨its',r',xq,_⟩:=I.tuple q';have l1:its.toArray.size=ds.length:=by rw[Dy, <-r.length, <-ar.length]
     have l2:its'.toArray.size=es.length:=by rw[Dy, <-r'.length, <-C9.length]
     have main:=SeqAt.RcNeAt.tuples (A:=A) (e:=fun j=>Ml (ds.getD j .non) (es.getD j .non)) ht xq Uc (fun j h1 h2=>by
       have j1:j<ds.length:=by omega
       have j2:j<es.length:=by omega
       have e1:ds[j]?=some ds[j]:=Nn j1;have e2:es[j]?=some es[j]:=Nn j2;obtain⟨x1,g1,i1⟩:=ar.get e1;obtain⟨y1,g2,i2⟩:=C9.get e2;have d1:ds.getD j .non=ds[j]:=by simp[j1]
       have d2:es.getD j .non=es[j]:=by simp[j2]
       show SeqAt.EqAt A.in1 s _ _ (Ml (ds.getD j .non) (es.getD j .non));rw[d1,d2];have hm:=Be (G0e j1);have z1:N2 (D.tup ds)=C5 ds+1:=by simp only[N2]
       refine Hq I ds[j] es[j] x1 y1 _ _ A.in1 i1 i2 (Vi r (by simpa using h1) g1) (Vi r' (by simpa using h2) g2) ?_ ?_
       ·show A.units+1+N2 ds[j]<cLine;omega
       ·show A.units+1<cLine;omega)
     rw[l1,l2,Jd]at main;exact main
    | lst es =>
     obtain⟨a',Ij,rfl,q',C9⟩:=he;cases ry;obtain⟨its',r',hp',_⟩:=I.list q';exact SeqAt.RcNeAt.tuple_list ht hp'.isList Uc
    | non=>cases Jq
    | bl _=>cases Jq
    | int _=>cases Jq
    | str _=>cases Jq
   | lst ds =>
    obtain⟨a,vs,rfl,q,ar⟩:=hd;cases rx;obtain⟨its,r,hp,_⟩:=I.list q;have ht:=hp.isList;cases e with
    | lst es =>
     obtain⟨a',Ij,rfl,q',C9⟩:=he;cases ry;obtain⟨its',r',hp',_⟩:=I.list q';have xq:=hp'.isList;have l1:its.toArray.size=ds.length:=by rw[Dy, <-r.length, <-ar.length]
     have l2:its'.toArray.size=es.length:=by rw[Dy, <-r'.length, <-C9.length]
     by_cases hl:ds.length=es.length
     ·have main:=SeqAt.RcNeAt.lists (A:=A) (e:=fun j=>Ml (ds.getD j .non) (es.getD j .non)) ht xq (by omega) Uc (fun j h1 h2=>by
       have j1:j<ds.length:=by omega
       have j2:j<es.length:=by omega
       have e1:ds[j]?=some ds[j]:=Nn j1;have e2:es[j]?=some es[j]:=Nn j2;obtain⟨x1,g1,i1⟩:=ar.get e1;obtain⟨y1,g2,i2⟩:=C9.get e2;have d1:ds.getD j .non=ds[j]:=by simp[j1]
       have d2:es.getD j .non=es[j]:=by simp[j2]
       show SeqAt.EqAt A.in1 s _ _ (Ml (ds.getD j .non) (es.getD j .non));rw[d1,d2];have hm:=Be (G0e j1);have z1:N2 (D.lst ds)=C5 ds+1:=by simp only[N2]
       refine Hq I ds[j] es[j] x1 y1 _ _ A.in1 i1 i2 (Vi r (by simpa using h1) g1) (Vi r' (by simpa using h2) g2) ?_ ?_
       ·show A.units+1+N2 ds[j]<cLine;omega
       ·show A.units+1<cLine;omega)
      have al:=Jd ds es;rw[<-hl,Nat.min_self,B0s,Bool.and_true]at al;rw[l1,al]at main;exact main
     ·have main:=SeqAt.RcNeAt.lists_lengths (A:=A) ht xq (by rw[l1,l2];simpa using hl) Uc;have al:=Jd ds es;have hf:(ds.length == es.length)=false:=by simpa using hl
      rw[hf,Bool.and_false]at al;have z:Ml (D.lst ds) (D.lst es)=Ss ds es:=by simp only[Ml]
      rw[z, <-al];exact main
    | tup es =>
     obtain⟨a',Ij,rfl,q',C9⟩:=he;cases ry;obtain⟨its',r',xq,_⟩:=I.tuple q';exact SeqAt.RcNeAt.list_tuple ht xq Uc
    | non=>cases Jq
    | bl _=>cases Jq
    | int _=>cases Jq
    | str _=>cases Jq
   | non=>cases Dx
   | bl _=>cases Dx
   | int _=>cases Dx
   | str _=>cases Dx
section
variable{X:Cx}
inductive rEqD_I(K:W.Frag)(A:Around)(x:V)(y:V)(H:Hp)(Q:VK):Prop
 | mk(d e)(Vg:Gp K H d x)(Vk:Gp K H e y)(V1:A.units+N2 d<cLine)(Jk:Q (.bl (Ml d e)) H)
def rEqD(K:W.Frag)(A:Around):R2:=fun x y H Q=>rEqD_I K A x y H Q
inductive rNeD_I(K:W.Frag)(A:Around)(x:V)(y:V)(H:Hp)(Q:VK):Prop
 | mk(d e)(Vg:Gp K H d x)(Vk:Gp K H e y)(V1:A.units+N2 d<cLine)(Jk:Q (.bl (!Ml d e)) H)
def rNeD(K:W.Frag)(A:Around):R2:=fun x y H Q=>rNeD_I K A x y H Q
theorem Lj:Nd X (compareOp .Eq) (rEqD X.K X.A):=by
 intro pins s σ H x y v u Q I rx ry h;obtain⟨d,e,hd,he,hu,q⟩:=h;exact rcEq_D I d e x y v u X.A hd he rx ry hu (by omega) X.prog X.w X.xe _ ⟨.bl _,H,I,rfl,q⟩
theorem tz:Nd X (compareOp .NotEq) (rNeD X.K X.A):=by
 intro pins s σ H x y v u Q I rx ry h;obtain⟨d,e,hd,he,hu,q⟩:=h;exact rcNe_D I d e x y v u X.A hd he rx ry hu (by omega) X.prog X.w X.xe _ ⟨.bl _,H,I,rfl,q⟩
end
abbrev noE:Value->Shared->Prop:=fun _ _=>False
def av(ifs:List Expr)(env:Env):Sem Bool :=
 forIn ifs true fun c r=>if r=true then (isTrue c env (eval c env) >>= fun b=>pure (ForInStep.yield b)) else pure (ForInStep.yield r)
section
variable(prog:Program)(w:World)(A:Around)(tg elt:Expr)(ifs:List Expr)(env:Env)(it acc:Value)
def qu(nxt:Shared->Prop)(ok:Bool)(s:Shared):Prop :=
 if ok=true then wpAny (model prog w) A (eval elt env) (fun y s1=>wpAny (model prog w) A (call (.builtin "list.append") [acc,y]) (fun _ s2=>nxt s2) noE s1) noE s else nxt s
def Zgj(nxt:Shared->Prop)(v:Value)(s:Shared):Prop :=
 wpAny (model prog w) A (letOwnedTupleGo tg it v) (fun _ s1=>wpAny (model prog w) A (assign tg env v) (fun _ s2=>wpAny (model prog w) A (av ifs env) (qu prog w A elt env acc nxt) noE s2) noE s1) noE s
end
theorem qj{prog:Program}{w:World}{A:Around}{R:Result->Shared->Prop}{s:Shared}{elt tg iter:Expr}{ifs:List Expr}{scope:Scope}{pos:Pos}{it acc:Value}{env:Env}(W:Nat->Shared->Prop)
  (turn:∀m s1,W m s1->wpAny (model prog w) A (pyNext it) (fun r s2=>r.elim (R (.ok .next) s2) fun v=>Zgj prog w A tg elt ifs env it acc (fun s3=>∃m',m'<m/\W m' s3) v s2) noE s1)
  (m:Nat) (start:W m s):codeAny (model prog w) A (.compLoop (.ListComp elt [⟨tg,iter,ifs,0⟩] scope pos) 0 it acc env) R s:=by
 refine codeAny_loop rfl W (fun k s1 hw=>?_) m start;refine wpAny_noted (env:=env) (m:=compTurn (.ListComp elt [⟨tg,iter,ifs,0⟩] scope pos) 0 it acc env) ?_;rw[compTurn_list];refine Zo (wpAny_standAt (Zo (wpAny_mono (turn k s1 hw) (fun r s2 q=>?_) fun _ _ z=>z.elim)));cases r with
 | none=>exact Y7 q
 | some v =>
  have q:Zgj prog w A tg elt ifs env it acc (fun s3=>∃m',m'<k/\W m' s3) v s2:=q;refine Zo (wpAny_mono q (fun _ s3 q3=>Zo (wpAny_mono q3 (fun _ s4 q4=>Zo (wpAny_mono q4 (fun ok s5 q5=>?_) fun _ _ z=>z.elim)) fun _ _ z=>z.elim)) fun _ _ z=>z.elim);cases ok with
  | false=>exact Y7 ⟨rfl,q5⟩
  | true=>exact Zo (Zo (wpAny_mono q5 (fun y s6 q6=>Zo (wpAny_mono q6 (fun _ s7 q7=>Y7 (Y7 ⟨rfl,q7⟩)) fun _ _ z=>z.elim)) fun _ _ z=>z.elim))
def U2(env:Env):List (Str×NameKind)->List (Str×Addr)->List (Str×Addr)
 | [],cs=>cs
 | (n,k)::r,cs=>U2 env r (if k == .free then (n,(env.cells.lookup n).getD 0)::cs else cs)
def Y1(X:Cx)(scope:Scope)(N:List Str)(fp:List Addr)(s:Shared)(H:Hp):Cx :=
 { X with N:=N,s₀:=s,H₀:=H,env:=compEnvC scope (U2 X.env scope.names []) s.heap.objs.size X.env,outer:=X.stack,stack:=X.stack,ex:=fp,fn:=fun _=>false,pn:=[],xe:=noE }
structure ua(X:Cx)(scope:Scope)(N:List Str)(fr:List (Option Nat)):Prop where
 clos:closureFor scope X.env=pure (U2 X.env scope.names [])
 kind:scope.kind=.function
 nocell:∀y∈scope.names,y.2≠.cell
 names:∀y∈scope.names,y.2=.local->scope.names.lookup y.1=some .local
 cells:∀x c,(U2 X.env scope.names []).lookup x=some c->X.env.cells.lookup x=some c
 has:∀x,((relabel scope X.env).names.lookup x=some .cell\/(relabel scope X.env).names.lookup x=some .free)->∃c,(U2 X.env scope.names []).lookup x=some c
 len:fr.length=N.length
 fr:∀(i j:Nat),fr[i]?=some (some j)->∃x,N[i]?=some x/\X.N[j]?=some x/\Vis X.env.scope x/\¬ X.env.kindOf x=some .local/\((relabel scope X.env).names.lookup x=some .cell\/(relabel scope X.env).names.lookup x=some .free)
def O3(fr:List (Option Nat))(σ:St):St:=fr.map fun o=>o.bind fun i=>(σ[i]?).bind id
theorem x8(fr:List (Option Nat))(σ:St):(O3 fr σ).length=fr.length:=Yp _
theorem Zqe{fr:List (Option Nat)}{σ:St}{i:Nat}{v:V}(h:(O3 fr σ)[i]?=some (some v)):∃j,fr[i]?=some (some j)/\σ[j]?=some (some v):=by
 unfold O3 at h;rw[Ma]at h;cases e:fr[i]? with
 | none=>rw[e]at h;cases h
 | some o =>
  rw[e]at h;cases o with
  | none=>cases h
  | some j =>
   refine⟨j,rfl, ?_⟩;have h':(σ[j]?).bind id=some v:=Hn h;cases e2:σ[j]? with
   | none=>rw[e2]at h';cases h'
   | some o2=>rw[e2]at h';exact congrArg some h'
theorem Oo{scope:Scope}{env:Env}{x:Str}{k:NameKind}(h:(relabel scope env).names.lookup x=some k):∃k0,(x,k0)∈scope.names/\(k=k0\/(k0=.free/\k=.cell)):=by
 have hm:=PySem.mem_of_lookup h;obtain⟨⟨n,k0⟩,h1,h2⟩:=Dp.mp (show (x,k)∈scope.names.map _ from hm);dsimp only at h2
 split at h2
 ·rename_i hc
  cases h2;simp only[Iq,beq_iff_eq]at hc;exact⟨k0,h1,.inr ⟨hc.1.1,rfl⟩⟩
 ·cases h2;exact⟨k,h1,.inl rfl⟩
def scOk(outer scope:Scope):Bool :=
 decide (scope.kind=.function) && scope.names.all fun y=>decide (y.2≠.cell) && (decide (y.2≠.local) || decide (scope.names.lookup y.1=some .local)) &&
  (decide (y.2≠.free) || decide (outer.names.lookup y.1=some .cell) || decide (outer.names.lookup y.1=some .free))
def Qt(NX:List Str)(names:List (Str×NameKind)):List Str->List (Option Nat)->Bool
 | [],[]=>true
 | _::N,none::fr=>Qt NX names N fr
 | x::N,some j::fr=>decide (NX[j]?=some x) && decide (names.lookup x=some .free) && Qt NX names N fr
 | _,_=>false
theorem K9{NX:List Str}{names:List (Str×NameKind)}:∀{N:List Str} {fr:List (Option Nat)},Qt NX names N fr=true->fr.length=N.length
 | [],[],_=>rfl
 | [],_::_,h=>by simp[Qt]at h
 | _::_,[],h=>by simp[Qt]at h
 | x::N,none::fr,h=>by
  simp only[Qt]at h;simp only[S6,K9 h]
 | x::N,some j::fr,h=>by
  simp only[Qt,Iq]at h;simp only[S6,K9 h.2]
theorem Hz{NX:List Str}{names:List (Str×NameKind)}:∀{N:List Str} {fr:List (Option Nat)} {i j:Nat},Qt NX names N fr=true->fr[i]?=some (some j)->∃x,N[i]?=some x/\NX[j]?=some x/\names.lookup x=some .free
 | [],[],_,_,_,e=>by simp at e
 | [],_::_,_,_,h,_=>by simp[Qt]at h
 | _::_,[],_,_,h,_=>by simp[Qt]at h
 | x::N,none::fr,0,_,_,e=>by simp at e
 | x::N,none::fr,i+1,j,h,e=>by
  simp only[Qt]at h;obtain⟨y,h1,h2⟩:=Hz (i:=i) h (by simpa using e);exact⟨y,by simpa using h1,h2⟩
 | x::N,some k::fr,0,j,h,e=>by
  simp only[Qt,Iq,decide_eq_true_eq]at h;simp at e;subst e;exact⟨x,rfl,h.1.1,h.1.2⟩
 | x::N,some k::fr,i+1,j,h,e=>by
  simp only[Qt,Iq]at h;obtain⟨y,h1,h2⟩:=Hz (i:=i) h.2 (by simpa using e);exact⟨y,by simpa using h1,h2⟩
theorem Ta{f:Str->NameKind->NameKind}(x:Str):∀names:List (Str×NameKind),(names.map fun p=>(p.1,f p.1 p.2)).lookup x=(names.lookup x).map (f x)
 | []=>rfl
 | (n,k)::r=>by
  have ih:=Ta (f:=f) x r;cases e:x == n with
  | false =>
   simp only[R5,List.lookup_cons,e];exact ih
  | true =>
   have e':x=n:=by simpa using e
   simp only[R5,List.lookup_cons,e,Option.map_some];rw[e']
theorem Ab(scope:Scope)(env:Env):(relabel scope env).names=scope.names.map fun p=>(p.1,if (p.2 == NameKind.free && env.scope.kind == .function && env.kindOf p.1 == some .cell)=true then NameKind.cell else p.2):=by
 show scope.names.map _=_;refine List.map_congr_left fun p _=>?_;obtain⟨n,k⟩:=p;dsimp only
 split<;>rfl
theorem Wx{scope:Scope}{env:Env}{x:Str}(h:scope.names.lookup x=some .free):(relabel scope env).names.lookup x=some .cell\/(relabel scope env).names.lookup x=some .free:=by
 rw[Ab,Ta (f:=fun n k=>if (k == NameKind.free && env.scope.kind == .function && env.kindOf n == some .cell)=true then NameKind.cell else k),h];dsimp only[Option.map_some]
 split
 ·exact .inl rfl
 ·exact .inr rfl
theorem Hv{env:Env}:∀{names:List (Str×NameKind)} {cs:List (Str×Addr)},(∀y∈names,y.2=.free->∃c,env.cells.lookup y.1=some c)->(∀p∈cs,env.cells.lookup p.1=some p.2)->∀p∈U2 env names cs,env.cells.lookup p.1=some p.2
 | [],cs,_,hc,p,hp=>hc p hp
 | (n,k)::r,cs,hn,hc,p,hp=>by
  simp only[U2]at hp;refine Hv (fun y hy=>hn y (Rq _ hy)) (fun q hq=>?_) p hp
  split at hq
  ·rename_i hk
   rcases G2.mp hq with e | hq
   ·obtain⟨c,hc'⟩:=hn (n,k) Te (by simpa using hk);subst e;dsimp only at hc' ⊢;rw[hc']
    rfl
   ·exact hc q hq
  ·exact hc q hq
theorem Hw{env:Env}:∀{names:List (Str×NameKind)} {cs:List (Str×Addr)} {p:Str×Addr},p∈cs->p∈U2 env names cs
 | [],_,_,h=>h
 | (n,k)::r,cs,p,h=>by
  simp only[U2];refine Hw ?_
  split
  ·exact Rq _ h
  ·exact h
theorem Hy{env:Env}:∀{names:List (Str×NameKind)} {cs:List (Str×Addr)} {x:Str},(x,NameKind.free)∈names->∃c,(x,c)∈U2 env names cs
 | (n,k)::r,cs,x,h=>by
  rcases G2.mp h with e | h
  ·cases e;exact⟨_,by simp only[U2,B0s,if_true];exact Hw Te⟩
  ·simp only[U2];exact Hy h
theorem Wg{β:Type}:∀{l:List (Str×β)} {x:Str} {b:β},(x,b)∈l->∃c,l.lookup x=some c
 | (n,c)::r,x,b,h=>by
  cases hx:x == n with
  | true=>exact⟨c,by simp only[List.lookup_cons,hx]⟩
  | false =>
   rcases G2.mp h with e | h
   ·cases e;simp at hx
   ·obtain⟨d,hd⟩:=Wg h;exact⟨d,by simp only[List.lookup_cons,hx];exact hd⟩
theorem Ae{scope:Scope}{env:Env}(h:∀y∈scope.names,y.2=.free->∃c,env.cells.lookup y.1=some c):closureFor scope env=pure (U2 env scope.names []):=by
 have go:∀(names:List (Str×NameKind)) (cs:List (Str×Addr)),(∀y∈names,y.2=.free->∃c,env.cells.lookup y.1=some c) ->
   (forIn names cs fun x cs=>(do
    if x.2 == NameKind.free then pure (ForInStep.yield ((x.1, <-cellOf env x.1)::cs)) else pure (ForInStep.yield cs):Sem (ForInStep (List (Str×Addr)))))=pure (U2 env names cs):=by
  intro names
  induction names with
  | nil=>intro cs _;rfl
  | cons y r ih =>
   intro cs hn;obtain⟨n,k⟩:=y;have hr:∀y∈r,y.2=.free->∃c,env.cells.lookup y.1=some c:=fun y hy=>hn y (Rq _ hy);rw[List.forIn_cons];by_cases hk:k=.free
   ·subst hk;obtain⟨c,hc⟩:=hn (n,.free) Te rfl
    have ec:cellOf env n=pure c:=by
     unfold cellOf;dsimp only at hc;rw[hc]
    simp only[B0s,if_true,ec,pure_bind,U2];rw[ih _ hr];dsimp only at hc;rw[hc]
    rfl
   ·have hb:(k == NameKind.free)=false:=by simpa using hk
    simp only[hb,B0f,if_false,pure_bind,U2];exact ih _ hr
 have:=go scope.names [] h;unfold closureFor;simp only[bind_pure_comp]at this ⊢
 first
  | exact this
  | (simpa using this)
structure Fq(X:Cx)(NX:List Str)(outer scope:Scope)(N:List Str)(fr:List (Option Nat)):Prop where
 nx:X.N=NX
 sc:X.env.scope.names=outer.names
 ok1:scOk outer scope=true
 ok2:Qt NX scope.names N fr=true
theorem Fq.ok{X:Cx}{NX:List Str}{outer scope:Scope}{N:List Str}{fr:List (Option Nat)}(C:Fq X NX outer scope N fr)(ok:X.Ok):ua X scope N fr:=by
 have h1:=C.ok1;unfold scOk at h1;simp only[Iq,decide_eq_true_eq,Wv,Bool.or_eq_true]at h1;obtain⟨hk,hn⟩:=h1
 have kof:∀x,X.env.kindOf x=outer.names.lookup x:=fun x=>by
  show X.env.scope.names.lookup x=_;rw[C.sc]
 have yy:∀y∈scope.names,y.2=.free->X.env.kindOf y.1=some .cell\/X.env.kindOf y.1=some .free:=fun y hy e=>by
  rcases(hn y hy).2 with (z | z) | z
  ·exact absurd e z
  ·exact .inl ((kof _).trans z)
  ·exact .inr ((kof _).trans z)
 have yg:∀y∈scope.names,y.2=.free->∃c,X.env.cells.lookup y.1=some c:=fun y hy e=>ok.has y.1 (yy y hy e);refine⟨Ae yg,hk,fun y hy=>(hn y hy).1.1,fun y hy e=>?_,fun x c e=>?_,fun x h=>?_,K9 C.ok2,fun i j e=>?_⟩
 ·rcases(hn y hy).1.2 with z | z
  ·exact absurd e z
  ·exact z
 ·exact Hv yg (fun p hp=>by cases hp) (x,c) (PySem.mem_of_lookup e)
 ·have hm:(x,NameKind.free)∈scope.names:=by
   rcases h with h | h
   ·obtain⟨k0,h1,h2⟩:=Oo h;rcases h2 with h2 | ⟨h2,_⟩
    ·exact absurd h2.symm (hn _ h1).1.1
    ·subst h2;exact h1
   ·obtain⟨k0,h1,h2⟩:=Oo h;rcases h2 with h2 | ⟨_,h2⟩
    ·subst h2;exact h1
    ·cases h2
  obtain⟨c,hc⟩:=Hy (env:=X.env) (cs:=[]) hm;exact Wg hc
 ·obtain⟨x,q1,q2,q3⟩:=Hz C.ok2 e;have hm:=PySem.mem_of_lookup q3;have hf:=yy (x,.free) hm rfl;refine⟨x,q1,by rw[C.nx];exact q2, ?_, ?_,Wx q3⟩
  ·exact .inr hf
  ·intro z;dsimp only at hf;rw[z]at hf;rcases hf with hf | hf<;>cases hf
section
variable{X:Cx}{scope:Scope}{N:List Str}{fr:List (Option Nat)}{pins:Uv}{σ:St}{H:Hp}{s:Shared}{fp:List Addr}
theorem Zy1(C:ua X scope N fr)(I:Zi X pins σ H s)(hf:∀b∈fp,Q9 X pins H b)(hob:∀b∈fp,∃o,s.heap.get? b=some o){h1:Heap}{tk:Nat}
  (hns:h1.Ns s.heap.objs.size fun _=>none) (hk:∀b o,s.heap.get? b=some o->h1.get? b=some o) :
  Zi (Y1 X scope N fp s H) [] (O3 fr σ) H { s with heap:=h1,toks:=tk }:=by
 have lt:∀b∈fp,b<s.heap.objs.size:=fun b hb=>let ⟨_,e⟩:=hob b hb;Du e;have cellK:∀x c,(U2 X.env scope.names []).lookup x=some c->∃v,s.heap.IsCell c v:=fun x c e=>I.cell x c (C.cells x c e);have ck:∀c v,s.heap.IsCell c v->h1.IsCell c v:=fun c v ⟨o,e,d⟩=>⟨o,hk c o e,d⟩
 refine⟨⟨I.ok.mod,C.kind,I.ok.glob,I.ok.blt,Vj _,fun x y c e1 e2=>I.ok.inj x y c (C.cells x c e1) (C.cells y c e2),fun x h=>C.has x h,fun x c h _=>absurd h T7,I.ok.hd,I.ok.frames,.inl rfl,
   fun b hb=>⟨Oj (lt b hb),fun x c e=>(hf b hb).2.2.2.2.1 x c (C.cells x c e)⟩,I.bs,Gw I.ok.bsz I.sz,fun b o e hb=>?_,fun b hb hb'=>?_,I.stack,I.stkFree⟩,
  rfl,I.bare,Un.kept hk,⟨_,hns,fun i x v e1 e2 e3=>?_⟩,fun x c e=>?_,I.hok.fresh (Vj _),fun x c e=>I.freeC x c (C.cells x c e),fun p hp=>absurd (show p∈([]:Uv) from hp) (by simp),I.hok.kept hk, ?_⟩
 ·rcases(hf b hb).2.2.2.1 with z | z
  ·exact I.ok.noex b o e z
  ·exact absurd (Hh (Du (I.ok.bs b o e).1) z) (Nat.lt_irrefl _)
 ·rcases G2.mp (I.stkSub b hb') with z | z
  ·exact(hf b hb).2.1 z
  ·exact(hf b hb).2.2.1 z
 ·obtain⟨j,q1,q2⟩:=Zqe e2;obtain⟨x',n1,n2,vis,nl,k⟩:=C.fr i j q1;have ex:x=x':=Hn (e1.symm.trans n1);subst ex;obtain⟨m,hm,hl⟩:=I.loc;obtain⟨u,r,l⟩:=hl j x v n2 q2 vis;refine⟨u,r, ?_⟩;rcases l with ⟨l1,_⟩ | ⟨_,c,l2,l3⟩
  ·exact absurd l1 nl
  ·obtain⟨c',hc'⟩:=C.has x k;have ec:=C.cells x c' hc';rw[l2]at ec;have ec':c=c':=Hn ec;subst ec';exact .inr ⟨k,c,hc',ck c _ l3⟩
 ·obtain⟨v,z⟩:=cellK x c e;exact⟨v,ck c v z⟩
 ·show (O3 fr σ).length=N.length;rw[x8,C.len]
theorem lr(I:Zi X pins σ H s)(hf:∀b∈fp,Q9 X pins H b){σ':St}{H':Hp}{s':Shared}(J:Zi (Y1 X scope N fp s H) [] σ' H' s'):Zi X pins σ H' s' :=
 I.call' (ch:=fp) J.os J.base J.hok J.bare fun b hb=>⟨(hf b hb).2.2.2.1,(hf b hb).2.1,(hf b hb).2.2.2.2.1,(hf b hb).2.2.2.2.2⟩
end
def PTs(X:Cx)(ifs:List Expr)(t:TT):Prop :=
 ∀(pins:Uv) (s:Shared) (σ:St) (H:Hp) (Q:Bool->Hp->Prop),Zi X pins σ H s->t σ H Q ->
  wpAny (model X.prog X.w) X.A (av ifs X.env) (TP X pins σ Q) X.xe s
def Jt:TT:=fun _ H Q=>Q true H
theorem Z1{X:Cx}:PTs X [] Jt:=fun _ _ _ H _ I h=>wpAny_tests_nil ⟨H,I,h⟩
theorem Rp{X:Cx}{c:Expr}{t:TT}(h:PT X c t):PTs X [c] t:=fun pins s σ H Q I hw=>wpAny_tests_one (h pins s σ H Q I hw)
def Nm(J:It)(g:TG)(tt:TT)(te:TE)(D:Addr)(W:Nat->Nat->List V->St->Hp->Prop)(fin:Hp->Prop):Prop :=
 ∀i m ys σ H,W i m ys σ H->H D=some (.lst ys)/\((J.stop i H/\fin H)\/(J.go i H/\∃N:List V->St->Hp->Prop,(∀ys' σ' H',N ys' σ' H'->∃m',m'<m/\W (i+1) m' ys' σ' H') /\
  ∀x H',J.yld i H x H'->g x σ H' fun σ2 H2=>tt σ2 H2 fun ok H3 =>
   if ok=true then te σ2 H3 fun y H4=>H4 D=some (.lst ys)/\ys.length<sizeLine/\N (ys++[y]) σ2 (Yq H4 D (.lst (ys++[y]))) else N ys σ2 H3))
abbrev DG:=List Addr->Shared->Hp->TG
abbrev DT:=List Addr->Shared->Hp->TT
abbrev DE:=List Addr->Shared->Hp->TE
def Iy(wi:TI)(fr:List (Option Nat))(g:DG)(tt:DT)(te:DE):TE:=fun σ H Q=>wi σ H fun J H1=>∀D fp sx,H1 D=none ->
 ∃W:Nat->Nat->List V->St->Hp->Prop,(∃m,W 0 m [] (O3 fr σ) (Yq H1 D (.lst [])))/\Nm J (g fp sx (Yq H1 D (.lst []))) (tt fp sx (Yq H1 D (.lst []))) (te fp sx (Yq H1 D (.lst []))) D W (fun H=>Q (.ref D) H)
section
variable{X:Cx}{scope:Scope}{N:List Str}{fr:List (Option Nat)}{tg elt iter:Expr}{ifs:List Expr}{pos:Pos}{wi:TI}{g:DG}{tt:DT}{te:DE}
theorem yo{pins:Uv}{σ:St}{s2:Shared}{it:Addr}{fp:List Addr}{tn:Nat->Heap->Prop}{J:It}{H2:Hp}{RR:Value->Addr->Result->Shared->Prop}{E:Vt}
  (hc:X.calm=true) (C:ua X scope N fr)
  (hg:∀fp s H,PG (Y1 X scope N fp s H) tg (g fp s H)) (ht:∀fp s H,PTs (Y1 X scope N fp s H) ifs (tt fp s H)) (he:∀fp s H,PE (Y1 X scope N fp s H) elt (te fp s H))
  (I2:Zi X pins σ H2 s2) (T:A8 X.prog X.w X.K tg J fp it tn) (st2:tn 0 s2.heap) (f2:∀b∈fp,Q9 X pins H2 b) {fin:Addr->Hp->Prop}
  (hW:∀D fp sx,H2 D=none->∃W:Nat->Nat->List V->St->Hp->Prop,(∃m,W 0 m [] (O3 fr σ) (Yq H2 D (.lst [])))/\Nm J (g fp sx (Yq H2 D (.lst []))) (tt fp sx (Yq H2 D (.lst []))) (te fp sx (Yq H2 D (.lst []))) D W (fin D))
  (Zy9:∀D Cc s' σ' H' m,Zi X pins σ H' s'->H' Cc=none->Cc≠X.env.locals->Cc ∉ X.fs->X.s₀.heap.objs.size<=Cc->(∀x c,X.env.cells.lookup x=some c->c≠Cc)->(∀p∈X.pn++pins,p.1≠Cc)->s'.heap.Ns Cc m->fin D H' ->
   RR (.ref D) Cc (.ok σ') s') :
  wpAny (model X.prog X.w) X.A (newList []) (fun acc s₃=>wpAny (model X.prog X.w) X.A (newFunctionEnv scope X.env.globals (U2 X.env scope.names []) [] X.env.qual none .none (some X.env)) (fun cenv s₄ =>
   codeAny (model X.prog X.w) X.A (.compStart (.ListComp elt [⟨tg,iter,ifs,0⟩] scope pos) 0 (.ref it) acc { cenv with scope:=relabel scope X.env }) (RR acc cenv.locals) s₄) E s₃) E s2:=by
 refine wpAny_newObj_type (wpAny_newFunctionEnv C.nocell (by intro y hy;simp at hy) (fun h₁ hns₁ hsb₁=>?_) C.kind);dsimp only at hns₁ hsb₁ ⊢
 have I3:Zi X pins σ (Yq H2 s2.heap.objs.size (.lst [])) { s2 with heap:=s2.heap.push { cls:=.type "list",dict:=none,data:=.seq ([]:List Value).toArray } } :=
  I2.laid (t':=s2.toks) (fun b o e=>G4 _ e) (Vj _) ⟨Wl _,[],0,.nil,Rj _ rfl⟩
 have hD:H2 s2.heap.objs.size=none:=I2.hok.fresh (Vj _);obtain⟨W,⟨m0,w0⟩,turn⟩:=hW _ fp { s2 with heap:=s2.heap.push { cls:=.type "list",dict:=none,data:=.seq ([]:List Value).toArray } } hD;generalize hDD:s2.heap.objs.size=D at *;generalize hS3:({ s2 with heap:=s2.heap.push { cls:=.type "list",dict:=none,data:=.seq ([]:List Value).toArray } }:Shared)=S3 at *;have hS3h:s2.heap.push { cls:=.type "list",dict:=none,data:=.seq ([]:List Value).toArray }=S3.heap:=by rw[<-hS3]
 rw[hS3h]at hns₁ hsb₁ ⊢;have obj2:=T.obj 0 _ st2
 have nD:∀b∈fp,b≠D:=fun b hb z=>by
  obtain⟨o,e,_⟩:=obj2 b hb;have q:=Du e;rw[hDD,z]at q;exact absurd q (Nat.lt_irrefl _)
 have f3:∀b∈fp,Q9 X pins (Yq H2 D (.lst [])) b:=fun b hb=>⟨by rw[Zl (nD b hb)];exact(f2 b hb).1,(f2 b hb).2⟩
 have ob3:∀b∈fp,∃o,S3.heap.get? b=some o:=fun b hb=>by
  obtain⟨o,e,_⟩:=obj2 b hb;exact⟨o,by rw[<-hS3h];exact G4 _ e⟩
 have st3:tn 0 S3.heap:=T.keep _ _ _ st2 fun b hb o e=>by rw[<-hS3h];exact G4 _ e
 have hk1:∀b o,S3.heap.get? b=some o->h₁.get? b=some o:=fun b o e=>hsb₁.extBut b o (Oj (Du e)) (G4 _ e);have J1:Zi (Y1 X scope N fp S3 (Yq H2 D (.lst []))) [] (O3 fr σ) (Yq H2 D (.lst [])) { S3 with heap:=h₁,toks:=s2.toks+([]:List (Str×Value)).length }:=Zy1 C I3 f3 ob3 hns₁ hk1;have st4:tn 0 h₁:=T.keep _ _ _ st3 fun b hb o e=>hk1 b o e;have es:({ s2 with heap:=h₁,toks:=s2.toks+([]:List (Str×Value)).length }:Shared)={ S3 with heap:=h₁,toks:=s2.toks+([]:List (Str×Value)).length }:=by rw[<-hS3]
 have FpC:∀{H':Hp},(∀b∈fp,H' b=none)->∀b∈fp,Q9 (Y1 X scope N fp S3 (Yq H2 D (.lst []))) [] H' b:=fun hn b hb =>
  ⟨hn b hb,(J1.ok.exf b hb).1,J1.ok.exfs b hb,.inl hb,(J1.ok.exf b hb).2,fun p hp=>absurd (show p∈([]:Uv) from hp) (by simp)⟩
 have loop:codeAny (model X.prog X.w) X.A (.compLoop (.ListComp elt [⟨tg,iter,ifs,0⟩] scope pos) 0 (.ref it) (.ref D) (Y1 X scope N fp S3 (Yq H2 D (.lst []))).env) (RR (.ref D) S3.heap.objs.size)
   { S3 with heap:=h₁,toks:=s2.toks+([]:List (Str×Value)).length }:=by
  refine qj (fun n s'=>∃i ys σ' H',Zi (Y1 X scope N fp S3 (Yq H2 D (.lst []))) [] σ' H' s'/\tn i s'.heap/\(∀b∈fp,H' b=none)/\W i n ys σ' H') ?_ m0 ⟨0,[],_,_,J1,st4,fun b hb=>(f3 b hb).1,w0⟩;rintro n s5 ⟨i,ys,σ5,H5,J5,st5,fr5,w5⟩;obtain⟨hDl,alt⟩:=turn i n ys σ5 H5 w5;rcases alt with ⟨stop,fi⟩ | ⟨go,NN,hNN,step⟩
  ·refine V0 (T.done (Y1 X scope N fp S3 (Yq H2 D (.lst []))) rfl rfl rfl hc i [] s5 σ5 H5 noE J5 (FpC fr5) st5 stop) fun r s6 ⟨hr,J6⟩=>?_;subst hr;show RR (.ref D) S3.heap.objs.size (.ok .next) s6;have I6:=lr I3 f3 J6;obtain⟨mm,hmm,_⟩:=J6.loc;refine Zy9 D _ s6 _ H5 mm I6 J6.free ?_ ?_ ?_ ?_ ?_ hmm fi
   ·exact Nat.ne_of_gt I3.lt
   ·exact I3.nofs (Vj _)
   ·exact I3.sz
   ·intro x c e z;obtain⟨v,q⟩:=I3.cell x c e;exact absurd q.lt (by rw[z];exact Nat.lt_irrefl _)
   ·intro p hp z;exact absurd (Du (I3.pin p hp).1) (by rw[z];exact Nat.lt_irrefl _)
  ·refine V0 (T.item (Y1 X scope N fp S3 (Yq H2 D (.lst []))) rfl rfl rfl hc i [] s5 σ5 H5 noE J5 (FpC fr5) st5 go) fun r s6 ⟨u,hr,h6⟩=>?_;subst hr;refine V0 (Q:=_) h6 fun _ s7 ⟨x,H7,J7,r7,y7,st7,fr7⟩=>?_;have J7':=J7.pinned (FpC fr7) (T.obj _ _ st7)
   have back:∀{σ9:St} {H9:Hp} {s9:Shared},Zi (Y1 X scope N fp S3 (Yq H2 D (.lst []))) ([]++Kz fp s7.heap) σ9 H9 s9->tn (i+1) s9.heap/\∀b∈fp,H9 b=none:=fun {σ9 H9 s9} J9 =>
    ⟨T.keep _ _ _ st7 fun b hb o e=>(J9.pin (b,o) (M0r _ (M0r _ (Tx hb e)))).1,fun b hb=>by
     obtain⟨o,e,d⟩:=T.obj _ _ st7 b hb;exact(J9.pin (b,o) (M0r _ (M0r _ (Tx hb e)))).2.1⟩
   refine V0 (hg fp S3 _ _ s7 σ5 H7 x u _ J7' r7 (step x H7 y7)) fun _ s8 ⟨σ8,H8,J8,q8⟩=>?_;refine V0 (ht fp S3 _ _ s8 σ8 H8 _ J8 q8) fun ok s9 ⟨H9,J9,q9⟩=>?_;cases ok with
   | false =>
    rw[if_neg T7]at q9;unfold qu;rw[if_neg T7];obtain⟨m',hm,w9⟩:=hNN _ _ _ q9;exact⟨m',hm,i+1,ys,σ8,H9,J9.unpinned,(back J9).1,(back J9).2,w9⟩
   | true =>
    rw[if_pos rfl]at q9;unfold qu;rw[if_pos rfl];refine V0 (he fp S3 _ _ s9 σ8 H9 _ J9 q9) fun yv W7 ⟨y,H10,J10,r10,hD10,hz,n10⟩=>?_;obtain⟨m',hm,w10⟩:=hNN _ _ _ n10;refine V0 (Pu (X:=Y1 X scope N fp S3 (Yq H2 D (.lst []))) _ W7 σ8 H10 (.ref D) [y] (.ref D) [yv] (fun _ H'=>H'=Yq H10 D (.lst (ys++[y]))) J10 rfl (.cons r10 .nil) ⟨D,ys,y,rfl,rfl,hD10,hz,rfl⟩) fun _ s11 ⟨v11,H11,J11,_,e11⟩=>?_;subst e11;exact⟨m',hm,i+1,ys++[y],σ8,_,J11.unpinned,(back J11).1,(back J11).2,w10⟩
 rw[es];exact codeAny_compStart_list loop (T.self _ 0 _ _ _ st4 loop)
theorem Zf5{NX:List Str}{outer:Scope}(hc:X.calm=true)(hi:PI X tg iter wi)(C:Fq X NX outer scope N fr)
  (hg:∀fp s H,PG (Y1 X scope N fp s H) tg (g fp s H)) (ht:∀fp s H,PTs (Y1 X scope N fp s H) ifs (tt fp s H)) (he:∀fp s H,PE (Y1 X scope N fp s H) elt (te fp s H))
  (hs:∀x,foldedSetIterable iter X.env x=pure x:=by intro _;rfl):PE X (.ListComp elt [⟨tg,iter,ifs,0⟩] scope pos) (Iy wi fr g tt te):=by
 intro pins s σ H Q I h;have C:=C.ok I.ok;rw[eval_ListComp];refine wpAny_comprehension_free (use:=none) rfl hs C.clos C.kind C.names (V0 (hi pins s σ H _ I h) fun v s1 h1=>V0 h1 fun itv s2 h2=>?_);obtain⟨it,fp,tn,J,H2,e,I2,T,st2,f2,hW⟩:=h2;subst e;refine yo (RR:=fun acc Cc=>compPost (model X.prog X.w) X.A X.xe none (EP X pins σ Q) acc Cc) hc C hg ht he I2 T st2 f2 hW ?_;intro D Cc s' fl H' m I' f0 f1 f2' f3 f4 f5 hns fi;refine⟨m,hns,fun h' sb=>?_⟩;exact⟨.ref D,H',I'.turned (t':=s'.toks) (fun b o hb e=>(sb.2 b hb).trans e) f0 f1 (.inr f3) f4 f5,rfl,fi⟩
theorem dn{NX:List Str}{outer:Scope}{i:Nat}{x:Str}{pos' M8:Pos}(hN:X.N.Nodup)(hix:X.N[i]?=some x)(hx:Loc X.env.scope x)(hc:X.calm=true)(hi:PI X tg iter wi)(C:Fq X NX outer scope N fr)
  (hg:∀fp s H,PG (Y1 X scope N fp s H) tg (g fp s H)) (ht:∀fp s H,PTs (Y1 X scope N fp s H) ifs (tt fp s H)) (he:∀fp s H,PE (Y1 X scope N fp s H) elt (te fp s H))
  (hsw:swapsWith (.ListComp elt [⟨tg,iter,ifs,0⟩] scope pos) (some (.Name x pos')) M8.line X.env=pure true:=by rfl)
  (hs:∀x,foldedSetIterable iter X.env x=pure x:=by intro _;rfl) (hf:X.fn x=true\/X.env.scope.names.lookup x=some .local:=by first | exact .inl rfl | exact .inr rfl | assumption) :
  PS X (.Assign [.Name x pos'] (.ListComp elt [⟨tg,iter,ifs,0⟩] scope pos) M8) (Zxk (Iy wi fr g tt te) (Jv i)):=by
 intro pins s σ H Dd I h;have C:=C.ok I.ok;rw[exec_Assign_Name_used _ _ _ _ hsw];refine Zo (wpAny_standAt (Zo ?_));show wpAny _ X.A (do let _ <-comprehension (.ListComp elt [⟨tg,iter,ifs,0⟩] scope pos) scope X.env _ (newList []) false (eval iter X.env) (some (assign (.Name x pos') X.env))) _ _ s
 refine Zo (wpAny_mono (wpAny_comprehension_free (use:=some (assign (.Name x pos') X.env)) (Q:=fun _ s'=>SP X pins Dd .next s') rfl hs C.clos C.kind C.names
  (V0 (hi pins s σ H _ I h) fun v s1 h1=>V0 h1 fun itv s2 h2=>?_)) (fun _ s' hq=>Y7 (Y7 hq)) fun _ _ e=>e)
 obtain⟨it,fp,tn,J,H2,e,I2,T,st2,f2,hW⟩:=h2;subst e;refine yo (RR:=fun acc Cc=>compPost (model X.prog X.w) X.A X.xe (some (assign (.Name x pos') X.env)) (fun _ s'=>SP X pins Dd .next s') acc Cc) hc C hg ht he I2 T st2 f2 hW ?_;intro D Cc s' fl H' m I' f0 f1 f2' f3 f4 f5 hns fi;show wpAny _ X.A (assign (.Name x pos') X.env (.ref D)) _ _ _;refine wpAny_assign_Name (Ib (v:=.ref D) I' hN hix hx rfl (fun s3 I3 ⟨a,sb,ha⟩=>?_) hf)
 have na:Cc≠a:=by
  rcases ha with z | z
  ·rw[z];exact f1
  ·exact fun q=>f4 x a z q.symm
 refine⟨m,hns.sameBut sb na,fun h' sb'=>?_⟩;exact⟨_,H',I3.turned (t':=s3.toks) (fun b o hb e=>(sb'.2 b hb).trans e) f0 f1 (.inr f3) f4 f5,fi⟩
end
theorem D6{K:PySem.W.Frag}{a D:Addr}{xs:List V}{g:TG}{tt:TT}{te:TE}{fin:Hp->Prop}{σ0:St}{H0:Hp}(Pv:Nat->List V->St->Hp->Prop)(h0:Pv 0 [] σ0 H0)
  (hq:∀i ys σ H,i<=xs.length->Pv i ys σ H->Yv K H a xs/\H D=some (.lst ys))
  (hs:∀i x ys σ H,xs[i]?=some x->Pv i ys σ H->g x σ H fun σ2 H2=>tt σ2 H2 fun ok H3=>if ok=true then te σ2 H3 fun y H4=>H4 D=some (.lst ys)/\ys.length<sizeLine/\Pv (i+1) (ys++[y]) σ2 (Yq H4 D (.lst (ys++[y]))) else Pv (i+1) ys σ2 H3)
  (hd:∀ys σ H,Pv xs.length ys σ H->fin H):∃W:Nat->Nat->List V->St->Hp->Prop,(∃m,W 0 m [] σ0 H0)/\Nm (Itt K a) g tt te D W fin:=by
 refine⟨fun i m ys σ H=>m=xs.length - i/\i<=xs.length/\Pv i ys σ H,⟨xs.length,by simp,Wl _,h0⟩, ?_⟩;rintro i m ys σ H ⟨rfl,hi,p⟩;obtain⟨q,hD⟩:=hq i ys σ H hi p;refine⟨hD, ?_⟩;by_cases Nc:i<xs.length
 ·refine .inr ⟨⟨xs,xs[i],q,by simp[Nc]⟩,Pv (i+1),fun ys' σ' H' p'=>⟨xs.length - (i+1),by omega,rfl,Nc,p'⟩,fun x H' y=>?_⟩;obtain⟨e,y⟩:=y;subst e;exact hs i x ys σ _ (y xs q) p
 ·have e:i=xs.length:=by omega
  subst e;exact .inl ⟨⟨xs,q,Vj _⟩,hd ys σ H p⟩
theorem Jw{K:PySem.W.Frag}{a D:Addr}{xs:List V}{g:TG}{tt:TT}{te:TE}{fin:Hp->Prop}{σ0:St}{H0:Hp}(Pv:Nat->List V->St->Hp->Prop)(h0:Pv 0 [] σ0 H0)
  (hq:∀i ys σ H,i<=xs.length->Pv i ys σ H->Z0 K H a xs/\H D=some (.lst ys))
  (hs:∀i x ys σ H,xs[i]?=some x->Pv i ys σ H->g x σ H fun σ2 H2=>tt σ2 H2 fun ok H3=>if ok=true then te σ2 H3 fun y H4=>H4 D=some (.lst ys)/\ys.length<sizeLine/\Pv (i+1) (ys++[y]) σ2 (Yq H4 D (.lst (ys++[y]))) else Pv (i+1) ys σ2 H3)
  (hd:∀ys σ H,Pv xs.length ys σ H->fin H):∃W:Nat->Nat->List V->St->Hp->Prop,(∃m,W 0 m [] σ0 H0)/\Nm (Itl K a) g tt te D W fin:=by
 refine⟨fun i m ys σ H=>m=xs.length - i/\i<=xs.length/\Pv i ys σ H,⟨xs.length,by simp,Wl _,h0⟩, ?_⟩;rintro i m ys σ H ⟨rfl,hi,p⟩;obtain⟨q,hD⟩:=hq i ys σ H hi p;refine⟨hD, ?_⟩;by_cases Nc:i<xs.length
 ·refine .inr ⟨⟨xs,xs[i],q,by simp[Nc]⟩,Pv (i+1),fun ys' σ' H' p'=>⟨xs.length - (i+1),by omega,rfl,Nc,p'⟩,fun x H' y=>?_⟩;obtain⟨e,y⟩:=y;subst e;exact hs i x ys σ _ (y xs q) p
 ·have e:i=xs.length:=by omega
  subst e;exact .inl ⟨⟨xs,q,Vj _⟩,hd ys σ H p⟩
theorem Dw{lo:Int}{n:Nat}{D:Addr}{g:TG}{tt:TT}{te:TE}{fin:Hp->Prop}{σ0:St}{H0:Hp}(Pv:Nat->List V->St->Hp->Prop)(h0:Pv 0 [] σ0 H0)
  (hq:∀i ys σ H,i<=n->Pv i ys σ H->H D=some (.lst ys))
  (hs:∀i ys σ H,i<n->Pv i ys σ H->g (.int (lo+i)) σ H fun σ2 H2=>tt σ2 H2 fun ok H3=>if ok=true then te σ2 H3 fun y H4=>H4 D=some (.lst ys)/\ys.length<sizeLine/\Pv (i+1) (ys++[y]) σ2 (Yq H4 D (.lst (ys++[y]))) else Pv (i+1) ys σ2 H3)
  (hd:∀ys σ H,Pv n ys σ H->fin H):∃W:Nat->Nat->List V->St->Hp->Prop,(∃m,W 0 m [] σ0 H0)/\Nm (Itr lo n) g tt te D W fin:=by
 refine⟨fun i m ys σ H=>m=n - i/\i<=n/\Pv i ys σ H,⟨n,by simp,Wl _,h0⟩, ?_⟩;rintro i m ys σ H ⟨rfl,hi,p⟩;refine⟨hq i ys σ H hi p, ?_⟩;by_cases Nc:i<n
 ·refine .inr ⟨Nc,Pv (i+1),fun ys' σ' H' p'=>⟨n - (i+1),by omega,rfl,Nc,p'⟩,fun x H' y=>?_⟩;obtain⟨e,y⟩:=y;subst e y;exact hs i ys σ _ Nc p
 ·have e:i=n:=by omega
  subst e;exact .inl ⟨Vj _,hd ys σ H p⟩
end L2
namespace SetM
open PySem
def Ris(xs:Array Nat):Prop:=∀a b (h:a<b) (hb:b<xs.size),xs[a]'(Nat.lt_trans h hb)<xs[b]
theorem xh{xs:Array Nat}{i d:Nat}(h:i<xs.size):xs.getD i d=xs[i]:=by simp[Array.getD,h]
theorem xl{xs:Array Nat}{j:Nat}(hr:Ris xs):∀(fuel lo hi:Nat),hi - lo<=fuel->lo<=hi->hi<=xs.size->(∀i (h:i<xs.size),i<lo->xs[i]<j)->(∀i (h:i<xs.size),hi<=i->j<=xs[i]) ->
  (∀i (h:i<xs.size),i<SetTable.below.go xs j fuel lo hi->xs[i]<j)/\(∀i (h:i<xs.size),SetTable.below.go xs j fuel lo hi<=i->j<=xs[i])/\SetTable.below.go xs j fuel lo hi<=xs.size
 | 0,lo,hi,hf,hl,hs,h1,h2=>by
  have e:lo=hi:=by omega
  subst e;simp only[SetTable.below.go];exact⟨h1,h2,hs⟩
 | fuel+1,lo,hi,hf,hl,hs,h1,h2=>by
  simp only[SetTable.below.go];by_cases h:lo<hi
  ·rw[if_pos h];have hm:(lo+hi) / 2<xs.size:=by omega
   rw[xh hm];by_cases hc:xs[(lo+hi) / 2]<j
   ·rw[if_pos hc];refine xl hr fuel _ _ (by omega) (by omega) hs (fun i hi' Nc=>?_) h2;rcases Nat.lt_or_ge i ((lo+hi) / 2) with z | z
    ·exact Nat.lt_trans (hr i _ z hm) hc
    ·have e:i=(lo+hi) / 2:=by omega
     subst e;exact hc
   ·rw[if_neg hc];refine xl hr fuel _ _ (by omega) (by omega) (by omega) h1 (fun i hi' hle=>?_);rcases Nat.lt_or_ge ((lo+hi) / 2) i with z | z
    ·have:=hr _ i z hi';omega
    ·have e:i=(lo+hi) / 2:=by omega
     subst e;omega
  ·rw[if_neg h];have e:lo=hi:=by omega
   subst e;exact⟨h1,h2,hs⟩
theorem Tg{xs:Array Nat}{j:Nat}(hr:Ris xs):(∀i (h:i<xs.size),i<SetTable.below xs j->xs[i]<j)/\(∀i (h:i<xs.size),SetTable.below xs j<=i->j<=xs[i])/\SetTable.below xs j<=xs.size :=
 xl hr xs.size 0 xs.size (by omega) (by omega) (Vj _) (fun i _ h=>by omega) (fun i h h'=>by omega)
theorem r9{xs:Array Nat}(hr:Ris xs){i:Nat}(h:i<xs.size):SetTable.below xs (xs[i]+1)=i+1:=by
 obtain⟨h1,h2,h3⟩:=Tg (j:=xs[i]+1) hr;rcases Nat.lt_trichotomy (SetTable.below xs (xs[i]+1)) (i+1) with z | z | z
 ·have:=h2 i h (by omega);omega
 ·exact z
 ·have hi:i+1<xs.size:=by omega
  have:=h1 (i+1) hi z;have:=hr i (i+1) (by omega) hi;omega
theorem r8{xs:Array Nat}(hr:Ris xs):SetTable.below xs 0=0:=by
 obtain⟨h1,h2,h3⟩:=Tg (j:=0) hr;rcases Nat.eq_zero_or_pos (SetTable.below xs 0) with z | z
 ·exact z
 ·have:=h1 0 (by omega) z;omega
theorem Zxa(n:Nat):Ris (Array.range n):=fun a b h hb=>by simp;omega
theorem ls{xs:Array Nat}{p j:Nat}(hp:p<=xs.size):∀i,(SetTable.insertAt xs p j)[i]?=if i<p then xs[i]? else if i=p then some j else xs[i - 1]?:=by
 intro i;unfold SetTable.insertAt;have hs1:((xs.extract 0 p).push j).size=p+1:=by simp;omega
 rw[Array.getElem?_append,hs1];by_cases h1:i<p+1
 ·rw[if_pos h1,Array.getElem?_push];have hs2:(xs.extract 0 p).size=p:=by simp;omega
  rw[hs2];by_cases h2:i=p
  ·rw[if_pos h2,if_neg (by omega),if_pos h2]
  ·rw[if_neg h2,if_pos (by omega)];rw[Array.getElem?_extract];simp;omega
 ·rw[if_neg h1,if_neg (by omega),if_neg (by omega)];rw[Array.getElem?_extract];have e:p+(i - (p+1))=i - 1:=by omega
  rw[e];simp;intro h;omega
theorem D0{α:Type}{xs:Array α}{p:Nat}{j:α}(hp:p<=xs.size):(SetTable.insertAt xs p j).size=xs.size+1:=by
 unfold SetTable.insertAt;simp;omega
theorem Zfs{xs:Array Nat}{j:Nat}(hr:Ris xs)(hn:xs[SetTable.below xs j]?≠some j):Ris (SetTable.insertAt xs (SetTable.below xs j) j):=by
 obtain⟨h1,h2,h3⟩:=Tg (j:=j) hr;generalize hk:SetTable.below xs j=k at h1 h2 h3 hn;have g:=ls (xs:=xs) (j:=j) h3;intro a b hab hb;rw[D0 h3]at hb;have ga:=g a;have gb:=g b;have ha':a<(SetTable.insertAt xs k j).size:=by rw[D0 h3];omega
 have hb':b<(SetTable.insertAt xs k j).size:=by rw[D0 h3];omega
 rw[A0g ha']at ga;rw[A0g hb']at gb
 have strict:∀i (h:i<xs.size),k<=i->j<xs[i]:=fun i h hk'=>by
  have hle:=h2 i h hk';rcases Nat.lt_or_ge k i with z | z
  ·have hkz:k<xs.size:=by omega
   have:=hr k i z h;have:=h2 k hkz (Vj _);omega
  ·have e:i=k:=by omega
   subst e;rw[A0g h]at hn;have:xs[i]≠j:=fun q=>hn (by rw[q]);omega
 by_cases a1:a<k
 ·rw[if_pos a1,A0g (by omega)]at ga;have ga':=Hn ga;by_cases b1:b<k
  ·rw[if_pos b1,A0g (by omega)]at gb;have gb':=Hn gb;rw[ga',gb'];exact hr a b hab (by omega)
  ·rw[if_neg b1]at gb;by_cases b2:b=k
   ·rw[if_pos b2]at gb;have gb':=Hn gb;rw[ga',gb'];exact h1 a (by omega) a1
   ·rw[if_neg b2,A0g (by omega)]at gb;have gb':=Hn gb;rw[ga',gb'];exact hr a (b - 1) (by omega) (by omega)
 ·rw[if_neg a1]at ga;rw[if_neg (by omega),if_neg (by omega),A0g (by omega)]at gb;have gb':=Hn gb;by_cases a2:a=k
  ·rw[if_pos a2]at ga;have ga':=Hn ga;rw[ga',gb'];exact strict (b - 1) (by omega) (by omega)
  ·rw[if_neg a2,A0g (by omega)]at ga;have ga':=Hn ga;rw[ga',gb'];exact hr (a - 1) (b - 1) (by omega) (by omega)
structure Wj(t:SetTable)(n:Nat):Prop where
 size:t.place.size=n
 dum:t.dummies=#[]
 ris:Ris t.place
 room:n<=t.mask
theorem Wj.fits{t:SetTable}{n:Nat}(h:Wj t n):t.fits n=true:=by
 unfold SetTable.fits SetTable.fill;rw[h.dum,h.size];simp;exact h.room
theorem Zxw(f m:Nat)(led:Bool):Wj (SetTable.fresh f m led) 0:=⟨rfl,rfl,fun a b _ hb=>by simp[SetTable.fresh]at hb,Wl _⟩
theorem Nr(t:SetTable)(n:Nat):Wj (t.standIn n) n:=⟨by simp[SetTable.standIn],rfl,Zxa n,by simp[SetTable.standIn];omega⟩
theorem Zzt(j:Nat):SetTable.has #[] j=false:=by simp[SetTable.has]
theorem Aj{t:SetTable}{n:Nat}(hs:t.place.size=n)(hd:t.dummies=#[])(hr:Ris t.place):Wj (t.orStandIn n) n:=by
 unfold SetTable.orStandIn
 split
 ·rename_i h
  refine⟨hs,hd,hr, ?_⟩;unfold SetTable.fits SetTable.fill at h;rw[hd,hs]at h;simpa using h
 ·exact Nr t n
theorem Ou{t:SetTable}(hd:t.dummies=#[]){f:Nat->Int}{h:Int}{j:Nat}{dm:Option Nat}:∀(fuel:Nat) (p:SetTable.Probe),p.dummy=none->SetTable.probe.go t f h fuel p=some (.empty j dm)->dm=none/\t.place[SetTable.below t.place j]?≠some j
 | 0,p,_,e=>by simp[SetTable.probe.go]at e
 | fuel+1,p,hp,e=>by
  have adv:(t.advance p).dummy=none:=by
   unfold SetTable.advance
   split
   ·exact hp
   ·exact hp
  simp only[SetTable.probe.go]at e;cases hs:t.slot p.j with
  | empty =>
   rw[hs]at e;simp only[Option.some.injEq,SetTable.Met.empty.injEq]at e;obtain⟨e1,e2⟩:=e;subst e1;refine⟨by rw[<-e2,hp],fun q=>?_⟩;unfold SetTable.slot at hs;simp[q]at hs
  | dummy =>
   exfalso
   unfold SetTable.slot at hs;simp only[hd,Zzt]at hs
   split at hs<;>simp at hs
  | live i =>
   rw[hs]at e;simp only at e
   split at e
   ·simp at e
   ·exact Ou hd fuel _ adv e
theorem br{t:SetTable}{es:Array (Int×Value)}(h:Wj t es.size)(k:Int)(x:Value):Wj (layNew t es k x).2.1 (layNew t es k x).1.size:=by
 unfold layNew;cases hf:t.freeSlot k with
 | none =>
  simp only;have:(es.push (k,x)).size=es.size+1:=by simp
  rw[this];exact Nr t _
 | some sw =>
  obtain⟨slot,wd⟩:=sw;simp only;unfold SetTable.freeSlot at hf
  have hn:t.place[SetTable.below t.place slot]?≠some slot:=by
   cases hp:t.probe (fun _=>k+1) k (t.probeStart k) with
   | none=>rw[hp]at hf;simp at hf
   | some m =>
    rw[hp]at hf;cases m with
    | candidate a b c=>simp at hf
    | empty j dm =>
     obtain⟨e1,e2⟩:=Ou h.dum _ (t.probeStart k) rfl hp;subst e1;simp at hf;rw[<-hf.1];exact e2
  obtain⟨_,_,hb⟩:=Tg (j:=slot) h.ris;have hb':SetTable.below t.place slot<=es.size:=by rw[<-h.size];exact hb
  have e1:(t.put slot).2=SetTable.below t.place slot:=rfl;refine Aj ?_ ?_ ?_
  ·rw[e1,D0 hb'];show (SetTable.insertAt t.place (SetTable.below t.place slot) slot).size=es.size+1;rw[D0 hb,h.size]
  ·show (if SetTable.has t.dummies slot then _ else t.dummies)=#[];rw[h.dum,Zzt]
   rfl
  ·exact Zfs h.ris hn
theorem lj{t:SetTable}{es:Array (Int×Value)}(k:Int)(x:Value):(layNew t es k x).2.1.led=t.led:=by
 unfold layNew
 split
 ·simp only[SetTable.orStandIn]
  split<;>rfl
 ·rfl
theorem dt(n:Nat)(g:Nat->Option Nat):((List.range n).filterMap fun j=>(g j).map (j, ·)).Pairwise fun a b=>a.1<b.1:=by
 rw[List.pairwise_filterMap];refine List.Pairwise.imp ?_ List.pairwise_lt_range;intro a b hab c hc d hd;cases ha:g a with
 | none=>rw[ha]at hc;simp at hc
 | some u =>
  cases hb:g b with
  | none=>rw[hb]at hd;simp at hd
  | some v =>
   rw[ha]at hc;rw[hb]at hd;simp at hc hd;rw[<-hc, <-hd];exact hab
theorem Xe{t:SetTable}{es:Array (Int×Value)}(wanted:Nat):Wj (relayAll t es wanted).2.1 (relayAll t es wanted).1.size:=by
 unfold relayAll;cases hr:t.relaid (es.map (·.1)) wanted with
 | none=>exact Nr t _
 | some to =>
  obtain⟨t',order⟩:=to;simp only
  split
  ·rename_i hc
   unfold SetTable.relaid SetTable.laid at hr;cases hl:SetTable.layClean (SetTable.sizeAbove wanted - 1) (es.map (·.1)) with
   | none=>rw[hl]at hr;simp at hr
   | some owner =>
    rw[hl]at hr;simp at hr;obtain⟨h1,h2⟩:=hr;have yk:=(fq.mp hc).2;have hd:t'.dummies=#[]:=by rw[<-h1]
    refine⟨?_,hd, ?_, ?_⟩
    ·unfold SetTable.fits at yk;simp at yk;exact yk.1
    ·rw[<-h1];intro a b hab hb;have hp:=dt (SetTable.sizeAbove wanted - 1+1) (fun j=>owner[j]?.getD none);have Az:(((List.range (SetTable.sizeAbove wanted - 1+1)).filterMap fun j=>(owner[j]?.getD none).map (j, ·)).map fun p=>p.1).Pairwise (· < ·):=List.pairwise_map.mpr hp;simp only[List.getElem_toArray];exact List.pairwise_iff_getElem.mp Az a b _ _ hab
    ·unfold SetTable.fits SetTable.fill at yk;rw[hd]at yk;simp at yk;exact(yk.1 ▸ yk.2:_)
  ·exact Nr t _
theorem zx{t:SetTable}{es:Array (Int×Value)}(wanted:Nat):(relayAll t es wanted).2.1.led=t.led:=by
 unfold relayAll;cases hr:t.relaid (es.map (·.1)) wanted with
 | none=>rfl
 | some to =>
  obtain⟨t',order⟩:=to;simp only
  split
  ·unfold SetTable.relaid SetTable.laid at hr;cases hl:SetTable.layClean (SetTable.sizeAbove wanted - 1) (es.map (·.1)) with
   | none=>rw[hl]at hr;simp at hr
   | some owner =>
    rw[hl]at hr;simp at hr;rw[<-hr.1]
  ·rfl
theorem Ct{α β:Type}{F:α->β->Prop}{l l':List β}(p:l'.Perm l):∀{ks:List α},Paired F ks l->∃Oe,Paired F Oe l'/\Oe.Perm ks:=by
 induction p with
 | nil=>intro ks h;cases h;exact⟨[],.nil,.nil⟩
 | cons x p ih =>
  intro ks h;cases h with
  | cons r t =>
   obtain⟨Oe,h1,h2⟩:=ih t;exact⟨_::Oe,.cons r h1,h2.cons _⟩
 | swap x y l =>
  intro ks h;cases h with
  | cons r t =>
   cases t with
   | cons r' t'=>exact⟨_::_::_,.cons r' (.cons r t'),.swap _ _ _⟩
 | trans p1 p2 ih1 ih2 =>
  intro ks h;obtain⟨k1,h1,h2⟩:=ih2 h;obtain⟨k2,h3,h4⟩:=ih1 h1;exact⟨k2,h3,h4.trans h2⟩
theorem Lx{α β:Type}{F:α->β->Prop}:∀{ks:List α} {l:List β},Paired F ks l->∀k∈ks,∃e∈l,F k e
 | _,_,.nil,k,h=>by cases h
 | _,_,.cons r t,k,h=>by
  rcases G2.mp h with z | z
  ·subst z;exact⟨_,Te,r⟩
  ·obtain⟨e,h1,h2⟩:=Lx t k z;exact⟨e,Rq _ h1,h2⟩
theorem Cr{α β:Type}{F:α->β->Prop}:∀{ks:List α} {l:List β},Paired F ks l->∀e∈l,∃k∈ks,F k e
 | _,_,.nil,k,h=>by cases h
 | _,_,.cons r t,k,h=>by
  rcases G2.mp h with z | z
  ·subst z;exact⟨_,Te,r⟩
  ·obtain⟨e,h1,h2⟩:=Cr t k z;exact⟨e,Rq _ h1,h2⟩
section
variable{prog:Program}{w:World}{K:Type}[DecidableEq K](knd:KeyKind prog w K)
structure Zm2(o:Obj)(ks:List K):Prop where
 ex:o.ExactSet
 dat:∃es ep t,o.data=.set es ep t/\ElemsOf knd es.toList/\Paired (fun k (e:Int×Value)=>knd.is k e.2=true) ks es.toList/\es.size<scanBound/\Wj t es.size/\t.led=!(w.params.followText "set-order")
 nd:ks.Nodup
def Ww(h:Heap)(a:Addr)(ks:List K):Prop:=∃o,h.get? a=some o/\Zm2 knd o ks
variable{knd}{A:Around}{E:Vt}{s:Shared}{a:Addr}
theorem Zm2.len{o:Obj}{ks:List K}(h:Zm2 knd o ks):ks.length<scanBound:=by
 obtain⟨es,ep,t,_,_,p,b,_⟩:=h.dat;rw[p.length,jk];exact b
theorem Er{o:Obj}{es O4:Array (Int×Value)}{ep:Nat}{t t':SetTable}{Oe:List K}{h:Heap}(ho:h.get? a=some o)(hex:o.ExactSet)(hd:o.data=.set es ep t)(el:ElemsOf knd O4.toList)
  (pr:Paired (fun k (e:Int×Value)=>knd.is k e.2=true) Oe O4.toList) (hb:O4.size<scanBound) (ti:Wj t' O4.size) (hl:t'.led=!(w.params.followText "set-order")) (nd:Oe.Nodup) :
  (h.update a (Obj.putSet O4 t')).get? a=some { o with data:=.set O4 (ep+1) t' }/\Zm2 knd { o with data:=.set O4 (ep+1) t' } Oe:=by
 have mem:∀k',(decide (k'∈Oe))=true↔∃e∈O4.toList,knd.is k' e.2=true:=fun k'=>by
  rw[decide_eq_true_eq];constructor
  ·exact fun hk=>Lx pr k' hk
  ·rintro⟨e,he,hq⟩;obtain⟨k2,h1,h2⟩:=Cr pr e he;rw[knd.inj e.2 k' k2 hq h2];exact h1
 obtain⟨e1,o2,es2,ep2,t2,e2,ex2,d2,_⟩:=SetOf_store (knd:=knd) ho hex hd el mem hb ti.fits;rw[e1]at e2;cases e2;exact⟨e1,⟨ex2,⟨O4,ep+1,t',rfl,el,pr,hb,ti,hl⟩,nd⟩⟩
theorem Zft{ks:List K}{k:K}{x:Value}{Q:Bool->Shared->Prop}(Zy6:knd.is k x=true)(hsc:x.scannable=true)(hS:Ww knd s.heap a ks)(hroom:ks.length+1<scanBound)
  (h:∀h' Oe,Heap.SameBut a s.heap h'->Ww knd h' a Oe->Oe.Perm (if k∈ks then ks else ks++[k])->Q (!decide (k∈ks)) { s with heap:=h' }) :
  wpAny (model prog w) A (setAddHashed a x (knd.hash k)) Q E s:=by
 obtain⟨o,ho,S⟩:=hS;obtain⟨es,ep,t,hd,hel,pr,hb,ti,lh⟩:=S.dat;have hlen:ks.length=es.size:=by rw[pr.length,jk]
 unfold setAddHashed setAddHashedIn;refine wpAny_holding (Zo (wpAny_setState_of ho hd ti.fits ?_));dsimp only;rw[byScan_of hsc hb hel];simp only[↓reduceIte];unfold setAddByScan;refine Zo (Zo (wpAny_rule (Zo (wpAny_setScan_of Zy6 ho hd ti.fits hel ?_))));cases hr:List.findIdx? (fun e=>knd.is k e.2) es.toList with
 | some j =>
  dsimp only;obtain⟨hj,hpj,_⟩:=List.findIdx?_eq_some_iff_getElem.mp hr
  have hk:k∈ks:=by
   obtain⟨k2,h1,h2⟩:=Cr pr _ (G0e hj);rw[knd.inj _ k k2 hpj h2];exact h1
  have q:=h s.heap ks (Heap.SameBut.refl a s.heap) ⟨o,ho,S⟩ (by rw[if_pos hk]);rw[Gq hk]at q;exact Y7 (Y7 q)
 | none =>
  dsimp only
  have hk:k ∉ ks:=fun hm=>by
   obtain⟨e,he,hq⟩:=Lx pr k hm;have z:=List.findIdx?_eq_none_iff.mp hr e he;rw[hq]at z;cases z
  have gw:∀(b:Bool) {s₁:Shared} {Q':Unit->Shared->Prop},Q' () s₁->wpAny (model prog w) A (match b with | true=>rule "set.scan.the-table-gave-way" | false=>pure ()) Q' E s₁ :=
   fun b s₁ Q' hq=>by cases b<;>first | exact Y7 hq | exact wpAny_rule hq
  have perm0:=layNew_perm t es (knd.hash k) x;have jb:=br (t:=t) ti (knd.hash k) x;have Zyp:=lj (t:=t) (es:=es) (knd.hash k) x;generalize hL:layNew t es (knd.hash k) x=L at perm0 jb Zyp ⊢;obtain⟨Ai,t1,wasDummy,gave⟩:=L;dsimp only at perm0 jb Zyp ⊢;rw[Array.toList_push]at perm0;have el1:ElemsOf knd Ai.toList:=(hel.push Zy6 hsc).perm perm0;have pr0:Paired (fun k (e:Int×Value)=>knd.is k e.2=true) (ks++[k]) (es.toList++[(knd.hash k,x)]):=Paired.snoc pr Zy6;obtain⟨ks1,pr1,pk1⟩:=Ct perm0 pr0
  have nd1:ks1.Nodup:=pk1.nodup_iff.mpr (List.nodup_append.mpr ⟨S.nd,List.nodup_cons.mpr ⟨by simp,List.nodup_nil⟩,fun u hu v hv=>by
   rw[N6.mp hv];exact fun z=>hk (z ▸ hu)⟩)
  have sz1:Ai.size=es.size+1:=by
   have:=perm0.length_eq;rw[Xs,jk,jk]at this;simpa using this
  have hb1:Ai.size<scanBound:=by omega
  refine Zo (gw _ ?_)
  have tailOk:∀t2:SetTable,Wj t2 Ai.size->t2.led=t.led->wpAny (model prog w) A (do
    storeSet a Ai t2
    if (!wasDummy && t2.tooFull)=true then do
      (match (relayAll t2 Ai (SetTable.grown Ai.size)).2.2 with | true=>rule "set.scan.the-table-gave-way" | false=>pure ())
      storeSet a (relayAll t2 Ai (SetTable.grown Ai.size)).1 (relayAll t2 Ai (SetTable.grown Ai.size)).2.1
      pure (some true)
     else pure (some true)) (fun b s'=>b=some true/\∃h' Oe,s'={ s with heap:=h' }/\Heap.SameBut a s.heap h'/\Ww knd h' a Oe/\Oe.Perm (ks++[k])) E s:=by
   intro t2 ti2 hl2;refine Zo (wpAny_storeSet_of ho hd ?_ (fits_of_scanBound hb1));obtain⟨g1,S1⟩:=Er (knd:=knd) ho S.ex hd el1 pr1 hb1 ti2 (hl2.trans lh) nd1;have sb1:=Heap.SameBut.update s.heap a (Obj.putSet Ai t2)
   split
   ·have hp:=relayAll_perm t2 Ai (SetTable.grown Ai.size);have ti3:=Xe (t:=t2) (es:=Ai) (SetTable.grown Ai.size);have led3:=zx (t:=t2) (es:=Ai) (SetTable.grown Ai.size);generalize relayAll t2 Ai (SetTable.grown Ai.size)=Rl at hp ti3 led3 ⊢;obtain⟨es2,t3,gave2⟩:=Rl;dsimp only at hp ti3 led3 ⊢;obtain⟨ks2,pr2,pk2⟩:=Ct hp pr1
    have sz2:es2.size=Ai.size:=by
     have:=hp.length_eq
     rwa [jk,jk]at this
    have hb2:es2.size<scanBound:=by omega
    refine Zo (gw _ ?_);refine Zo (wpAny_storeSet_of g1 rfl ?_ (fits_of_scanBound hb2));obtain⟨g2,S2⟩:=Er (knd:=knd) g1 S1.ex rfl (el1.perm hp) pr2 hb2 ti3 (led3.trans (hl2.trans lh)) (pk2.nodup_iff.mpr nd1);exact Y7 ⟨rfl,_,ks2,rfl,sb1.trans (Heap.SameBut.update _ a _),⟨_,g2,S2⟩,pk2.trans pk1⟩
   ·exact Y7 ⟨rfl,_,ks1,rfl,sb1,⟨_,g1,S1⟩,pk1⟩
  have fin:∀b s',(b=some true/\∃h' Oe,s'={ s with heap:=h' }/\Heap.SameBut a s.heap h'/\Ww knd h' a Oe/\Oe.Perm (ks++[k])) ->
    wpAny (model prog w) A (match b with | some added=>pure added | none=>setAddHashedIn a x (knd.hash k) 99999) Q E s':=by
   rintro b s' ⟨rfl,h',Oe,rfl,sb,g,pk⟩;have q:=h h' Oe sb g (by rw[if_neg hk];exact pk);rw[My hk]at q;exact Y7 q
  split
  ·refine Zo ?_;rw[hashByValue_scannable 8 hsc];refine Y7 ?_;refine wpAny_mono (tailOk _ ?_ ?_) fin fun _ _ z=>z
   ·split
    ·exact jb
    ·exact⟨jb.size,jb.dum,jb.ris,jb.room⟩
   ·split
    ·exact Zyp
    ·exact Zyp
  ·refine Zo (Y7 ?_);simp only[↓reduceIte];exact wpAny_mono (tailOk _ jb Zyp) fin fun _ _ z=>z
end
end SetM
namespace SetM
open PySem PyProof.Rows
section
variable{prog:Program}{w:World}{K:Type}[DecidableEq K]{knd:KeyKind prog w K}
theorem Ww.at'{h h':Heap}{a:Addr}{ks:List K}(x:Ww knd h a ks)(e:∀o,h.get? a=some o->h'.get? a=some o):Ww knd h' a ks:=let ⟨o,ho,S⟩:=x;⟨o,e o ho,S⟩
structure qh(val:Nat->K)(i:Nat)(ks:List K):Prop where
 mem:∀x,x∈ks↔∃j,j<i/\val j=x
 len:ks.length<=i
theorem qh.zero(val:Nat->K):qh val 0 []:=⟨fun x=>⟨fun z=>absurd z U6,fun⟨j,z,_⟩=>absurd z (Nat.not_lt_zero _)⟩,Vj _⟩
theorem qh.next{val:Nat->K}{i:Nat}{ks Oe:List K}(u:qh val i ks)(pk:Oe.Perm (if val i∈ks then ks else ks++[val i])):qh val (i+1) Oe:=by
 refine⟨fun x=>?_, ?_⟩
 ·rw[pk.mem_iff];constructor
  ·intro hx
   have hx':x∈ks\/x=val i:=by
    split at hx
    ·exact .inl hx
    ·rcases T6.mp hx with hx | hx
     ·exact .inl hx
     ·exact .inr (N6.mp hx)
   rcases hx' with hx' | hx'
   ·obtain⟨j,h1,h2⟩:=(u.mem x).mp hx';exact⟨j,by omega,h2⟩
   ·exact⟨i,by omega,hx'.symm⟩
  ·rintro⟨j,h1,h2⟩;by_cases hx:x∈ks
   ·split
    ·exact hx
    ·exact List.mem_append_left _ hx
   ·have e:j=i:=by
     rcases Nat.lt_or_ge j i with z | z
     ·exact absurd ((u.mem x).mpr ⟨j,z,h2⟩) hx
     ·omega
    subst e;rw[h2,if_neg hx];exact M0r _ (List.mem_singleton_self _)
 ·rw[pk.length_eq];have:=u.len
  split
  ·omega
  ·simp only[Xs,List.length_singleton];omega
variable{A:Around}{R:Result->Shared->Prop}{I:Addr}{fp wr:List Addr}{G:Array GenState->Array GenState->Prop}{n:Nat}{P:Nat->Value->Prop}{St:Nat->Shared->Prop}
theorem Xv(W:WalksS prog w A.in1 I fp wr G n P St){a:Addr}(na:a ∉ fp){val:Nat->K}(hval:∀i v,P i v->knd.is (val i) v=true/\v.scannable=true)(hb:n+1<scanBound)(i:Nat)(s:Shared)(ks:List K)
  (hi:i<=n) (st:St i s) (hS:Ww knd s.heap a ks) (u:qh val i ks) (fin:∀s' Oe,Moved (a::wr) G s s'->Ww knd s'.heap a Oe->qh val n Oe->R (.ok (.ret .none)) s') :
  codeAny (model prog w) A (.builtin "set.update.loop" ⟨[.ref a,.ref I],[]⟩) R s:=by
 have naw:a ∉ wr:=fun z=>na (W.sub _ z);have more:∀b∈wr,b∈a::wr:=fun b z=>Rq _ z;refine codeAny_builtin PyProof.Rows.F.entry_set_update_loop ?_;rw[Around.under_plainId PyProof.Rows.F.plain_set_update_loop];refine Zo (m:=pyNext (.ref I)) ?_;by_cases Nc:i<n
 ·refine W.item i s _ _ Nc st fun v s1 hP st1 mv=>?_;obtain⟨hv,hsc⟩:=hval i v hP;have hS1:Ww knd s1.heap a ks:=hS.at' fun o e=>mv.heap a o naw e;refine Zo (m:=holding [v] (setAdd a v)) (wpAny_holding ?_);unfold setAdd;refine wpAny_holding (Zo (knd.pyHash (k:=val i) hv ?_));have:=u.len;refine Zft (knd:=knd) (s:={ s1 with toks:=s1.toks+1 }) hv hsc hS1 (by omega) fun h2 ks2 sb hS2 pk=>Y7 ⟨plainId_quiet PyProof.Rows.F.plain_set_update_loop _, ?_⟩;refine Xv W na hval hb (i+1) { s1 with heap:=h2,toks:=s1.toks+1 } ks2 Nc (W.frame _ s1 _ _ st1 (Nat.le_succ _) fun b hb' o e=>?_) hS2 (u.next pk) fun s3 ks3 mv3 hS3 u3=>?_
  ·rw[sb.2 b fun z=>na (z ▸ hb')];exact e
  ·refine fin s3 ks3 (Moved.trans W.gtrans ((mv.mono more).then_heap (Nat.le_succ _) fun b o hb' e=>?_) mv3) hS3 u3;rw[sb.2 b fun z=>hb' (z ▸ Te)];exact e
 ·have e:i=n:=by omega
  subst e;exact W.done s _ _ st fun s1 mv=>Y7 (fin s1 ks (mv.mono more) (hS.at' fun o e=>mv.heap a o naw e) u)
termination_by n - i
end
section
variable{prog:Program}{w:World}{A:Around}{E:Vt}{s:Shared}
theorem r6{T newId initId:String}{args:List Value}{Q:Vt}(ft:TypeCalled T newId initId)(hct:checkTypeCall T ⟨args,[]⟩=pure ())
  (h:codeAny (model prog w) A.in1 (.call (.builtin newId) ⟨.type T::args,[]⟩) (wants (fun obj s1=>s1.TypeIs obj T/\codeAny (model prog w) A.in1 (.call (.builtin initId) ⟨obj::args,[]⟩) (wants (fun r s2=>r=.none/\Q obj s2) E) s1) E) s) :
  wpAny (model prog w) A (call (.type T) args) Q E s:=by
 have q1:=ft.notType;have q2:=ft.canCreate;have q3:=ft.made;have q4:=ft.sub;obtain⟨c,tl,q5⟩:=ft.mro
 apply wpAny_call
 apply codeAny_of_tree
 change wpAny (model prog w) _ (callAny (Value.type T) ⟨args,[]⟩) _ _ s
 refine Y7 (And.intro (Code.quiet_builtin _ (by decide +kernel)) (codeAny_builtin PySem.F.entry_type_call ?_));rw[Around.under_plain (weight_type_call_type T args []) (units_type_call_type T args [])]
 repeat (any_goals (first | assumption | wp_step))
 refine codeAny_mono h fun r s1 hr=>?_;rcases r with e | fl
 ·exact hr
 ·cases fl with
  | ret obj =>
   obtain⟨hT,hI⟩:=hr;have q6:=ft.init.lookup;have q7:=ft.init.bind obj
   repeat (any_goals (first | assumption | wp_step))
   refine codeAny_mono hI fun r2 s2 hr2=>?_;rcases r2 with e2 | fl2
   ·exact hr2
   ·cases fl2 with
    | ret r3 =>
     obtain⟨rfl,q⟩:=hr2
     repeat (any_goals (first | assumption | wp_step))
    | _=>exact hr2.elim
  | _=>exact hr.elim
abbrev Wp(b:Bool):Obj:={ cls:=.type "set",dict:=none,data:=.set #[] 0 (.fresh 0 0 b) }
theorem Zbt(x:Value){Q1:Vt}(h:Q1 (.ref s.heap.objs.size) { s with heap:=s.heap.push (Wp (!(w.params.followText "set-order"))) }) :
  codeAny (model prog w) A (.call (.builtin "set.__new__") ⟨[.type "set",x],[]⟩) (wants Q1 E) s:=by
 have q:=sub_set_self;refine codeAny_call_builtin PySem.F.plain_set_new PySem.F.entry_set_new (wpAny_of_eq (PySem.F.newCall_set_1 x) ?_);unfold Builtin.«set.__new__» Builtin.Frozenset.newClass;obtain⟨hp,gs,dr,tk,so⟩:=s;dsimp only
 wp_walk
 refine wpAny_askSetting (Y7 ?_);dsimp only;simp only[newObj];exact Zo (wpAny_alloc (Y7 (Y7 h)))
variable{K:Type}[DecidableEq K]{knd:KeyKind prog w K}
set_option maxHeartbeats 4000000 in
theorem Zk0{l:Addr}{xs:Array Value}{val:Nat->K}{Q:Vt}(hh:A.handled=none)(hl:s.heap.IsList l xs)(hx:∀i v,xs[i]?=some v->knd.is (val i) v=true/\v.scannable=true)(hb:xs.size+1<scanBound)
  (fin:∀(h1:Heap) (tk:Nat) (ks:List K),Ww knd h1 s.heap.objs.size ks->qh val xs.size ks->(∀b o,s.heap.get? b=some o->h1.get? b=some o)->Q (.ref s.heap.objs.size) { s with heap:=h1,toks:=tk }) :
  wpAny (model prog w) A (call (.type "set") [.ref l]) Q E s:=by
 refine r6 PySem.F.called_set (PySem.F.typeCall_set_1 (.ref l)) (Zbt (.ref l) ?_);generalize hb0:(!(w.params.followText "set-order"))=b0;have at0:(s.heap.push (Wp b0)).get? s.heap.objs.size=some (Wp b0):=Rj _ rfl;have ty0:Shared.TypeIs { s with heap:=s.heap.push (Wp b0) } (.ref s.heap.objs.size) "set" := ⟨_,at0,rfl⟩;refine⟨ty0,codeAny_call_builtin PySem.F.called_set.init.plain PySem.F.entry_set_init (check_set_init_1 ty0 ?_)⟩;obtain⟨⟨c0,d0,dt0,sl0⟩,e0,hc0,n0,hd0⟩:=hl;simp only at hc0 hd0;subst hc0 hd0;have e1:(s.heap.push (Wp b0)).get? l=some ⟨.type "list",d0,.seq xs n0,sl0⟩:=G4 _ e0;have li:(s.heap.push (Wp b0)).IsList l xs:=⟨_,e1,rfl,n0,rfl⟩;have u1:=PySem.F.sub_list_set;have u2:=PySem.F.sub_list_frozenset;have u3:(Value.type "list" == Value.type "dict")=false:=by decide
 unfold Builtin.«set.__init__» noKeywords Builtin.Frozenset.updateFrom;generalize hit:pyIter=it
 wp_walk
 subst hit;have lt0:l<s.heap.objs.size:=Du e0;have sz:(s.heap.push (Wp b0)).objs.size=s.heap.objs.size+1:=Heap.size_push _ _;refine wpAny_pyIter_list li (Zo (wpAny_runValue ?_))
 refine Xv (knd:=knd) (val:=val) ((Walks.list (by simp[hh]) _ l (by rw[sz];exact Oj (Nat.lt_succ_of_lt lt0)) xs).toS) (fun z=>(G2.mp z).elim (fun z=>absurd z (Oj (by rw[sz];exact Nat.lt_succ_self _))) fun z=>absurd (N6.mp z) (Nat.ne_of_gt lt0)) hx hb 0 _ [] (Wl _) ⟨⟨_,Rj _ rfl,rfl,rfl⟩,li.push _⟩
  ⟨_,G4 _ at0,⟨⟨rfl,rfl,rfl⟩,⟨#[],0,_,rfl,fun e he=>by simp at he,.nil,by unfold scanBound;decide,Zxw _ _ _,hb0.symm⟩,List.nodup_nil⟩⟩ (qh.zero val) ?_
 rintro⟨h2,g2,d2,tk2,o2⟩ ks mv S2 u;have x1:g2=s.gens:=mv.gens;have x2:d2=s.drawn:=mv.drawn;have x3:o2=s.os:=mv.os;subst x1 x2 x3;refine Y7 (Y7 ⟨rfl,fin h2 tk2 ks S2 u fun b o e=>mv.heap b o ?_ (G4 _ (G4 _ e))⟩);have lb:=Du e;intro z;rcases G2.mp z with z | z
 ·exact absurd z (Oj lb)
 ·have z:=N6.mp z;rw[sz]at z;exact absurd z (Oj (Nat.lt_succ_of_lt lb))
end
theorem B7:Slot "set_iterator" "__next__" "set_iterator.__next__" :=
 Slot.of (owner:="set_iterator") (n:="__next__") (by rw[typeLookup_type,builtinLookup_eq_fast];kernel_rfl) (by decide +kernel) (by decide +kernel) (by decide +kernel) (.inl (by decide +kernel)) (by rw[isSubtype_type];kernel_rfl)
theorem js:entryFor table "set_iterator.__next__" = some Builtin.«set_iterator.__next__»:=entryFor_of_tree (by kernel_rfl)
theorem ai(a:Value):argsOk "set_iterator.__next__" ⟨[a],[]⟩:=by unfold argsOk;kernel_rfl
theorem Eo:entryFor table "set.__iter__" = some Builtin.«frozenset.__iter__»:=entryFor_alias (id':="frozenset.__iter__") (by kernel_rfl) rfl (by decide +kernel) (by kernel_rfl)
theorem Ll{α:Type}:∀(l:List α) (i:Nat) (h:i<l.length),(l[i]::l.eraseIdx i).Perm l
 | x::l,0,h=>.refl _
 | x::l,i+1,h=>by
  have ih:=Ll l i (by simpa using h);simp only[List.getElem_cons_succ,List.eraseIdx_cons_succ];exact(List.Perm.swap _ _ _).trans (ih.cons x)
theorem Qc{prog:Program}{w:World}{A:Around}{E:Vt}{α:Type}:∀(n:Nat) (xs:List α) (s:Shared) (Q:List α->Shared->Prop),xs.length=n->(∀ys d,ys.Perm xs->Q ys { s with drawn:=d })->wpAny (model prog w) A (drawOrder n xs) Q E s
 | 0,xs,s,Q,hn,h=>by
  have e:xs=[]:=List.length_eq_zero_iff.mp hn;subst e;have q:=h [] s.drawn .nil;exact Y7 q
 | n+1,xs,s,Q,hn,h=>by
  cases xs with
  | nil=>simp at hn
  | cons x0 xr =>
   generalize hx:x0::xr=xs at hn h ⊢
   have e:drawOrder (n+1) xs=(choose .order xs.length >>= fun i=>match xs[i]? with | some x=>(drawOrder n (xs.eraseIdx i) >>= fun r=>pure (x::r)) | none=>unsupported "internal:drawOrder"):=by
    subst hx;rfl
   rw[e];refine Zo ?_;intro Γ p hΓ;show Sem.wp _ _ (.choose _ _ _) _ _ _ _;rw[Sem.wp_choose];refine⟨by omega, ?_⟩;have lt:=Nat.mod_lt ((model prog w).w.draws .order (s.drawn.get .order)) (show xs.length>0 by omega);generalize (model prog w).w.draws .order (s.drawn.get .order) % xs.length=i at lt ⊢;rw[Sem.wp_pure];have ex:xs[i]?=some xs[i]:=Nn lt;dsimp only;rw[ex];refine Zo (Qc n (xs.eraseIdx i) _ _ (by rw[List.length_eraseIdx_of_lt lt];omega) fun ys d hp=>Y7 (h _ _ ((hp.cons _).trans (Ll xs i lt))))
inductive Fst(w:World)(a:Addr)(es:Array (Int×Value))(ep:Nat)(t:SetTable)(h:Heap):Nat->Value->List Value->Prop where
 | byText{i:Nat}{k:Int}{tk:Tok}:w.params.followText "set-order" = true->Fst w a es ep t h i (.int k tk) ((pickOrder (w.params.setOrder a ep) es).toList.map (·.2))
 | drawn {i:Nat} {T:Addr} {c:Nat} {ps:List Nat}:ps.Perm (List.range es.size)->h.get? T=some { cls:=.type "tuple",data:=.seq (ps.map fun(p:Nat)=>rawInt p).toArray c } ->
   Fst w a es ep t h i (.ref T) (ps.map fun p=>(es.getD p (0,.none)).2)
 | plain {i:Nat} {tk:Tok}:w.params.followText "set-order" = false->(!t.plain && es.size>1)=false->t.led=true->Fst w a es ep t h i (.int (if i=0 then 0 else ((t.place.getD (i - 1) 0+1:Nat):Int)) tk) (es.toList.map (·.2))
abbrev Ka(first:Value)(i:Nat)(a:Addr)(n ep:Nat):Obj:={ cls:=.type "set_iterator",data:=.fields #[first,rawInt i,.ref a,rawInt n,rawInt ep] }
section
variable{prog:Program}{w:World}{A:Around}{E:Vt}{s:Shared}{a:Addr}{o:Obj}{es:Array (Int×Value)}{ep:Nat}{t:SetTable}
theorem Zyi{Q:Vt}(ho:s.heap.get? a=some o)(hex:o.ExactSet)(hd:o.data=.set es ep t)(ti:Wj t es.size)(hl:t.led=!(w.params.followText "set-order"))(hb:es.size<scanBound)
  (fin:∀I first h1 d vs,(∀b ob,s.heap.get? b=some ob->h1.get? b=some ob)->s.heap.objs.size<=I->h1.get? I=some (Ka first 0 a es.size ep)->(∀T,first=.ref T->T≠I/\s.heap.objs.size<=T)->Fst w a es ep t h1 0 first vs->Q (.ref I) { s with heap:=h1,drawn:=d }) :
  wpAny (model prog w) A (pyIter (.ref a)) Q E s:=by
 have hT:s.TypeIs (.ref a) "set" := ⟨o,ho,hex.1⟩;refine wpAny_pyIter_slot hT PySem.F.slot_set_iter (wpAny_call_entry PySem.F.slot_set_iter hT Eo ?_ (PySem.F.args_set_iter_1 _));unfold Builtin.«frozenset.__iter__» Builtin.Frozenset.slot0 slotArgs;simp only[List.isEmpty_nil,Bool.not_true,B0f, ↓reduceIte,bind_assoc,List.length_nil,bne_self_eq_false];unfold Builtin.Frozenset.addrOf Builtin.Frozenset.sizeOf;refine Zo (Y7 ?_);dsimp only;refine Zo (Y7 ?_);refine Zo (Zo (wpAny_setEntries_of ho hd ti.fits (Y7 ?_)));unfold setDrawn setsByText;refine Zo (Zo (wpAny_setState_of ho hd ti.fits ?_));dsimp only;refine Zo (Zo (wpAny_askSetting (Y7 (Y7 ?_))));dsimp only;have eEp:∀(s1:Shared) {Q1:Nat->Shared->Prop},s1.heap.get? a=some o->Q1 ep s1->wpAny (model prog w) A.in1 (setEpoch a) Q1 E s1:=fun s1 Q1 e q=>wpAny_setEpoch_of e hd ti.fits q
 split
 ·rename_i hdr
  refine Zo (Qc _ _ _ _ (List.length_range) fun ps d hp=>?_);refine Zo (wpAny_newTuple ?_ (by rw[Yp,hp.length_eq,List.length_range];exact fits_of_scanBound hb));refine Zo (eEp _ (G4 _ ho) ?_);refine Zo (wpAny_newObj_type (Y7 ⟨_,rfl,"set_iterator",_,⟨_,Rj _ rfl,rfl⟩,B7.lookup, ?_⟩));refine fin _ (.ref s.heap.objs.size) _ d _ (fun b ob e=>G4 _ (G4 _ e)) ?_ (Rj _ rfl) ?_ (.drawn hp (G4 _ (Rj _ rfl)))
  ·rw[Heap.size_push];exact Nat.le_succ _
  ·rintro T e;cases e;exact⟨by rw[Heap.size_push];exact Oj (Nat.lt_succ_self _),Vj _⟩
 ·rename_i hdr
  refine Zo (Y7 (Zo (eEp _ ho ?_)));refine Zo (wpAny_newObj_type (Y7 ⟨_,rfl,"set_iterator",_,⟨_,Rj _ rfl,rfl⟩,B7.lookup, ?_⟩));have old:∀b ob,s.heap.get? b=some ob->(s.heap.push (Ka (rawInt 0) 0 a es.size ep)).get? b=some ob:=fun b ob e=>G4 _ e;cases hbt:w.params.followText "set-order" with
  | true=>exact fin s.heap.objs.size (rawInt 0) _ s.drawn _ old (Vj _) (Rj _ rfl) (fun T e=>by cases e) (.byText hbt)
  | false =>
   have h1:(!t.plain && decide (es.size>1))=false:=by
    have h2:¬ (!false && (!t.plain && decide (es.size>1)))=true:=by rw[<-hbt];exact hdr
    simpa using h2
   exact fin s.heap.objs.size (rawInt 0) _ s.drawn _ old (Vj _) (Rj _ rfl) (fun T e=>by cases e) (.plain hbt h1 (by rw[hl,hbt];rfl))
end
theorem oh{α:Type}(nx:Nat->Nat):∀(fuel k:Nat) (left:List α) (out:Array α),left.length<=fuel->(pickOrder.go nx fuel k left out).toList.Perm (out.toList++left)
 | 0,k,left,out,h=>by
  have e:left=[]:=List.length_eq_zero_iff.mp (by omega);subst e;simp[pickOrder.go]
 | fuel+1,k,left,out,h=>by
  simp only[pickOrder.go];cases left with
  | nil=>simp
  | cons x0 xr =>
   generalize hx:x0::xr=l at h ⊢;have lt:nx k % l.length<l.length:=Nat.mod_lt _ (by rw[<-hx];simp);rw[Nn lt];dsimp only;refine(oh nx fuel (k+1) _ _ (by rw[List.length_eraseIdx_of_lt lt];omega)).trans ?_;rw[Array.toList_push,List.append_assoc];exact List.Perm.append_left _ (Ll l _ lt)
theorem Zx3{α:Type}(nx:Nat->Nat)(xs:Array α):(pickOrder nx xs).toList.Perm xs.toList:=by
 have q:=oh nx xs.size 0 xs.toList #[] (by simp);exact q
theorem j6(es:Array (Int×Value)):(List.range es.size).map (fun p=>(es.getD p (0,.none)).2)=es.toList.map (·.2):=by
 apply List.ext_getElem
 ·simp
 ·intro i h1 h2;have h3:i<es.size:=by simpa using h1
  simp[h3]
section
variable{w:World}{a:Addr}{es:Array (Int×Value)}{ep:Nat}{t:SetTable}{h:Heap}{i:Nat}{first:Value}{vs:List Value}
theorem Fst.perm(F:Fst w a es ep t h i first vs):vs.Perm (es.toList.map (·.2)):=by
 cases F with
 | byText _=>exact(Zx3 _ _).map _
 | drawn hp _=>rw[<-j6];exact hp.map _
 | plain _ _ _=>exact .refl _
end
section
variable{prog:Program}{w:World}{A:Around}{E:Vt}{s:Shared}{a I:Addr}{o:Obj}{es:Array (Int×Value)}{ep:Nat}{t:SetTable}{i:Nat}{first:Value}{vs:List Value}
theorem kq{xs:Array Nat}(hr:Ris xs){i:Nat}(hi:i<=xs.size):SetTable.below xs (if i=0 then (0:Int) else ((xs.getD (i - 1) 0+1:Nat):Int)).toNat=i:=by
 by_cases h:i=0
 ·subst h;rw[if_pos rfl];exact r8 hr
 ·rw[if_neg h,Int.toNat_natCast,xh (by omega),r9 hr (by omega)];omega
theorem z8{h:Heap}{n:Nat}{x0 x1 x2 x3 x4:Value}(k:Nat)(v:Value)(hI:h.get? I=some { cls:=.type "set_iterator",data:=.fields #[x0,x1,x2,x3,x4] }) :
  (h.update I (Obj.mapFields (·.setIfInBounds k v))).get? I=some { cls:=.type "set_iterator",data:=.fields (#[x0,x1,x2,x3,x4].setIfInBounds k v) }:=by
 rw[Heap.get?_update_self _ hI rfl]
 rfl
theorem Tj{h:Heap}{f:Obj->Obj}{b:Addr}{ob:Obj}(hb:b≠I)(e:h.get? b=some ob):(h.update I f).get? b=some ob:=(Heap.get?_update_other _ _ (Ne.symm hb)).trans e
theorem Fst.heap{h h1:Heap}(F:Fst w a es ep t h i first vs)(k:∀T,first=.ref T->∀ob,h.get? T=some ob->h1.get? T=some ob):Fst w a es ep t h1 i first vs:=by
 cases F with
 | byText hb=>exact .byText hb
 | drawn hp e=>exact .drawn hp (k _ rfl _ e)
 | plain hb hp hl=>exact .plain hb hp hl
theorem Zqk{v:Value}{Q:Option Value->Shared->Prop}(ho:s.heap.get? a=some o)(hex:o.ExactSet)(hd:o.data=.set es ep t)(ti:Wj t es.size)(hI:s.heap.get? I=some (Ka first i a es.size ep))(hne:a≠I)(hT:∀T,first=.ref T->T≠I)
  (F:Fst w a es ep t s.heap i first vs) (hv:vs[i]?=some v)
  (fin:∀h1 first',(∀b ob,b≠I->s.heap.get? b=some ob->h1.get? b=some ob)->h1.get? I=some (Ka first' (i+1) a es.size ep)->(∀T,first'=.ref T->first=.ref T)->Fst w a es ep t h1 (i+1) first' vs->Q (some v) { s with heap:=h1 }) :
  wpAny (model prog w) A (pyNext (.ref I)) Q E s:=by
 have hTy:s.TypeIs (.ref I) "set_iterator" := ⟨_,hI,rfl⟩;unfold pyNext;refine Zo (wpAny_attempt (wpAny_callSpecial?_slot (name:=Str.ofString "__next__") hTy B7 (wpAny_call_entry B7 hTy js ?_ (ai _))));unfold Builtin.«set_iterator.__next__» slotArgs;simp only[List.isEmpty_nil,Bool.not_true,B0f, ↓reduceIte,bind_assoc,List.length_nil,bne_self_eq_false];refine Zo (Y7 ?_);dsimp only;refine Zo (wpAny_fieldsOf hI rfl ?_);dsimp only[rawInt];refine Zo (wpAny_setEntries_of ho hd ti.fits ?_);rw[if_neg (by simp)]
 have two:∀(nx:Nat) {Q1:Fin->Shared->Prop},(∀h1,(∀b ob,b≠I->s.heap.get? b=some ob->h1.get? b=some ob)->h1.get? I=some (Ka (.int nx 0) (i+1) a es.size ep)->Q1 (.done (.ret v)) { s with heap:=h1 }) ->
   wpAny (model prog w) A.in1 (do setField (.ref I) 0 (.int nx 0);setField (.ref I) 1 (.int (i+1) 0);ret v) Q1 (fun e s'=>wpAny (model prog w) A (do let b <-isInstance e (.type "StopIteration");if b=true then pure none else throw e) Q E s') s:=by
  intro nx Q1 q;refine Zo (wpAny_setField hI rfl (by simp) ?_);have g1:=z8 (n:=es.size) 0 (.int nx 0) hI;refine Zo (wpAny_setField g1 rfl (by simp) ?_);refine Y7 (q _ (fun b ob hb e=>Tj hb (Tj hb e)) ?_);have g2:=z8 (n:=es.size) 1 (.int ((i:Int)+1) 0) g1;exact g2
 cases F with
 | byText hb =>
  dsimp only;unfold setNext setsByText;refine Zo (Zo (wpAny_setState_of ho hd ti.fits ?_));dsimp only;refine Zo (Zo (wpAny_askSetting (Y7 ?_)));dsimp only;rw[show (model prog w).w.params.followText "set-order" = true from hb];simp only[↓reduceIte,Int.toNat_natCast,bne_self_eq_false,B0f];unfold setWalk setsByText;refine Zo (Zo (wpAny_setState_of ho hd ti.fits ?_));dsimp only;refine Zo (Zo (wpAny_askSetting (Y7 ?_)));dsimp only;rw[show (model prog w).w.params.followText "set-order" = true from hb];simp only[↓reduceIte];refine Zo (wpAny_askSetting (Y7 ?_));dsimp only;rw[Ma,Array.getElem?_toList]at hv;have hv':(pickOrder ((model prog w).w.params.setOrder a ep) es)[i]?.map (·.2)=some v:=hv;cases hq:(pickOrder ((model prog w).w.params.setOrder a ep) es)[i]? with
  | none=>rw[hq]at hv';cases hv'
  | some e =>
   rw[hq]at hv';cases hv';refine Y7 ?_;dsimp only[Option.map_some];exact two _ fun h1 k1 g1=>⟨_,rfl,Y7 (fin h1 _ k1 g1 (fun T z=>by cases z) (.byText hb))⟩
 | @drawn T c ps hp hT2 =>
  dsimp only;refine Zo (wpAny_seqItems hT2 rfl ?_);dsimp only;rw[Ma]at hv;cases hq:ps[i]? with
  | none=>rw[hq]at hv;cases hv
  | some p =>
   rw[hq]at hv;cases hv;have Nc:p<es.size:=List.mem_range.mp (hp.mem_iff.mp (Ow hq))
   have e1:(List.map (fun(p:Nat)=>rawInt p) ps).toArray[((i:Int)).toNat]?=some (.int (p:Int) 0):=by
    simp only[Int.toNat_natCast,List.getElem?_toArray,Ma,hq]
    rfl
   rw[e1];dsimp only;unfold setNextDrawn;refine Zo (Zo (wpAny_setState_of ho hd ti.fits ?_));dsimp only;simp only[Int.toNat_natCast,bne_self_eq_false,B0f, ↓reduceIte,A0g Nc];refine Y7 ?_;refine Zo (wpAny_setField hI rfl (by simp) ?_);have g1:=z8 (n:=es.size) 1 (.int ((i:Int)+1) 0) hI;have e2:(es.getD p (0,Value.none)).2=es[p].2:=by simp[Nc]
   refine Y7 ⟨_,rfl,Y7 ?_⟩;have q:=fin _ _ (fun b ob hb e=>Tj hb e) g1 (fun T z=>z) (.drawn hp (Tj (hT T rfl) hT2));dsimp only at q;rw[e2]at q;exact q
 | plain hb P0 lh =>
  dsimp only;unfold setNext setsByText;refine Zo (Zo (wpAny_setState_of ho hd ti.fits ?_));dsimp only;refine Zo (Zo (wpAny_askSetting (Y7 ?_)));dsimp only;rw[show (model prog w).w.params.followText "set-order" = false from hb];simp only[↓reduceIte,Int.toNat_natCast,bne_self_eq_false,B0f];rw[if_neg (fun z=>by have z':(!t.plain && decide (es.size>1))=true:=z;rw[P0]at z';cases z')]
  have led0:∀{Q1:Unit->Shared->Prop} {E1:Vt},Q1 () s->wpAny (model prog w) A.in1 (if (!t.led && !es.isEmpty)=true then unsupported "set:maker-not-led" else pure ()) Q1 E1 s:=fun q=>by
   rw[lh,if_neg (by simp)];exact Y7 q
  refine Zo (led0 ?_);rw[Ma,Array.getElem?_toList]at hv;cases hq:es[i]? with
  | none=>rw[hq]at hv;cases hv
  | some e =>
   rw[hq]at hv;cases hv;have Nc:i<es.size:=(Array.getElem?_eq_some_iff.mp hq).1;have hlp:i<t.place.size:=by rw[ti.size];exact Nc
   rw[kq ti.ris (Nat.le_of_lt hlp),hq,A0g hlp];refine Y7 ?_;dsimp only;refine two _ fun h1 k1 g1=>⟨_,rfl,Y7 (fin h1 _ k1 g1 (fun T z=>by cases z) ?_)⟩;have q:=Fst.plain (w:=w) (a:=a) (es:=es) (ep:=ep) (t:=t) (h:=h1) (i:=i+1) (tk:=0) hb P0 lh;rw[if_neg (Nat.succ_ne_zero i),Nat.add_sub_cancel,xh hlp]at q;exact q
theorem Zyb{Q:Option Value->Shared->Prop}(hh:A.handled=none)(ho:s.heap.get? a=some o)(hex:o.ExactSet)(hd:o.data=.set es ep t)(ti:Wj t es.size)(hI:s.heap.get? I=some (Ka first i a es.size ep))(hne:a≠I)
  (F:Fst w a es ep t s.heap i first vs) (hi:i=vs.length)
  (fin:∀h1,(∀b ob,b≠I->s.heap.get? b=some ob->h1.get? b=some ob)->Q none { s with heap:=h1 }) :
  wpAny (model prog w) A (pyNext (.ref I)) Q E s:=by
 have hTy:s.TypeIs (.ref I) "set_iterator" := ⟨_,hI,rfl⟩;have hlen:i=es.size:=by rw[hi,F.perm.length_eq,Yp,jk]
 unfold pyNext;refine Zo (wpAny_attempt (wpAny_callSpecial?_slot (name:=Str.ofString "__next__") hTy B7 (wpAny_call_entry B7 hTy js ?_ (ai _))));unfold Builtin.«set_iterator.__next__» slotArgs;simp only[List.isEmpty_nil,Bool.not_true,B0f, ↓reduceIte,bind_assoc,List.length_nil,bne_self_eq_false];refine Zo (Y7 ?_);dsimp only;refine Zo (wpAny_fieldsOf hI rfl ?_);dsimp only[rawInt];refine Zo (wpAny_setEntries_of ho hd ti.fits ?_);rw[if_neg (by simp)]
 have stop:∀(h0:Heap) {Q1:Fin->Shared->Prop},(∀b ob,b≠I->s.heap.get? b=some ob->h0.get? b=some ob)->wpAny (model prog w) A.in1 (do let e <-newExc (.type "StopIteration") [];raiseNew e) Q1
   (fun e s'=>wpAny (model prog w) A (do let b <-isInstance e (.type "StopIteration");if b=true then pure none else throw e) Q E s') { s with heap:=h0 }:=by
  intro h0 Q1 k0;refine Zo ?_;simp only[newExc,newTuple];refine Zo (wpAny_newObj_type ?_ (by size_fits));refine Zo (m:=firstArgMember _ _) (wpAny_of_eq (a:=Value.none) (by first | rfl | (simp only[firstArgMember];rfl)) ?_);refine wpAny_newObj_type ?_ (by size_fits);simp only[raiseNew];refine Zo (wpAny_handled ?_);rw[show A.in1.handled=none from hh];refine Zo (Y7 (wpAny_throw ?_));refine Zo (wpAny_isInstance (T:="StopIteration") (b:=true) ⟨_,Rj _ rfl,rfl⟩ isSubtype_stop ?_);exact Y7 (fin _ fun b ob hb e=>G4 _ (G4 _ (k0 b ob hb e)))
 have one:∀{Q1:Fin->Shared->Prop},wpAny (model prog w) A.in1 (do setField (.ref I) 2 .none;let e <-newExc (.type "StopIteration") [];raiseNew e) Q1
   (fun e s'=>wpAny (model prog w) A (do let b <-isInstance e (.type "StopIteration");if b=true then pure none else throw e) Q E s') s:=by
  intro Q1;exact Zo (wpAny_setField hI rfl (by simp) (stop _ fun b ob hb e=>Tj hb e))
 cases F with
 | byText hb =>
  dsimp only;unfold setNext setsByText;refine Zo (Zo (wpAny_setState_of ho hd ti.fits ?_));dsimp only;refine Zo (Zo (wpAny_askSetting (Y7 ?_)));dsimp only;rw[show (model prog w).w.params.followText "set-order" = true from hb];simp only[↓reduceIte,Int.toNat_natCast,bne_self_eq_false,B0f];unfold setWalk setsByText;refine Zo (Zo (wpAny_setState_of ho hd ti.fits ?_));dsimp only;refine Zo (Zo (wpAny_askSetting (Y7 ?_)));dsimp only;rw[show (model prog w).w.params.followText "set-order" = true from hb];simp only[↓reduceIte];refine Zo (wpAny_askSetting (Y7 ?_));dsimp only
  have no:(pickOrder ((model prog w).w.params.setOrder a ep) es)[i]?=none:=by
   rw[Array.getElem?_eq_none_iff];rw[hi,Yp,jk];exact Vj _
  rw[no];refine Y7 ?_;exact one
 | @drawn T c ps hp hT2 =>
  dsimp only;refine Zo (wpAny_seqItems hT2 rfl ?_);dsimp only
  have e1:(List.map (fun(p:Nat)=>rawInt p) ps).toArray[((i:Int)).toNat]?=none:=by
   rw[hi];simp
  rw[e1];dsimp only;refine Zo (wpAny_setField hI rfl (by simp) ?_);have g1:=z8 (n:=es.size) 0 (.int 0 0) hI;refine Zo (wpAny_setField g1 rfl (by simp) ?_);exact stop _ fun b ob hb e=>Tj hb (Tj hb e)
 | plain hb P0 lh =>
  dsimp only;unfold setNext setsByText;refine Zo (Zo (wpAny_setState_of ho hd ti.fits ?_));dsimp only;refine Zo (Zo (wpAny_askSetting (Y7 ?_)));dsimp only;rw[show (model prog w).w.params.followText "set-order" = false from hb];simp only[↓reduceIte,Int.toNat_natCast,bne_self_eq_false,B0f];rw[if_neg (fun z=>by have z':(!t.plain && decide (es.size>1))=true:=z;rw[P0]at z';cases z')]
  have led0:∀{Q1:Unit->Shared->Prop} {E1:Vt},Q1 () s->wpAny (model prog w) A.in1 (if (!t.led && !es.isEmpty)=true then unsupported "set:maker-not-led" else pure ()) Q1 E1 s:=fun q=>by
   rw[lh,if_neg (by simp)];exact Y7 q
  refine Zo (led0 ?_);rw[kq ti.ris (by rw[ti.size,hlen];exact Vj _),Array.getElem?_eq_none (by rw[hlen];exact Vj _)];refine Y7 ?_;exact one
end
theorem ao:Slot "set_iterator" "__iter__" "set_iterator.__iter__" :=
 Slot.of (owner:="set_iterator") (n:="__iter__") (by rw[typeLookup_type,builtinLookup_eq_fast];kernel_rfl) (by decide +kernel) (by decide +kernel) (by decide +kernel) (.inl (by decide +kernel)) (by rw[isSubtype_type];kernel_rfl)
theorem Ay:entryFor table "set_iterator.__iter__" = some Builtin.«dict_keyiterator.__iter__»:=entryFor_alias (id':="dict_keyiterator.__iter__") (by kernel_rfl) rfl (by decide +kernel) (by kernel_rfl)
theorem X6(a:Value):argsOk "set_iterator.__iter__" ⟨[a],[]⟩:=by unfold argsOk;kernel_rfl
section
variable{prog:Program}{w:World}{A:Around}{E:Vt}{s:Shared}{a I:Addr}{o:Obj}{es:Array (Int×Value)}{ep:Nat}{t:SetTable}{vs:List Value}
def StI(w:World)(a I:Addr)(o:Obj)(es:Array (Int×Value))(ep:Nat)(t:SetTable)(Ts:List Addr)(vs:List Value)(i:Nat)(h:Heap):Prop :=
 ∃first,h.get? I=some (Ka first i a es.size ep)/\h.get? a=some o/\(∀T,first=.ref T->T∈Ts)/\Fst w a es ep t h i first vs
theorem Zz8(hh:A.handled=none)(hex:o.ExactSet)(hd:o.data=.set es ep t)(ti:Wj t es.size)(hne:a≠I)(Ts:List Addr)(hTs:I ∉ Ts) :
  Walks prog w A I (I::a::Ts) [I] vs.length (fun i v=>vs[i]?=some v) (StI w a I o es ep t Ts vs) where
 sub:=fun b hb=>by rw[N6.mp hb];exact Te
 frame:=fun i h h1 st k=>by
  obtain⟨first,g1,g2,g3,F⟩:=st;exact⟨first,k I Te _ g1,k a (Rq _ Te) _ g2,g3,F.heap fun T e ob q=>k T (Rq _ (Rq _ (g3 T e))) ob q⟩
 item:=fun i s Q E hi st fin=>by
  obtain⟨first,g1,g2,g3,F⟩:=st;refine Zqk g2 hex hd ti g1 hne (fun T e z=>hTs (z ▸ g3 T e)) F (Nn hi) fun h1 first' k1 q1 q2 F1=>?_
  exact fin _ h1 s.toks (Nn hi) ⟨first',q1,k1 a o hne g2,fun T e=>g3 T (q2 T e),F1⟩ fun b ob hb e=>k1 b ob (fun z=>hb (by rw[z];exact List.mem_singleton_self _)) e
 done:=fun s Q E st fin=>by
  obtain⟨first,g1,g2,g3,F⟩:=st;exact Zyb hh g2 hex hd ti g1 hne F rfl fun h1 k1=>fin h1 s.toks fun b ob hb e=>k1 b ob (fun z=>hb (by rw[z];exact List.mem_singleton_self _)) e
 self:=fun i s Q E st q=>by
  obtain⟨first,g1,g2,g3,F⟩:=st;have hTy:s.TypeIs (.ref I) "set_iterator" := ⟨_,g1,rfl⟩;refine wpAny_pyIter_slot hTy ao (wpAny_call_entry ao hTy Ay ?_ (X6 _));exact Y7 ⟨_,rfl,"set_iterator",_,hTy,B7.lookup,q⟩
theorem Zy7(hT:s.TypeIs (.ref a) "set"){Q:Bool->Shared->Prop}(h:Q false s):wpAny (model prog w) A (Builtin.List.listLengthHint (.ref a)) Q E s:=by
 unfold Builtin.List.listLengthHint;refine Zo (wpAny_specialOf hT PySem.F.slot_set_len.lookup ?_);generalize hid:("set.__len__" : String)=id0
 wp_delta
 rw[show splitId id0=some ("set","__len__") from by subst hid;decide +kernel];subst hid;refine Zo (wpAny_isInstance (b:=true) hT sub_set_self (wpAny_ite_split (fun z=>absurd z (by decide)) fun _=>wpAny_ite_split (fun _=>?_) fun z=>absurd (by decide +kernel) z));exact Zo (wpAny_typeOf hT (Y7 h))
theorem ye{Q:List Value->Shared->Prop}(hh:A.handled=none)(ho:s.heap.get? a=some o)(hex:o.ExactSet)(hd:o.data=.set es ep t)(ti:Wj t es.size)(hl:t.led=!(w.params.followText "set-order"))(hb:es.size<scanBound)
  (fin:∀(h1:Heap) (tk:Nat) (d:Drawn) (vs:List Value),(∀b ob,s.heap.get? b=some ob->h1.get? b=some ob)->s.heap.objs.size<h1.objs.size->vs.Perm (es.toList.map (·.2))->Q vs { s with heap:=h1,toks:=tk,drawn:=d }) :
  wpAny (model prog w) A (collect (.ref a)) Q E s:=by
 have alt:=Du ho;unfold collect;refine Zo (wpAny_runValue (codeAny_builtin entry_proto_collect' ?_));rw[Around.under_plainId PySem.F.plain_proto_collect];refine Zo (m:=newList []) (wpAny_newObj_type (Y7 ⟨plainId_quiet PySem.F.plain_list_iadd _,codeAny_builtin entry_list_iadd' ?_⟩));rw[Around.under_plainId PySem.F.plain_list_iadd];generalize hs1:({ s with heap:=s.heap.push { cls:=.type "list",dict:=none,data:=.seq ([]:List Value).toArray } }:Shared)=s1
 change wpAny (model prog w) A.in1 (Builtin.List.listExtendWith (.ref s.heap.objs.size) (.ref a) (.ref s.heap.objs.size)) _ _ _
 have Jy:s1.heap.get? s.heap.objs.size=some { cls:=.type "list",dict:=none,data:=.seq #[] 0,slots:=#[] }:=by rw[<-hs1];exact Rj _ rfl
 have k1:∀b ob,s.heap.get? b=some ob->s1.heap.get? b=some ob:=fun b ob e=>by rw[<-hs1];exact G4 _ e
 have ho1:=k1 a o ho;have hT1:s1.TypeIs (.ref a) "set" := ⟨o,ho1,hex.1⟩;unfold Builtin.List.listExtendWith;refine Zo (wpAny_typeOf hT1 ?_)
 have n1:Builtin.List.listSameRef (.ref s.heap.objs.size) (.ref a)=false:=by
  simp only[Builtin.List.listSameRef,B0n];exact Nat.ne_of_gt alt
 have n2:(Value.type "set" == Value.type "list")=false:=by decide
 have n3:(Value.type "set" == Value.type "tuple")=false:=by decide
 simp only[n1,n2,n3,Bool.or_false,B0f,if_false];refine Zo (Zyi ho1 hex hd ti hl hb fun I first h2 d vs k2 hI Oz hf F=>?_);generalize hS:s.heap.objs.size=S at *;have S1:S<s1.heap.objs.size:=Du Jy
 obtain⟨Ts,tin,tout,tall⟩:∃Ts:List Addr,(∀T,first=.ref T->T∈Ts)/\I ∉ Ts/\∀T∈Ts,s1.heap.objs.size<=T:=by
  cases first with
  | ref T=>exact⟨[T],(fun T' e=>by cases e;exact List.mem_singleton_self _),fun z=>(hf T rfl).1 (N6.mp z).symm,fun T' z=>by rw[N6.mp z];exact(hf T rfl).2⟩
  | _=>exact⟨[],(fun T e=>nomatch e),U6,fun T z=>absurd z U6⟩
 have aI:a≠I:=Oj (Hh (Nat.lt_trans alt S1) hI);have SI:S≠I:=Oj (Hh S1 hI)
 have Sfp:S ∉ I::a::Ts:=fun z=>by
  rcases G2.mp z with z | z
  ·exact SI z
  ·rcases G2.mp z with z | z
   ·exact Nat.ne_of_gt alt z
   ·exact absurd (Hh S1 (tall S z)) (Nat.lt_irrefl _)
 have hn:vs.length<=sizeLine:=by
  rw[F.perm.length_eq,Yp,jk];exact fits_of_scanBound hb
 have W:=Zz8 (prog:=prog) (w:=w) (A:=A.in1) (vs:=vs) hh hex hd ti aI Ts tout;have st2:StI w a I o es ep t Ts vs 0 h2:=⟨first,Oz,k2 a o ho1,tin,F⟩
 have key:∀(h3:Heap) (c:Nat),StI w a I o es ep t Ts vs 0 h3->h3.get? S=some { cls:=.type "list",dict:=none,data:=.seq #[] c,slots:=#[] }->(∀b ob,s.heap.get? b=some ob->h3.get? b=some ob) ->
   codeAny (model prog w) A (.builtin "list.extend.loop" ⟨[.ref S,.ref I,.ref S],[]⟩) (fun r s'=>match r with
    | .ok (.ret v)=>wpAny (model prog w) A (match v with
      | .ref a=>do
       let x <-load a
       match x.data with
        | .seq xs _=>pure xs.toList
        | _=>unsupported "internal:collect"
      | _=>unsupported "internal:collect") Q E s'
    | .ok _=>False
    | .error e=>E e s') { heap:=h3,gens:=s1.gens,drawn:=d,toks:=s1.toks,os:=s1.os }:=by
  intro h3 c st3 g3 k3;refine codeAny_extend_loopS W.toS hn S Sfp (.ref S) vs.length 0 _ #[] c rfl (Wl _) st3 g3 (ItemsOf.nil _) fun s4 acc c4 mv g4 items=>?_;dsimp only;refine Zo (wpAny_load g4 ?_);dsimp only;obtain⟨h4,gg,d4,tk4,o4⟩:=s4;have x1:gg=s1.gens:=mv.gens;have x2:d4=d:=mv.drawn;have x3:o4=s1.os:=mv.os;subst x1 x2 x3
  have ev:acc.toList=vs:=by
   apply List.ext_getElem?
   intro i;rw[Array.getElem?_toList];by_cases hi:i<vs.length
   ·have hi':i<acc.size:=by rw[items.1];exact hi
    rw[A0g hi'];exact(items.2 i _ (A0g hi')).symm
   ·rw[Array.getElem?_eq_none (by rw[items.1];omega),List.getElem?_eq_none (by omega)]
  rw[ev];have q:=fin h4 tk4 d4 vs (fun b ob e=>mv.heap b ob (fun z=>?_) (k3 b ob e)) (Du g4) F.perm
  ·rw[<-hs1];exact Y7 q
  ·have lb:=Du e;rcases G2.mp z with z | z
   ·rw[hS,z]at lb;exact Nat.lt_irrefl _ lb
   ·rw[N6.mp z,hS]at lb;exact Nat.lt_irrefl _ (Hh (Nat.lt_trans lb S1) hI)
 have kall:∀b ob,s.heap.get? b=some ob->h2.get? b=some ob:=fun b ob e=>k2 b ob (k1 b ob e);have nbS:∀{b:Addr} {ob:Obj},s.heap.get? b=some ob->b≠S:=fun e=>Oj (hS ▸ Du e);refine Zo (wpAny_holding (Zy7 ⟨o,k2 a o ho1,hex.1⟩ ?_));refine wpAny_ite_split (fun _=>?_) (fun _=>Y7 ⟨plainId_quiet PySem.F.plain_extend_loop _,key h2 0 st2 (k2 S _ Jy) kall⟩);refine Zo (wpAny_rule (Zo (m:=Builtin.List.listTouch (.ref S)) ?_))
 change wpAny (model prog w) _ (updateSeq S (·.push .none) >>= fun _=>updateSeq S (·.pop)) _ _ _
 refine Zo (wpAny_updateSeq (k2 S _ Jy) rfl ?_);have u1:=Heap.get?_update_self (Obj.mapSeq (·.push Value.none)) (k2 S _ Jy) rfl;refine wpAny_updateSeq (hz:=by seq_fits) u1 rfl ?_;have u2:=Heap.get?_update_self (Obj.mapSeq (·.pop)) u1 rfl;have other:∀b ob,b≠S->h2.get? b=some ob->((h2.update S (Obj.mapSeq (·.push Value.none))).update S (Obj.mapSeq (·.pop))).get? b=some ob:=fun b ob z e=>(Heap.get?_update_other _ _ (Ne.symm z)).trans ((Heap.get?_update_other _ _ (Ne.symm z)).trans e);refine Y7 ⟨plainId_quiet PySem.F.plain_extend_loop _,key _ _ (W.frame 0 _ _ st2 fun b z ob e=>other b ob (fun y=>Sfp (y ▸ z)) e) u2 fun b ob e=>other b ob (nbS e) (kall b ob e)⟩
end
section
variable{prog:Program}{w:World}{K:Type}[DecidableEq K]{knd:PySem.KeyKind prog w K}{A:Around}{E:Vt}{s:Shared}{a:Addr}
theorem Sj{h:Heap}{l b:Addr}{vs:List Value}{out:Array Value}{ob:Obj}(hb:b≠l)(e:h.get? b=some ob):(sortedHeap h l vs out).get? b=some ob:=by
 rw[sortedHeap_old hb (Du e)];exact e
theorem Ky{α β γ:Type}{G:α->γ->Prop}{g:β->γ}:∀{l:List α} {r:List β},Paired (fun x y=>G x (g y)) l r->Paired G l (r.map g)
 | _,_,.nil=>.nil
 | _,_,.cons q t=>.cons q (Ky t)
theorem Aw{ks:List K}{Q:Vt}(hh:A.handled=none)(hS:Ww knd s.heap a ks)
  (fin:∀(h1:Heap) (tk:Nat) (d:Drawn) (vs:List Value) (ks1:List K),(∀b ob,s.heap.get? b=some ob->h1.get? b=some ob)->s.heap.objs.size<h1.objs.size->Paired (fun k v=>knd.is k v=true) ks1 vs->ks1.Perm ks ->
   wpAny (model prog w) A.in1.in1 (Builtin.«list.sort» ⟨[.ref h1.objs.size],[]⟩) (fun r s2=>r=.done (.ret .none)/\Q (.ref h1.objs.size) s2) E { s with heap:=h1.push (seqObj "list" vs.toArray 0),toks:=tk,drawn:=d }) :
  wpAny (model prog w) A (call (.builtin "sorted") [.ref a]) Q E s:=by
 obtain⟨o,ho,S⟩:=hS;obtain⟨es,ep,t,hd,hel,pr,hb,ti,hl⟩:=S.dat;refine Calls.call_function_entry kind_sorted plain_sorted entry_sorted (args_sorted1 _) ?_;unfold Builtin.«sorted»;refine Zo (m:=checkCount "sorted" 1 1 _) (Y7 ?_);refine Zo (ye hh ho S.ex hd ti hl hb fun h1 tk d vs k1 sz hp=>?_)
 have hn:vs.length<=sizeLine:=by
  rw[hp.length_eq,Yp,jk];exact fits_of_scanBound hb
 have pr2:Paired (fun k v=>knd.is k v=true) ks (es.toList.map (·.2)):=Ky pr;obtain⟨ks1,pr3,pk⟩:=Ct hp pr2;refine Zo (wpAny_newList ?_ hn);refine Zo (wpAny_holding ?_);have Jy:(h1.push (seqObj "list" vs.toArray 0)).get? h1.objs.size=some (seqObj "list" vs.toArray 0):=Rj _ rfl;refine wpAny_call_entry slot_list_sort ⟨_,Jy,rfl⟩ entry_list_sort ?_ (args_list_sort _);refine wpAny_mono (fin h1 tk d vs ks1 k1 sz pr3 pk) (fun r s2 q=>?_) fun _ _ z=>z;obtain⟨rfl,q⟩:=q;exact⟨_,rfl,Y7 ⟨_,rfl,q⟩⟩
theorem ay{f:K->Str}:∀{ks:List K} {vs:List Value},(∀k v,k∈ks->knd.is k v=true->∃t,v=.str (f k) t)->Paired (fun k v=>knd.is k v=true) ks vs->StrsAre vs (ks.map f)
 | _,_,_,.nil=>.nil
 | k::ks,v::vs,hf,.cons r t=>by
  obtain⟨tk,rfl⟩:=hf k v Te r;exact .cons _ _ (ay (fun k v hk=>hf k v (Rq _ hk)) t)
theorem Sq{ks:List K}{f:K->Str}{Q:Vt}(hh:A.handled=none)(hS:Ww knd s.heap a ks)(hf:∀k v,k∈ks->knd.is k v=true->∃t,v=.str (f k) t)(h64:ks.length<64)
  (fin:∀(h1:Heap) (tk:Nat) (d:Drawn) (l:Addr) (out:Array Value) (n:Nat) (ns:List Str),(∀b ob,s.heap.get? b=some ob->h1.get? b=some ob)->s.heap.objs.size<=l->h1.get? l=some (seqObj "list" out n)->StrsAre out.toList ns->ns.Perm (ks.map f)->sortedS ns=true->Q (.ref l) { s with heap:=h1,toks:=tk,drawn:=d }) :
  wpAny (model prog w) A (call (.builtin "sorted") [.ref a]) Q E s:=by
 refine Aw hh hS fun h1 tk d vs ks1 k1 sz pr pk=>?_;have hI:=ay (fun k v hk=>hf k v (pk.mem_iff.mp hk)) pr;have hlen:vs.length=ks.length:=by rw[<-pr.length,pk.length_eq]
 refine list_sort_treeK strKind_oneLt (s:={ s with heap:=h1.push (seqObj "list" vs.toArray 0),toks:=tk,drawn:=d }) (Rj _ rfl) hI.keysOf (fun v1 v2 Mm e=>keyKind_strs (by rw[<-e];exact hI)) (by omega) fun st hp hs=>⟨rfl, ?_⟩;obtain⟨ns,q1,q2,q3⟩:=sorted_out_str hI hp hs;obtain⟨n,e⟩:=sortedHeap_at (h:=h1.push (seqObj "list" vs.toArray 0)) (a:=h1.objs.size) (vs:=vs) (n:=0) (out:=(arrOf st).map (·.2)) (Rj _ rfl);exact fin _ tk d h1.objs.size _ n ns (fun b ob e0=>Sj (Oj (Du (k1 b ob e0))) (G4 _ (k1 b ob e0))) (Nat.le_of_lt sz) e q1 (q2.trans (pk.map f)) q3
end
end SetM
namespace L2
open PySem PySem.Spec PyProof.Rows
def gj(P:Program)(w:World)(a:Addr)(us:List Um):HO:=.ext fun h=>SetM.Ww (Y2 P w) h a us
theorem Zfc{P:Program}{w:World}(k:Um){v:Value}(r:Z9 (kV k) v):(Y2 P w).is k v=true/\v.scannable=true:=by
 cases k with
 | inl i=>obtain⟨t,rfl⟩:=(show ∃t,v=Value.int i t from r);exact⟨I9 i t,rfl⟩
 | inr x=>obtain⟨t,rfl⟩:=(show ∃t,v=Value.str x t from r);exact⟨I8 x t,rfl⟩
theorem Zi.put{X:Cx}{pins:Uv}{σ:St}{H:Hp}{s:Shared}{h':Heap}{a:Addr}{o:HO}{t':Nat}{d':Drawn}(I:Zi X pins σ H s)(k:∀b u,s.heap.get? b=some u->h'.get? b=some u)(hp:s.heap.objs.size<=a)(new:Vq X.prog X.w (Yq H a o) h' a o) :
  Zi X pins σ (Yq H a o) { s with heap:=h',toks:=t',drawn:=d' } :=
 I.call (g':=s.gens) (t':=t') (d':=d') (ch:=[]) (Un.laid k hp (I.hok.fresh hp)) (I.hok.laid k hp new) I.bare fun b z=>absurd z U6
section
variable{X:Cx}
theorem Zq7(hc:X.calm=true):D9 X (.type "set") (fun xs H Q=>∃(p:Addr) (ks:List Um),xs=[.ref p]/\Z0 X.K H p (ks.map kV)/\ks.length+1<scanBound /\
  ∀(l:Addr) (us:List Um),H l=none->us.Nodup->(∀x,x∈us↔x∈ks)->us.length<=ks.length->Q (.ref l) (Yq H l (gj X.prog X.w l us))):=by
 intro pins s σ H xs us Q I r h;obtain⟨p,ks,rfl,hq,hz,q⟩:=h;obtain⟨u,rfl,rx⟩:=Tu r;cases rx;obtain⟨its,rv,pl,hzz⟩:=I.list hq;have hl:its.toArray.size=ks.length:=by rw[Dy, <-rv.length,Yp]
 refine SetM.Zk0 (knd:=Y2 X.prog X.w) (val:=fun i=>ks.getD i (.inl 0)) (I.ok.hd hc) pl.isList (fun i v e=>?_) (by omega) fun h1 tk ws S u k1=>?_
 ·have e':its[i]?=some v:=by simpa using e
  have hi:i<ks.length:=by
   have:=(Q8.mp e').1;rw[Dy]at hl;omega
  have e2:(ks.map kV)[i]?=some (kV ks[i]):=by rw[Ma,Nn hi];rfl
  obtain⟨v',g1,g2⟩:=rv.get e2;rw[e']at g1;cases g1;have e3:ks.getD i (.inl 0)=ks[i]:=by simp[hi]
  rw[e3];exact Zfc _ g2
 ·obtain⟨o,ho,SO⟩:=id S
  have mem:∀x,x∈ws↔x∈ks:=fun x=>by
   rw[u.mem x,hl];constructor
   ·rintro⟨j,h1,h2⟩;rw[<-h2];have e3:ks.getD j (.inl 0)=ks[j]:=by simp[h1]
    rw[e3];exact G0e h1
   ·intro hx;obtain⟨j,h1,h2⟩:=List.mem_iff_getElem.mp hx;exact⟨j,h1,by simp[h1,h2]⟩
  refine⟨.ref s.heap.objs.size,_,I.put (o:=gj X.prog X.w s.heap.objs.size ws) (d':=s.drawn) k1 (Vj _) ⟨S,⟨o,ho⟩,fun h2 h3 x e=>SetM.Ww.at' x e⟩,rfl,q _ ws (I.hok.fresh (Vj _)) SO.nd mem ?_⟩;have:=u.len;omega
theorem Iw:∀{vs:List Value} {ss:List Str},StrsAre vs ss->Yb (ss.map V.str) vs
 | _,_,.nil=>.nil
 | _,_,.cons y t r=>.cons ⟨t,rfl⟩ (Iw r)
theorem qw(hc:X.calm=true):D9 X (.builtin "sorted") (fun xs H Q=>∃(a:Addr) (zs:List Str),xs=[.ref a]/\H a=some (gj X.prog X.w a (zs.map Sum.inr))/\zs.length<64 /\
  ∀(l:Addr) (ns:List Str),H l=none->ns.Perm zs->sortedS ns=true->Q (.ref l) (Yq H l (.lst (ns.map V.str)))):=by
 intro pins s σ H xs us Q I r h;obtain⟨a,zs,rfl,hq,hz,q⟩:=h;obtain⟨u,rfl,rx⟩:=Tu r;cases rx;obtain⟨S,_,_⟩:=(show SetM.Ww (Y2 X.prog X.w) s.heap a (zs.map Sum.inr)/\_ from I.hok a _ hq);refine SetM.Sq (knd:=Y2 X.prog X.w) (f:=fun k=>match k with | .inl _=>("" : Str) | .inr x=>x) (I.ok.hd hc) S (fun k v hk hv=>?_) (by rw[Yp];exact hz) fun h1 tk d l out n ns k1 sz Jy hI pm pw=>?_
 ·obtain⟨x,_,rfl⟩:=Dp.mp hk;rcases Vb (show O0 (Sum.inr x) v=true from hv) with ⟨j,t,e,rfl⟩ | ⟨y,t,e,rfl⟩
  ·cases e
  ·cases e;exact⟨t,rfl⟩
 ·have pm':ns.Perm zs:=by
   have e:(zs.map (Sum.inr:Str->Um)).map (fun k=>match k with | .inl _=>("" : Str) | .inr x=>x)=zs:=by rw[List.map_map];exact List.map_id' _
   rw[<-e];exact pm
  refine⟨.ref l,_,I.put (o:=.lst (ns.map V.str)) k1 sz ⟨?_,out.toList,n,Iw hI, ?_⟩,rfl,q l ns (I.hok.fresh sz) pm' pw⟩
  ·rw[Yp,pm'.length_eq];exact Nat.le_of_lt (Yi (by omega))
  ·simpa using Jy
end
end L2
namespace ZipL
open PySem PySem.Calls PyProof.Rows PyProof.V PySem.Spec
abbrev ZAt(h:Heap)(z TI TO:Addr)(f0 f1:Value):Prop :=
 h.get? z=some { cls:=.type "zip",dict:=none,data:=.fields #[f0,f1,.bool false,.ref TI,.ref TO],slots:=#[] }
section
variable{prog:Program}{w:World}{A:Around}{E:Vt}{s:Shared}{z TI TO T i1 i2 l1 l2:Addr}{f:Bool}{oT:Obj}{k1 k2:Nat}{xs ys:Array Value}{x y:Value}
structure ZSt(h:Heap)(z TI TO i1 i2 l1 l2 S:Addr)(xs ys:Array Value)(i:Nat):Prop where
 at0:ZAt h z TI TO .none (.bool false)\/∃(T:Addr) (f:Bool) (oT:Obj),ZAt h z TI TO (rawInt T) (.bool f)/\h.get? T=some oT/\T≠z/\T≠TO/\T≠i1/\T≠i2/\T≠S
 ti:IsPair h TI (.ref i1) (.ref i2)
 to:∃a b,IsPair h TO a b
 it1:h.IsListIter i1 l1 i
 it2:h.IsListIter i2 l2 i
 ls1:h.IsList l1 xs
 ls2:h.IsList l2 ys
theorem ZSt.keep{h h':Heap}{S:Addr}{i:Nat}(q:ZSt h z TI TO i1 i2 l1 l2 S xs ys i)(k:∀c o,c≠S->h.get? c=some o->h'.get? c=some o)(hS:∀c∈[z,TI,TO,i1,i2,l1,l2],c≠S):ZSt h' z TI TO i1 i2 l1 l2 S xs ys i where
 at0:=by
  have e:=hS z (by simp);rcases q.at0 with a | ⟨T,f,oT,a,b,c⟩
  ·exact .inl (k _ _ e a)
  ·exact .inr ⟨T,f,oT,k _ _ e a,k _ _ c.2.2.2.2 b,c⟩
 ti:=k _ _ (hS TI (by simp)) q.ti
 to:=let ⟨a,b,e⟩:=q.to;⟨a,b,k _ _ (hS TO (by simp)) e⟩
 it1:=q.it1.at fun o e=>k _ o (hS i1 (by simp)) e
 it2:=q.it2.at fun o e=>k _ o (hS i2 (by simp)) e
 ls1:=q.ls1.at fun o e=>k _ o (hS l1 (by simp)) e
 ls2:=q.ls2.at fun o e=>k _ o (hS l2 (by simp)) e
end
section
variable{prog:Program}{w:World}{A:Around}{R:Result->Shared->Prop}{E:Vt}{s:Shared}{z TI TO i1 i2 l1 l2 S:Addr}{xs ys:Array Value}
structure Made(h:Heap)(lo:Addr)(xs ys:Array Value)(as:List Addr):Prop where
 rise:as.Pairwise (· < ·)
 above:∀a∈as,lo<=a
 pairs:∀(j:Nat) (a:Addr),as[j]?=some a->∃x y,xs[j]?=some x/\ys[j]?=some y/\IsPair h a x y
theorem Made.there{h:Heap}{lo:Addr}{as:List Addr}(g:Made h lo xs ys as){a:Addr}(ha:a∈as):a<h.objs.size:=by
 obtain⟨j,hj⟩:=List.mem_iff_getElem?.mp ha;obtain⟨_,_,_,_,e⟩:=g.pairs j a hj;exact Du e
theorem Made.keep{h h':Heap}{lo:Addr}{as:List Addr}(g:Made h lo xs ys as)(k:∀c o,lo<=c->h.get? c=some o->h'.get? c=some o):Made h' lo xs ys as :=
 ⟨g.rise,g.above,fun j a e=>by
  obtain⟨x,y,e1,e2,e3⟩:=g.pairs j a e;exact⟨x,y,e1,e2,k a _ (g.above a (Ow e)) e3⟩⟩
end
end ZipL
namespace L2
open PySem PySem.Spec PyProof.Rows
section
variable{X:Cx}{pins:Uv}{σ:St}{H H':Hp}{s:Shared}{h':Heap}
end
def Eb(H:Hp):List Addr->List V->List V->Prop
 | [],xs,ys=>xs=[]\/ys=[]
 | a::as,xs,ys=>∃x xr y yr,xs=x::xr/\ys=y::yr/\H a=some (.tup [x,y])/\Eb H as xr yr
theorem Eb.of{H:Hp}:∀{as:List Addr} {xs ys:List V},as.length=min xs.length ys.length->(∀(j:Nat) (a:Addr),as[j]?=some a->∃x y,xs[j]?=some x/\ys[j]?=some y/\H a=some (.tup [x,y]))->Eb H as xs ys
 | [],xs,ys,hl,_=>by
  cases xs with
  | nil=>exact .inl rfl
  | cons x xr =>
   cases ys with
   | nil=>exact .inr rfl
   | cons y yr=>simp at hl
 | a::as,xs,ys,hl,h=>by
  cases xs with
  | nil=>simp at hl
  | cons x xr =>
   cases ys with
   | nil=>simp at hl
   | cons y yr =>
    obtain⟨x',y',e1,e2,e3⟩:=h 0 a rfl;simp only[List.getElem?_cons_zero,Option.some.injEq]at e1 e2;subst e1 e2;refine⟨x,xr,y,yr,rfl,rfl,e3,Eb.of (by simp only[S6]at hl;omega) fun j b e=>?_⟩;obtain⟨x'',y'',q1,q2,q3⟩:=h (j+1) b (by simpa using e);exact⟨x'',y'',by simpa using q1,by simpa using q2,q3⟩
section
variable{X:Cx}{x y:Str}{p p2 pos M8:Pos}{a b:Expr}{t:TA}
end
def Fn(P:Program)(w:World)(K:W.Frag)(mg:Bw)(base:Heap)(k:Nat)(x:Str)(ps:List Str)(sp:Sp):Prop :=
 ∃f fd,Yn P w K mg base Je k f fd ps sp/\G5 K fd ps []/\W.keepIn K (.ref f)=true/\mg x=some (.ref f)
section
variable{X:Cx}{k:Nat}{x:Str}{ps:List Str}{sp:Sp}{p pos:Pos}{e:Expr}{es:List Expr}{t:TA}
theorem wz(G:Fn X.prog X.w X.K X.mg X.base k x ps sp)(hr:Ur k X.A)(hg:Gl X x)(ha:PA X (e::es) t)(hdb:(x == ("__debug__" : Str))=false:=by decide)
  (he:starEach (e::es) X.env=(false,eval e X.env)::starEach es X.env:=by rfl) (P0:(backTo pos (starEach es X.env)).any (·.1)=false:=by rfl) :
  PE X (.Call (.Name x p) (e::es) [] pos) (Zwl sp [] E0 t):=by
 obtain⟨f,fd,F,b,kp,m⟩:=G;exact Zf6 F hr hg m kp b .nil Zdj ha hdb he P0
theorem Yn.any{P:Program}{w:World}{K:W.Frag}{mg:Bw}{base:Heap}{CX:fh}{k:Nat}{f:Addr}{fd:FuncData}{ps:List Str}{ι:Type}{C:ι->Prop}{sp:ι->Sp}(h:∀i,C i->Yn P w K mg base CX k f fd ps (sp i)) :
  Yn P w K mg base CX k f fd ps (fun vs H Q E=>∃i,C i/\sp i vs H Q E) :=
 ⟨fun vs H Q E ⟨i,c,q⟩=>(h i c).len vs H Q E q,fun A outer s H args us vs Q E hr he hb hv ⟨i,c,q⟩=>(h i c).run A outer s H args us vs Q E hr he hb hv q⟩
end
def Up(K:W.Frag)(H H':Hp):Prop:=∀a xs,Yv K H a xs->Yv K H' a xs
theorem Up.refl{K:W.Frag}(H:Hp):Up K H H:=fun _ _ h=>h
theorem Up.trans{K:W.Frag}{H H1 H2:Hp}(a:Up K H H1)(b:Up K H1 H2):Up K H H2:=fun c xs h=>b c xs (a c xs h)
theorem Zw.up{K:W.Frag}{H H':Hp}(e:Zw H H'):Up K H H':=fun a xs h=>by
 rcases h with (h | ⟨o,h⟩) | h
 ·exact .inl (.inl (e _ _ h))
 ·exact .inl (.inr ⟨o,e _ _ h⟩)
 ·exact .inr h
theorem Zw.put{H H1:Hp}{p:Addr}{o:HO}(e:Zw H H1)(h:H p=none):Zw H (Yq H1 p o):=fun b u q=>by
 rw[Zl (Yw q h)];exact e b u q
mutual
def noL:D->Bool
 | .tup xs=>noLs xs
 | .lst _=>false
 | _=>true
def noLs:List D->Bool
 | []=>true
 | d::ds=>noL d && noLs ds
end
mutual
theorem Gp.up{K:W.Frag}{H H':Hp}(u:Up K H H'):∀(d:D) (v:V),noL d=true->Gp K H d v->Gp K H' d v
 | .non,v,_,h=>h
 | .bl b,v,_,h=>h
 | .int i,v,_,h=>h
 | .str x,v,_,h=>h
 | .tup ds,v,n,h=>by
  obtain⟨a,vs,e,q,r⟩:=h;exact⟨a,vs,e,u a vs q,Vy.up u ds vs (by simpa [noL] using n) r⟩
 | .lst ds,v,n,h=>by simp[noL]at n
theorem Vy.up{K:W.Frag}{H H':Hp}(u:Up K H H'):∀(ds:List D) (vs:List V),noLs ds=true->Vy K H ds vs->Vy K H' ds vs
 | [],vs,_,h=>h
 | d::ds,vs,n,h=>by
  obtain⟨v,r,e,q,t⟩:=h;have n':noL d=true/\noLs ds=true:=by simpa [noLs] using n
  exact⟨v,r,e,Gp.up u d v n'.1 q,Vy.up u ds r n'.2 t⟩
end
theorem Kc:∀{ds:List D},(∀d∈ds,noL d=true)->noLs ds=true
 | [],_=>rfl
 | d::ds,h=>by
  simp only[noLs,Iq];exact⟨h d Te,Kc fun e m=>h e (Rq _ m)⟩
theorem Vy.append{K:W.Frag}{H:Hp}:∀{ds es:List D} {vs ws:List V},Vy K H ds vs->Vy K H es ws->Vy K H (ds++es) (vs++ws)
 | [],es,vs,ws,h,h'=>by
  have e:vs=[]:=h;subst e;exact h'
 | d::ds,es,vs,ws,h,h'=>by
  obtain⟨v,r,e,q,t⟩:=h;subst e;exact⟨v,r++ws,rfl,q,Vy.append t h'⟩
theorem Vy.one{K:W.Frag}{H:Hp}{d:D}{v:V}(h:Gp K H d v):Vy K H [d] [v]:=⟨v,[],rfl,h,rfl⟩
theorem Vy.take{K:W.Frag}{H:Hp}:∀{ds:List D} {vs:List V} (n:Nat),Vy K H ds vs->Vy K H (ds.take n) (vs.take n)
 | ds,vs,0,_=>rfl
 | [],vs,n+1,h=>by
  have e:vs=[]:=h;subst e
  rfl
 | d::ds,vs,n+1,h=>by
  obtain⟨v,r,e,q,t⟩:=h;subst e;exact⟨v,r.take n,rfl,q,Vy.take n t⟩
def Lz:List D->List D->List D
 | a::as,b::bs=>.tup [a,b]::Lz as bs
 | _,_=>[]
def Hu(H:Hp)(l:Addr):Prop:=∃a b c d:Int,H l=some (.lst [.int a,.int b,.int c,.int d])
structure Bj(l:Addr)(H H':Hp):Prop where
 keep:∀x o,x≠l->H x=some o->H' x=some o
 feed:Hu H' l
theorem Bj.refl{l:Addr}{H:Hp}(f:Hu H l):Bj l H H:=⟨fun _ _ _ h=>h,f⟩
theorem Bj.trans{l:Addr}{H H1 H2:Hp}(a:Bj l H H1)(b:Bj l H1 H2):Bj l H H2:=⟨fun x o n h=>b.keep x o n (a.keep x o n h),b.feed⟩
theorem Bj.free{l:Addr}{H H':Hp}(a:Bj l H H')(f:Hu H l){p:Addr}(h:H' p=none):H p=none:=by
 cases q:H p with
 | none=>rfl
 | some o =>
  by_cases e:p=l
  ·obtain⟨_,_,_,_,z⟩:=a.feed;rw[e,z]at h;cases h
  ·rw[a.keep p o e q]at h;cases h
theorem Hu.put{l p:Addr}{H:Hp}{o:HO}(f:Hu H l)(h:p≠l):Hu (Yq H p o) l:=by
 obtain⟨a,b,c,d,e⟩:=f;exact⟨a,b,c,d,by rw[Zl h.symm];exact e⟩
theorem Hu.ne{l p:Addr}{H:Hp}(f:Hu H l)(h:H p=none):p≠l:=fun e=>by
 obtain⟨a,b,c,d,q⟩:=f;rw[e,q]at h;cases h
theorem Bj.put{l p:Addr}{H H':Hp}{o:HO}(a:Bj l H H')(n:p≠l)(h:H p=none):Bj l H (Yq H' p o) :=
 ⟨fun x u q e=>by rw[Zl (Yw e h)];exact a.keep x u q e,a.feed.put n⟩
theorem Bj.lay{l p:Addr}{H H':Hp}{o:HO}(a:Bj l H H')(f:Hu H l)(h:H' p=none):Bj l H (Yq H' p o):=a.put (a.feed.ne h) (a.free f h)
theorem Bj.same{l:Addr}{H H1 H2:Hp}(a:Bj l H H1)(b:Zw H1 H2):Bj l H H2 :=
 ⟨fun x o n h=>b _ _ (a.keep x o n h),let ⟨x,y,z,u,e⟩:=a.feed;⟨x,y,z,u,b _ _ e⟩⟩
theorem Bj.up{K:W.Frag}{l:Addr}{H H':Hp}(a:Bj l H H')(f:Hu H l):Up K H H':=fun c xs h=>by
 have ne:∀o,H c=some o->(∀ys,o≠.lst ys)->c≠l:=fun o e n q=>by
  obtain⟨_,_,_,_,z⟩:=f;rw[q,z]at e;cases e;exact n _ rfl
 rcases h with (h | ⟨o,h⟩) | h
 ·exact .inl (.inl (a.keep _ _ (ne _ h fun _ z=>nomatch z) h))
 ·exact .inl (.inr ⟨o,a.keep _ _ (ne _ h fun _ z=>nomatch z) h⟩)
 ·exact .inr h
theorem up_set{K:W.Frag}{H:Hp}{p:Addr}{o:HO}{ys:List V}(h:H p=some (.lst ys)):Up K H (Yq H p o):=fun c xs q=>by
 have ne:∀u,H c=some u->(∀ys,u≠.lst ys)->c≠p:=fun u e n z=>by
  rw[z,h]at e;cases e;exact n _ rfl
 rcases q with (q | ⟨u,q⟩) | q
 ·exact .inl (.inl (by rw[Zl (ne _ q fun _ z=>nomatch z)];exact q))
 ·exact .inl (.inr ⟨u,by rw[Zl (ne _ q fun _ z=>nomatch z)];exact q⟩)
 ·exact .inr q
structure Good where
 whole:Int->Prop
 text:Str->Prop
 name:Str->Prop
 num:Int->Prop
 names:List Str->Prop
 nums:List Int->Prop
def Itm(G:Good):Nat->D->Prop
 | 0,_=>False
 | k+1,d=>(∃n,d=.tup [.str "whole",.int n]/\G.whole n)\/(∃x,d=.tup [.str "text",.str x]/\G.text x) \/
   (∃n e,d=.tup [.str "arm",.int n,e]/\G.num n/\Itm G k e)\/(∃es,d=.tup [.str "row",.tup es]/\es.length<=3/\∀e∈es,Itm G k e) \/
   (∃ks es,d=.tup [.str "map",.tup (Lz (ks.map D.str) es)]/\ks.length=es.length/\es.length<=3/\G.names ks/\∀e∈es,Itm G k e) \/
   (∃ks es,d=.tup [.str "rec",.tup (Lz (ks.map D.int) es)]/\ks.length=es.length/\es.length<=3/\G.nums ks/\∀e∈es,Itm G k e)
theorem Lf:∀{as bs:List D},(∀d∈as,noL d=true)->(∀d∈bs,noL d=true)->noLs (Lz as bs)=true
 | [],_,_,_=>by simp[Lz,noLs]
 | _::_,[],_,_=>by simp[Lz,noLs]
 | a::as,b::bs,h1,h2=>by
  have r:=Lf (as:=as) (bs:=bs) (fun d m=>h1 d (Rq _ m)) fun d m=>h2 d (Rq _ m);simp only[Lz,noLs,noL,h1 a Te,h2 b Te,r,Bool.and_self]
theorem Itm.noL{G:Good}:∀{k:Nat} {d:D},Itm G k d->noL d=true
 | 0,_,h=>h.elim
 | k+1,d,h=>by
  rcases h with ⟨n,rfl,_⟩ | ⟨x,rfl,_⟩ | ⟨n,e,rfl,_,i⟩ | ⟨es,rfl,_,i⟩ | ⟨ks,es,rfl,_,_,_,i⟩ | ⟨ks,es,rfl,_,_,_,i⟩
  ·rfl
  ·rfl
  ·simp only[L2.noL,noLs,O9,Bool.and_true];exact Itm.noL i
  ·simp only[L2.noL,noLs,O9,Bool.and_true];exact Kc fun e m=>Itm.noL (i e m)
  ·simp only[L2.noL,noLs,O9,Bool.and_true];refine Lf (fun d m=>?_) fun e m=>Itm.noL (i e m);obtain⟨x,_,rfl⟩:=Dp.mp m
   rfl
  ·simp only[L2.noL,noLs,O9,Bool.and_true];refine Lf (fun d m=>?_) fun e m=>Itm.noL (i e m);obtain⟨x,_,rfl⟩:=Dp.mp m
   rfl
theorem Itm.noLs{G:Good}{k:Nat}{ds:List D}(h:∀d∈ds,Itm G k d):noLs ds=true:=Kc fun d m=>(h d m).noL
section
variable{X:Cx}
theorem Dc(i:Nat){x:Str}{e:Expr}{te:TE}{pos pos':Pos}(hN:X.N.Nodup)(hi:X.N[i]?=some x)(hx:Loc X.env.scope x)(he:PE X e te)
  (hs:swapsWith e (some (.Name x pos')) pos.line X.env=pure false:=by rfl) (hf:X.fn x=true\/X.env.scope.names.lookup x=some .local:=by first | exact .inl rfl | exact .inr rfl | assumption) :
  PS X (.Assign [.Name x pos'] e pos) (Zxk te (Jv i)):=ps_set hN hi hx he hs hf
theorem Fp(i:Nat){x:Str}{pos:Pos}(hN:X.N.Nodup)(hi:X.N[i]?=some x)(hx:Loc X.env.scope x)
  (hf:X.fn x=true\/X.env.scope.names.lookup x=some .local:=by first | exact .inl rfl | exact .inr rfl | assumption):PG X (.Name x pos) (Jv i):=Zf3 hN hi hx hf
theorem Fo{x:Str}{C:Addr}{pos:Pos}(hg:Gl X x)(hm:X.mg x=some (.ref C))(hd:(x == ("__debug__" : Str))=false:=by decide):PE X (.Name x pos) (tC (.ref C)):=zm hg hm rfl hd
theorem Yy{T:String}{x:Str}{pos:Pos}(hg:Gl X x)(hm:X.mg x=none)(hv:bootBuiltins x=some (.type T))(hn:x ≠ "__name__" := by decide)(hd:(x == ("__debug__" : Str))=false:=by decide) :
  PE X (.Name x pos) (tC (.ty T)):=Zf7 hg hm hv rfl hn hd
theorem Ba(NX:List Str)(outer:Scope)(N:List Str)(fr:List (Option Nat)){scope:Scope}{tg elt iter:Expr}{ifs:List Expr}{pos:Pos}{wi:TI}{g:DG}{tt:DT}{te:DE}(hc:X.calm=true)(hi:PI X tg iter wi)
  (C:Fq X NX outer scope N fr) (hg:∀fp s H,PG (Y1 X scope N fp s H) tg (g fp s H)) (ht:∀fp s H,PTs (Y1 X scope N fp s H) ifs (tt fp s H)) (he:∀fp s H,PE (Y1 X scope N fp s H) elt (te fp s H))
  (hs:∀x,foldedSetIterable iter X.env x=pure x:=by intro _;rfl):PE X (.ListComp elt [⟨tg,iter,ifs,0⟩] scope pos) (Iy wi fr g tt te):=Zf5 hc hi C hg ht he hs
theorem Ud(i:Nat)(NX:List Str)(outer:Scope)(N:List Str)(fr:List (Option Nat)){scope:Scope}{tg elt iter:Expr}{ifs:List Expr}{pos pos' M8:Pos}{wi:TI}{g:DG}{tt:DT}{te:DE}{x:Str}(hN:X.N.Nodup)(hix:X.N[i]?=some x)
  (hx:Loc X.env.scope x) (hc:X.calm=true) (hi:PI X tg iter wi) (C:Fq X NX outer scope N fr) (hg:∀fp s H,PG (Y1 X scope N fp s H) tg (g fp s H)) (ht:∀fp s H,PTs (Y1 X scope N fp s H) ifs (tt fp s H))
  (he:∀fp s H,PE (Y1 X scope N fp s H) elt (te fp s H)) (hsw:swapsWith (.ListComp elt [⟨tg,iter,ifs,0⟩] scope pos) (some (.Name x pos')) M8.line X.env=pure true:=by rfl)
  (hs:∀x,foldedSetIterable iter X.env x=pure x:=by intro _;rfl) (hf:X.fn x=true\/X.env.scope.names.lookup x=some .local:=by first | exact .inl rfl | exact .inr rfl | assumption) :
  PS X (.Assign [.Name x pos'] (.ListComp elt [⟨tg,iter,ifs,0⟩] scope pos) M8) (Zxk (Iy wi fr g tt te) (Jv i)):=dn hN hix hx hc hi C hg ht he hsw hs hf
end
end L2
namespace DctE
open PySem PySem.SeqAt PySem.MeetsSeq
open PySem.AutoSeq1 (wpAny_loadPart')
theorem dict_declines(l:Addr)(es:Array DictEntry)(ep:Nat)(dd:Option Addr)(sl:Array (Option Value))(b:Str)(u:Tok) :
  Meets (Builtin.«dict.__eq__» ⟨[.ref l,.str b u],[]⟩) (fun _ R s=>s.heap.get? l=some { cls:=.type "dict",dict:=dd,data:=.dict es ep,slots:=sl }/\R (.ok (.ret .notImplemented)) s) :=
 .of_wp fun prog w A R s h=>by obtain⟨hp,g,d,tk,os⟩:=s;obtain⟨hl,h⟩:=h;have f1:=F.sub_str_dict;wp_walk using wpAny_loadPart' hl;exact⟨_,rfl,h⟩
theorem X0(b:Str)(u:Tok)(l:Addr)(c:Value)(es:Array DictEntry)(ep:Nat)(dd:Option Addr)(sl:Array (Option Value)) :
  Meets (Builtin.«str.__eq__» ⟨[.str b u,.ref l],[]⟩) (fun _ R s=>s.heap.get? l=some { cls:=c,dict:=dd,data:=.dict es ep,slots:=sl }/\R (.ok (.ret .notImplemented)) s) :=
 .of_wp fun prog w A R s h=>by obtain⟨hp,g,d,tk,os⟩:=s;obtain⟨hl,h⟩:=h;wp_walk using wpAny_loadPart' hl,wpAny_load hl;exact⟨_,rfl,h⟩
theorem j5{A:Around}{s:Shared}{l:Addr}{es:Array DictEntry}{ep:Nat}{dd:Option Addr}{sl:Array (Option Value)}(b:Str)(u:Tok)(ho:s.heap.get? l=some { cls:=.type "dict",dict:=dd,data:=.dict es ep,slots:=sl })(hu:A.units<cLine) :
  RcAt A s (.ref l) (.str b u) false:=fun prog w E Q h=>by
 exact rc_eq_decline_or (k:=false) ⟨_,ho,rfl⟩ (typeIs_str s b u) (by decide) F.sub_str_dict F.slot_dict_eq F.slot_str_eq_refl
  (fun _ hq=>call_meets F.slot_dict_eq ⟨_,ho,rfl⟩ F.entry_dict_eq (F.args_dict_eq_2 _ _) (dict_declines l es ep dd sl b u) ⟨ho,hq⟩)
  (fun _ hq=>call_meets F.slot_str_eq_refl (typeIs_str s b u) F.entry_str_eq (F.args_str_eq_2 _ _) (X0 b u l (.type "dict") es ep dd sl) ⟨ho,hq⟩)
  (fun _ hq=>wpAny_of_eq (rfl:isSame (.ref l) (.str b u)=pure false) hq) (.inr hu) h
end DctE
namespace L2
open PySem PySem.Spec PyProof.Rows
section
variable{X:Cx}{pins:Uv}{σ:St}{H H':Hp}{s:Shared}{h':Heap}
theorem Zi.turnLay{t':Nat}{fp:List Addr}{a:Addr}{o:HO}(I:Zi X pins σ H s)(k:∀b u,b ∉ fp->s.heap.get? b=some u->h'.get? b=some u)(hf:∀b∈fp,Q9 X pins H b)(hp:s.heap.objs.size<=a)(new:Vq X.prog X.w (Yq H a o) h' a o) :
  Zi X pins σ (Yq H a o) { s with heap:=h',toks:=t' }:=by
 have hn:=I.hok.fresh hp
 have nf:∀b u,H b=some u->b ∉ fp:=fun b u e m=>by
  have z:=(hf b m).1;rw[e]at z;cases z
 have na:∀b u,s.heap.get? b=some u->b≠a:=fun b u e=>Oj (Hh (Du e) hp)
 refine I.call (g':=s.gens) (d':=s.drawn) (ch:=fp) ⟨fun b u e _ _ hx=>k b u hx e,fun b u e _ _ hx=>⟨u.slots,k b u hx e⟩,fun b u e n _=>by rw[Zl (na b u e)];exact n,fun b u e hx=>⟨u,k b u hx e⟩,
  fun b xs e=>by rw[Zl (Yw e hn)];exact e,fun b ob u e=>by rw[Zl (Yw e hn)];exact e,fun b ps e=>⟨#[],by rw[Zl (Yw e hn)];simp[e]⟩⟩ (fun b u e=>?_) I.bare
  fun b hb=>⟨(hf b hb).2.2.2.1,(hf b hb).2.1,(hf b hb).2.2.2.2.1,(hf b hb).2.2.2.2.2⟩
 by_cases hb:b=a
 ·subst hb;rw[Zz]at e;cases e;exact new
 ·rw[Zl hb]at e;refine(I.hok b u e).stay (fun c v hc q=>k c v ?_ q) (fun c q=>by rw[Zl (Yw q hn)];exact q) fun c xs q=>by rw[Zl (Yw q hn)];exact q
  rcases hc with z | z
  ·rw[z];exact nf b u e
  ·exact nf c _ z
theorem Zi.turnL{t':Nat}{fp:List Addr}(I:Zi X pins σ H s)(k:∀b u,b ∉ fp->s.heap.get? b=some u->h'.get? b=some u)(hf:∀b∈fp,Q9 X pins H b) :
  Zi X pins σ H { s with heap:=h',toks:=t' }:=by
 have nf:∀b u,H b=some u->b ∉ fp:=fun b u e m=>by
  have z:=(hf b m).1;rw[e]at z;cases z
 refine I.call (g':=s.gens) (d':=s.drawn) (ch:=fp) ⟨fun b u e _ _ hx=>k b u hx e,fun b u e _ _ hx=>⟨u.slots,k b u hx e⟩,fun b u e n _=>n,fun b u e hx=>⟨u,k b u hx e⟩,
  fun b xs e=>e,fun b ob u e=>e,fun b ps e=>⟨#[],by simp[e]⟩⟩ (fun b u e=>?_) I.bare
  fun b hb=>⟨(hf b hb).2.2.2.1,(hf b hb).2.1,(hf b hb).2.2.2.2.1,(hf b hb).2.2.2.2.2⟩
 refine(I.hok b u e).stay (fun c v hc q=>k c v ?_ q) (fun c q=>q) fun c xs q=>q;rcases hc with z | z
 ·rw[z];exact nf b u e
 ·exact nf c _ z
end
section
variable{X:Cx}{pos:Pos}
def tDct0:TE:=fun _ H Q=>∀p,H p=none->Q (.ref p) (Yq H p (.dK []))
theorem Ex:PE X (.Dict [] [] pos) tDct0:=fun pins s σ H Q I h =>
 wpAny_Dict_empty ⟨.ref s.heap.objs.size,_,I.laid (a:=s.heap.objs.size) (o:=.dK []) (t':=s.toks) (fun _ _ q=>G4 _ q) (Vj _)
  ⟨Wl _,B0n.mpr (Ne.symm (Oj (Nat.lt_trans (by decide) (I.mod.glob.keeps I.bk).lt))),[],.nil,Heap.DictOf.new s.heap⟩,rfl,h _ (I.hok.fresh (Vj _))⟩
theorem Zjw(bs:List Bool):((List.range bs.length).all fun i=>(bs[i]?).getD true)=bs.all id:=by
 rw[Bool.eq_iff_iff,Wv,Wv];constructor
 ·intro h b hb;obtain⟨i,hi⟩:=List.mem_iff_getElem?.mp hb;have:=h i (List.mem_range.mpr (Q8.mp hi).1);rw[hi]at this;simpa using this
 ·intro h i hi;have hi':=List.mem_range.mp hi;rw[Nn hi'];simpa using h _ (G0e hi')
inductive y9(K:W.Frag)(xs:List V)(H:Hp)(Q:VK):Prop
 | mk(p:Addr)(bs:List Bool)(Vg:xs=[.ref p])(Vk:Z0 K H p (bs.map V.bl))(V1:Q (.bl (bs.all id)) H)
theorem Ye(hc:X.calm=true):D9 X (.builtin "all") (fun xs H Q=>y9 X.K xs H Q):=by
 intro pins s σ H xs us Q I r h;obtain⟨p,bs,rfl,hq,q⟩:=h;obtain⟨u,rfl,rx⟩:=Tu r;cases rx;obtain⟨its,rv,pl,hz⟩:=I.list hq;have hl:=pl.isList;have Nc:p<s.heap.objs.size:=by obtain⟨_,e,_⟩:=hl;exact Du e
 have hlen:its.toArray.size=bs.length:=by rw[Dy, <-rv.length,Yp]
 refine call_all_walk (wpAny_pyIter_list hl ?_)
 refine⟨s.heap.objs.size,[s.heap.objs.size,p],[s.heap.objs.size],its.toArray.size,_,_,fun i=>(bs[i]?).getD true,rfl,Walks.list (A:=X.A.in1) (I.ok.hd hc) _ p (Oj Nc) its.toArray,
  ⟨⟨_,Rj _ rfl,rfl,rfl⟩,hl.push _⟩,fun i v s' Q' E' hP hQ=>?_,fun h' tk hk=>?_⟩
 ·have e0:its[i]?=some v:=by simpa using hP
  have hi:i<bs.length:=by
   have:=(Q8.mp e0).1;rw[Dy]at hlen;omega
  obtain⟨v',e1,e2⟩:=rv.get (i:=i) (x:=V.bl bs[i]) (by rw[Ma,Nn hi];rfl);rw[e0]at e1;cases e1;cases e2;dsimp only at hQ;rw[Nn hi]at hQ;exact wpAny_truthy_bool hQ
 ·rw[hlen,Zjw];refine⟨.bl _,H,I.kept fun b x e=>hk b x (fun hm=>?_) (G4 _ e),rfl,q⟩;rw[N6.mp hm]at e;exact Nat.lt_irrefl _ (Du e)
inductive wy(x:V)(y:V)(H:Hp)(Q:VK):Prop
 | mk(i j)(Vg:x=.str i)(Vk:y=.str j)(V1:Q (.bl (!decide (j.cps.toList<i.cps.toList))) H)
theorem Ip:Nd X (compareOp .LtE) (fun x y H Q=>wy x y H Q):=by
 intro pins s σ H x y v u Q I rx ry h;obtain⟨i,j,rfl,rfl,q⟩:=h;obtain⟨t,rfl⟩:=rx;obtain⟨t',rfl⟩:=ry;exact PySem.P.le_str (Yh I q rfl)
theorem il:Nd X (compareOp .Lt) (fun x y H Q=>(∃i j,x=.int i/\y=.int j/\Q (.bl (decide (i<j))) H)\/∃i j,x=.str i/\y=.str j/\Q (.bl (decide (i.cps.toList<j.cps.toList))) H):=by
 intro pins s σ H x y v u Q I rx ry h;rcases h with ⟨i,j,rfl,rfl,q⟩ | ⟨i,j,rfl,rfl,q⟩
 ·exact F0 pins s σ H _ _ v u Q I rx ry ⟨i,j,rfl,rfl,q⟩
 ·exact Zqz pins s σ H _ _ v u Q I rx ry ⟨i,j,rfl,rfl,q⟩
def df(i:Str)(n:Nat):Str:=⟨(List.replicate n i.cps).foldl (·++·) #[]⟩
theorem Zvd(a:Array Nat):∀(n:Nat) (acc:Array Nat),((List.replicate n a).foldl (·++·) acc).toList=acc.toList++(List.replicate n a.toList).flatten
 | 0,acc=>by simp
 | n+1,acc=>by
  rw[List.replicate_succ,List.foldl_cons,Zvd a n (acc++a),List.replicate_succ,List.flatten_cons,Array.toList_append,List.append_assoc]
theorem dg(i:Str)(n:Nat):(df i n).cps.toList=(List.replicate n i.cps.toList).flatten:=by
 show ((List.replicate n i.cps).foldl (·++·) #[]).toList=_;rw[Zvd]
 rfl
theorem Zvt(i:Str)(n:Nat):(df i n).length=n * i.length:=by
 show (df i n).cps.size=n * i.cps.size;rw[<-jk,dg,Zbr,jk]
inductive Zx7(x:V)(y:V)(H:Hp)(Q:VK):Prop
 | mk(i:Str)(n:Int)(Vg:x=.str i)(Vk:y=.int n)(V1:2<=n)(Jk:n<=1000)(Mn:i.length≠0)(Wb:i.length<=1000)(fm:Q (.str (df i n.toNat)) H)
theorem ij:Nd X (binaryOp .Mult) (fun x y H Q=>Zx7 x y H Q):=by
 intro pins s σ H x y v u Q I rx ry h;obtain⟨i,n,rfl,rfl,n2,n1,i0,i1,q⟩:=h;obtain⟨t,rfl⟩:=rx;obtain⟨t',rfl⟩:=ry;have c1:¬ n<1:=by omega
 have c2:(n == 1 || i.length == 0)=false:=by
  rw[Bool.or_eq_false_iff];exact⟨B0n.mpr (by omega),B0n.mpr i0⟩
 have hm:i.length * n.toNat<=1000000:=Gw (Nat.mul_le_mul i1 (show n.toNat<=1000 by omega)) (by decide);refine PySem.P.mul_str ?_ (fun _ _=>?_) (fun _ _=>?_) ?_
 ·rw[Bool.or_eq_false_iff];exact⟨My (by omega),My (by omega)⟩
 ·intro z;have hn0:(0:Int)<n:=by omega
  have h1:(1000:Int) * n<=2 ^ 63 - 1:=by omega
  have h2:=(Int.le_ediv_iff_mul_le hn0).mpr h1;omega
 ·show decide (i.length * n.toNat>sizeLine)=false;exact My (Nat.not_lt_of_le (Gw hm (by decide)))
 ·rw[if_neg c1,if_neg (by rw[c2];decide)];have hl:(df i n.toNat).length<=sizeLine:=by rw[Zvt,Nat.mul_comm];exact Gw hm (by decide)
  exact⟨hl,⟨.str _,H,I.tok _,⟨_,rfl⟩,q⟩⟩
end
def Its(x:Str):It:=⟨fun i _=>i<x.cps.size,fun i H v H'=>H'=H/\∃c,x.cps[i]?=some c/\v=.str ⟨#[c]⟩,fun i _=>x.cps.size<=i⟩
theorem jf{P:Program}{w:World}{K:PySem.W.Frag}{tg:Expr}(x:Str)(it:Addr)(T:String)(t:Tok)(hT:["enumerate","zip","dict_itemiterator","dict_reverseitemiterator","odict_iterator","itertools.zip_longest","itertools.pairwise"].contains T=false)
  (W:∀A:Around,A.handled=none->Walks P w A it [it] [it] x.cps.size (SignAt x) (fun i h=>h.IsStrIter it T x t i)) (hs:∀(A:Around) (i:Nat) (s:Shared) (Q:Vt) (E:Vt),s.heap.IsStrIter it T x t i->Q (.ref it) s->wpAny (model P w) A (pyIter (.ref it)) Q E s)
  (hd:∀(A:Around) (i:Nat) (s:Shared) (Q:Option Value->Shared->Prop) (E:Vt),A.handled=none->x.cps.size<=i->s.heap.IsStrIter it T x t i->(∀h' tk,(∀b o,b≠it->s.heap.get? b=some o->h'.get? b=some o)->Q none { s with heap:=h',toks:=tk })->wpAny (model P w) A (pyNext (.ref it)) Q E s) :
  A8 P w K tg (Its x) [it] it (fun i h=>h.IsStrIter it T x t i) where
 mem:=by simp
 obj:=fun i h st b hb=>by
  have e:b=it:=by simpa using hb
  subst e;obtain⟨o,e,c,d⟩:=st;exact⟨o,e,fun v z=>by rw[d]at z;cases z⟩
 keep:=fun i h h' st k=>let ⟨o,ho,r⟩:=st;⟨o,k it (by simp) o ho,r⟩
 item:=by
  intro X hP hw hK hc i pins s σ H E I hf st hg;subst hP hw hK;obtain⟨f0,f1,f2,f3,f4,f5⟩:=hf it (by simp);refine(W X.A (I.ok.hd hc)).item i s _ _ hg st fun v h' tk hv fk kk=>?_;obtain⟨c,u,hc',rfl⟩:=hv;have I1:Zi X pins σ H { s with heap:=h',toks:=tk }:=I.turned (fun b o hb e=>kk b o (by simpa using hb) e) f0 f1 f3 f4 f5;obtain⟨o,e,c1,d⟩:=id fk;exact⟨_,rfl,yl (s:={ s with heap:=h',toks:=tk }) e c1 d hT ⟨.str ⟨#[c]⟩,H,I1,⟨u,rfl⟩,⟨rfl,c,hc',rfl⟩,fk,fun b hb=>(hf b hb).1⟩⟩
 done:=by
  intro X hP hw hK hc i pins s σ H E I hf st hg;subst hP hw hK;obtain⟨f0,f1,f2,f3,f4,f5⟩:=hf it (by simp);exact hd X.A i s _ _ (I.ok.hd hc) hg st fun h' tk eb=>⟨rfl,I.turned (fun b o hb e=>eb b o hb e) f0 f1 f3 f4 f5⟩
 self:=fun A i s Q E st h=>hs A i s Q E st h
inductive iStr_I(R:(It->Hp->Prop))(v:V)(H1:Hp):Prop
 | mk(x)(Vg:v=.str x)(Vk:R (Its x) H1)
def iStr(te:TE):TI:=fun σ H R=>te σ H fun v H1=>iStr_I R v H1
section
variable{X:Cx}{tg l:Expr}{tl:TE}
theorem zg(hl:PE X l tl):PI X tg l (iStr tl):=by
 intro pins s σ H R I h;refine V0 (hl pins s σ H _ I h) fun v s1 ⟨v',H1,I1,r1,q1⟩=>?_;obtain⟨x,rfl,q⟩:=q1;obtain⟨t,rfl⟩:=r1
 have fin:∀b∈[s1.heap.objs.size],Q9 X pins H1 b:=fun b hb=>by
  have e:b=s1.heap.objs.size:=by simpa using hb
  subst e;exact I1.fpOk (Vj _) (I1.hok.fresh (Vj _))
 cases ha:x.cps.all (·<128)
 ·refine wpAny_pyIter_wide ha ?_
  exact⟨s1.heap.objs.size,[s1.heap.objs.size],_,_,H1,rfl,I1.kept (t':=s1.toks) fun b o e=>G4 _ e,jf x _ "str_iterator" t (by decide) (fun A hA=>Walks.strWide hA _ x t) (fun A i s Q E st h=>wpAny_pyIter_striter_wide st h)
   (fun A i s Q E hA hi st h=>wpAny_pyNext_wide_end hA st (by simp[hi]) fun h' he=>h h' s.toks fun b o hb e=>he b o hb e),⟨_,Rj _ rfl,rfl,rfl⟩,fin,q⟩
 ·refine wpAny_pyIter_ascii ha ?_
  exact⟨s1.heap.objs.size,[s1.heap.objs.size],_,_,H1,rfl,I1.kept (t':=s1.toks) fun b o e=>G4 _ e,jf x _ "str_ascii_iterator" t (by decide) (fun A hA=>Walks.strAscii hA _ x t) (fun A i s Q E st h=>wpAny_pyIter_striter_ascii st h)
   (fun A i s Q E hA hi st h=>wpAny_pyNext_ascii_end hA st (by simp[hi]) fun h' he=>h h' s.toks fun b o hb e=>he b o hb e),⟨_,Rj _ rfl,rfl,rfl⟩,fin,q⟩
end
theorem Zki{x:Str}{D:Addr}{g:TG}{tt:TT}{te:TE}{fin:Hp->Prop}{σ0:St}{H0:Hp}(Pv:Nat->List V->St->Hp->Prop)(h0:Pv 0 [] σ0 H0)
  (hq:∀i ys σ H,i<=x.cps.size->Pv i ys σ H->H D=some (.lst ys))
  (hs:∀i c ys σ H,x.cps[i]?=some c->Pv i ys σ H->g (.str ⟨#[c]⟩) σ H fun σ2 H2=>tt σ2 H2 fun ok H3=>if ok=true then te σ2 H3 fun y H4=>H4 D=some (.lst ys)/\ys.length<sizeLine/\Pv (i+1) (ys++[y]) σ2 (Yq H4 D (.lst (ys++[y]))) else Pv (i+1) ys σ2 H3)
  (hd:∀ys σ H,Pv x.cps.size ys σ H->fin H):∃W:Nat->Nat->List V->St->Hp->Prop,(∃m,W 0 m [] σ0 H0)/\Nm (Its x) g tt te D W fin:=by
 refine⟨fun i m ys σ H=>m=x.cps.size - i/\i<=x.cps.size/\Pv i ys σ H,⟨x.cps.size,by simp,Wl _,h0⟩, ?_⟩;rintro i m ys σ H ⟨rfl,hi,p⟩;refine⟨hq i ys σ H hi p, ?_⟩;by_cases Nc:i<x.cps.size
 ·refine .inr ⟨Nc,Pv (i+1),fun ys' σ' H' p'=>⟨x.cps.size - (i+1),by omega,rfl,Nc,p'⟩,fun v H' y=>?_⟩;obtain⟨e,c,y,rfl⟩:=y;subst e;exact hs i c ys σ _ y p
 ·have e:i=x.cps.size:=by omega
  subst e;exact .inl ⟨Vj _,hd ys σ H p⟩
def Itz(K:W.Frag)(l1 l2:Addr):It :=
  ⟨fun i H=>∃xs ys x y,Z0 K H l1 xs/\Z0 K H l2 ys/\xs[i]?=some x/\ys[i]?=some y,
   fun i H v H'=>∃p x y,v=.ref p/\H p=none/\H'=Yq H p (.tup [x,y])/\(∀xs,Z0 K H l1 xs->xs[i]?=some x)/\∀ys,Z0 K H l2 ys->ys[i]?=some y,
   fun i H=>∃xs ys,Z0 K H l1 xs/\Z0 K H l2 ys/\(xs.length<=i\/ys.length<=i)⟩
theorem Zwg{P:Program}{w:World}{K:W.Frag}{es:List Expr}{k:Nat}{pos:Pos}(z TI TO i1 i2 l1 l2:Addr)(D:ZipApart z TI TO i1 i2 l1 l2) :
  A8 P w K (.Tuple es k pos) (Itz K l1 l2) [z,TI,TO,i1,i2] z (fun i h=>IsZip h z TI TO .none/\IsPair h TI (.ref i1) (.ref i2)/\(∃a b,IsPair h TO a b)/\h.IsListIter i1 l1 i/\h.IsListIter i2 l2 i) where
 mem:=by simp
 obj:=fun i h st b hb=>by
  obtain⟨hz,xy,⟨a,c,yb⟩,⟨o1,e1,_,d1⟩,⟨o2,e2,_,d2⟩⟩:=st;simp only[G2,U6,or_false]at hb;rcases hb with rfl | rfl | rfl | rfl | rfl
  ·exact⟨_,hz,fun v q=>nomatch q⟩
  ·exact⟨_,xy,fun v q=>nomatch q⟩
  ·exact⟨_,yb,fun v q=>nomatch q⟩
  ·exact⟨_,e1,fun v q=>by rw[d1]at q;cases q⟩
  ·exact⟨_,e2,fun v q=>by rw[d2]at q;cases q⟩
 keep:=fun i h h' st hk=>by
  obtain⟨hz,xy,⟨a,b,yb⟩,h1,h2⟩:=st;exact⟨hk z (by simp) _ hz,hk TI (by simp) _ xy,⟨a,b,hk TO (by simp) _ yb⟩,h1.at fun o e=>hk i1 (by simp) o e,h2.at fun o e=>hk i2 (by simp) o e⟩
 item:=by
  intro X hP hw hK hc i pins s σ H E I hf st hg;subst hP hw hK;obtain⟨xs,ys,x,y,q1,q2,g1,g2⟩:=hg;obtain⟨hz,xy,⟨a,b,yb⟩,h1,h2⟩:=st;obtain⟨is1,v1,pl1,z1⟩:=I.list q1;obtain⟨is2,v2,pl2,z2⟩:=I.list q2;obtain⟨u1,e1,r1⟩:=v1.get g1;obtain⟨u2,e2,r2⟩:=v2.get g2;refine wpAny_pyNext_zip_item D hz xy yb h1 h2 pl1.isList pl2.isList (x:=u1) (y:=u2) (by simpa using e1) (by simpa using e2) fun h' a1 a2 a3 a4 a5 a6 hk=>?_;refine⟨_,rfl,wpAny_letOwnedTupleGo_zip (s:={ s with heap:=h' }) a1 fun h'' hz' hs'=>?_⟩;have lt:∀{c o},s.heap.get? c=some o->s.heap.objs.size≠c:=fun e=>Nat.ne_of_gt (Du e);have nz:s.heap.objs.size≠z:=lt hz
  have kk:∀c u,c ∉ [z,TI,TO,i1,i2]->s.heap.get? c=some u->h''.get? c=some u:=fun c u m e=>by
   simp only[G2,U6,or_false,not_or]at m;exact hs'.extBut _ _ m.1 (hk c u m.1 m.2.2.1 m.2.2.2.1 m.2.2.2.2 e)
  have fresh:=I.hok.fresh (Vj s.heap.objs.size);have J:Zi X pins σ (Yq H s.heap.objs.size (.tup [x,y])) { s with heap:=h'',toks:=s.toks }:=I.turnLay kk hf (Vj _) ⟨by show 2<=sizeLine;decide,[u1,u2],.cons r1 (.cons r2 .nil),⟨_,hs'.extBut _ _ nz a5,rfl,⟨_,rfl⟩,rfl⟩⟩;refine⟨.ref s.heap.objs.size,_,J,rfl,⟨_,x,y,rfl,fresh,rfl,fun ws hw=>by rw[I.list_inj hw q1];exact g1,fun ws hw=>by rw[I.list_inj hw q2];exact g2⟩,⟨hz',hs'.extBut _ _ D.TIz (hk _ _ D.TIz D.TITO D.TIi1 D.TIi2 xy),⟨_,_,hs'.extBut _ _ D.TOz a2⟩,a3.extBut hs'.extBut D.i1z,a4.extBut hs'.extBut D.i2z⟩,fun c hc=>?_⟩
  have nc:c≠s.heap.objs.size:=fun q=>by
   subst q;simp only[G2,U6,or_false]at hc;rcases hc with q | q | q | q | q
   ·exact lt hz q
   ·exact lt xy q
   ·exact lt yb q
   ·obtain⟨_,e,_⟩:=h1;exact lt e q
   ·obtain⟨_,e,_⟩:=h2;exact lt e q
  rw[Zl nc];exact(hf c hc).1
 done:=by
  intro X hP hw hK hc i pins s σ H E I hf st hg;subst hP hw hK;obtain⟨xs,ys,q1,q2,g⟩:=hg;obtain⟨hz,xy,⟨a,b,yb⟩,h1,h2⟩:=st;obtain⟨is1,v1,pl1,z1⟩:=I.list q1;obtain⟨is2,v2,pl2,z2⟩:=I.list q2;have Ax:=v1.length;have hl2:=v2.length;refine wpAny_pyNext_zip_end (I.ok.hd hc) D hz xy yb h1 h2 pl1.isList pl2.isList (by rcases g with g | g;exact .inl (by simp;omega);exact .inr (by simp;omega)) fun h' hk=>⟨rfl,I.turnL (t':=s.toks) (fp:=[z,TI,TO,i1,i2]) (fun c u m e=>?_) hf⟩;simp only[G2,U6,or_false,not_or]at m;exact hk c u m.1 m.2.2.1 m.2.2.2.1 m.2.2.2.2 e
 self:=fun A i s Q E st h=>wpAny_pyIter_zip st.1 h
inductive iZip_I(K:W.Frag)(R:(It->Hp->Prop))(vs:List V)(H1:Hp):Prop
 | mk(p q)(Vg:vs=[.ref p,.ref q])(Vk:(∃xs,Z0 K H1 p xs))(V1:(∃ys,Z0 K H1 q ys))(Jk:R (Itz K p q) H1)
def iZip(K:W.Frag)(t:TA):TI:=fun σ H R=>t σ H fun vs H1=>iZip_I K R vs H1
section
variable{X:Cx}{es:List Expr}{k:Nat}{p2 pos M8:Pos}{a b:Expr}{t:TA}
theorem pi_zip(hgz:Gl X "zip")(hmz:X.mg "zip" = none)(ha:PA X [a,b] t)
  (he2:starEach [a,b] X.env=(false,eval a X.env)::starEach [b] X.env:=by rfl) (P0:(backTo M8 (starEach [b] X.env)).any (·.1)=false:=by rfl) :
  PI X (.Tuple es k pos) (.Call (.Name "zip" p2) [a,b] [] M8) (iZip X.K t):=by
 intro pins s σ H R I h;refine wpAny_Call_Name_kw (Ld I hgz hmz (by decide +kernel:bootBuiltins "zip" = some (.type "zip")) ?_ (by decide) (by decide));refine callWith_type1 (V0 (ha M8 pins s σ H _ I h) fun us s1 ⟨vs,H1,I1,r1,q1⟩=>?_) he2 P0;obtain⟨l1,l2,rfl,⟨xs,hx⟩,⟨ys,hy⟩,q⟩:=q1;obtain⟨u1,u2,rfl,e1,e2⟩:=ue r1;cases e1;cases e2;obtain⟨is1,v1,pl1,z1⟩:=I1.list hx;obtain⟨is2,v2,pl2,z2⟩:=I1.list hy;have n1:l1<s1.heap.objs.size:=by obtain⟨_,e,_⟩:=pl1.isList;exact Du e
 have n2:l2<s1.heap.objs.size:=by obtain⟨_,e,_⟩:=pl2.isList;exact Du e
 refine call_zip_2 pl1.isList pl2.isList fun h2 b1 b2 b3 b4 b5 b6 k2=>?_;refine wpAny_pyIter_zip (s:={ s1 with heap:=h2 }) b1 ?_;have J:Zi X pins σ H1 { s1 with heap:=h2,toks:=s1.toks }:=I1.kept k2;refine⟨_,[s1.heap.objs.size+4,s1.heap.objs.size+2,s1.heap.objs.size+3,s1.heap.objs.size,s1.heap.objs.size+1],_,_,H1,rfl,J,Zwg _ _ _ _ _ l1 l2 (zipApart_new n1 n2),⟨b1,b2,⟨_,_,b3⟩,b4,b5⟩,fun c hc=>?_,q⟩
 have ge:s1.heap.objs.size<=c:=by
  simp only[G2,U6,or_false]at hc;rcases hc with q | q | q | q | q<;>rw[q]<;>first | exact Vj _ | exact Nat.le_add_right _ _
 exact I1.fpOk ge (I1.hok.fresh ge)
end
theorem Zko{K:PySem.W.Frag}{l1 l2 D:Addr}{xs ys:List V}{g:TG}{tt:TT}{te:TE}{fin:Hp->Prop}{σ0:St}{H0:Hp}(Pv:Nat->List V->St->Hp->Prop)(h0:Pv 0 [] σ0 H0)
  (hq:∀i zs σ H,i<=min xs.length ys.length->Pv i zs σ H->Z0 K H l1 xs/\Z0 K H l2 ys/\H D=some (.lst zs))
  (hs:∀i x y p zs σ H,xs[i]?=some x->ys[i]?=some y->Pv i zs σ H->H p=none->g (.ref p) σ (Yq H p (.tup [x,y])) fun σ2 H2=>tt σ2 H2 fun ok H3=>if ok=true then te σ2 H3 fun y H4=>H4 D=some (.lst zs)/\zs.length<sizeLine/\Pv (i+1) (zs++[y]) σ2 (Yq H4 D (.lst (zs++[y]))) else Pv (i+1) zs σ2 H3)
  (hd:∀zs σ H,Pv (min xs.length ys.length) zs σ H->fin H):∃W:Nat->Nat->List V->St->Hp->Prop,(∃m,W 0 m [] σ0 H0)/\Nm (Itz K l1 l2) g tt te D W fin:=by
 refine⟨fun i m zs σ H=>m=min xs.length ys.length - i/\i<=min xs.length ys.length/\Pv i zs σ H,⟨min xs.length ys.length,by simp,Wl _,h0⟩, ?_⟩;rintro i m zs σ H ⟨rfl,hi,p⟩;obtain⟨q1,q2,hD⟩:=hq i zs σ H hi p;refine⟨hD, ?_⟩;by_cases Nc:i<min xs.length ys.length
 ·have c1:i<xs.length:=by omega
  have c2:i<ys.length:=by omega
  refine .inr ⟨⟨xs,ys,xs[i],ys[i],q1,q2,by simp[c1],by simp[c2]⟩,Pv (i+1),fun ys' σ' H' p'=>⟨min xs.length ys.length - (i+1),by omega,rfl,Nc,p'⟩,fun v H' y=>?_⟩;obtain⟨a,x,y',rfl,hn,rfl,y1,y2⟩:=y;exact hs i x y' a zs σ H (y1 xs q1) (y2 ys q2) p hn
 ·have e:i=min xs.length ys.length:=by omega
  subst e;exact .inl ⟨⟨xs,ys,q1,q2,by omega⟩,hd zs σ H p⟩
section
variable{X:Cx}
inductive tw(K:W.Frag)(x:V)(y:V)(H:Hp)(Q:VK):Prop
 | mk(l b zs)(Vg:x=.ref l)(Vk:y=.ref b)(V1:Yv K H l [])(Jk:Yv K H b zs)(Mn:Q (.ref b) H)
theorem Zv8:Nd X (binaryOp .Add) (fun x y H Q=>tw X.K x y H Q):=by
 intro pins s σ H x y v u Q I rx ry h;obtain⟨l,b,zs,rfl,rfl,hl,hb,q⟩:=h;cases rx;cases ry;obtain⟨i1,r1,p1,z1⟩:=I.tuple hl;obtain⟨i2,r2,p2,z2⟩:=I.tuple hb;have e1:i1=[]:=by cases r1;rfl
 subst e1;obtain⟨⟨c1,d1,t1,s1⟩,o1,k1,n1,m1⟩:=id p1;obtain⟨⟨c2,d2,t2,s2⟩,o2,k2,n2,m2⟩:=id p2;simp only at k1 m1 k2 m2;subst k1 m1 k2 m2;exact concat_meets ⟨_,o1,rfl⟩ ⟨_,o2,rfl⟩ noFill_tuple_add seq_tuple_add PySem.F.slot_tuple_add PySem.F.entry_tuple_add (PySem.F.args_tuple_add_2 _ _) (tuple_addW0 l b _ _ n1 n2 d1 d2 s1 s2 rfl) ⟨o1,o2,⟨.ref b,H,I,rfl,q⟩⟩
end
end L2
namespace HT
open PySem PySem.Spec PyProof.Rows
section
variable{prog:Program}{w:World}{A:Around}{E:Vt}{s:Shared}
theorem Wq{t sl:Addr}{items:Array Value}{vl vu:Value}{lo hi:Option Int}{Q:Vt}(ht:IsTup s.heap t items)(hs:s.heap.IsSliceOf sl vl vu .none)(pl:IsPart vl lo)(pu:IsPart vu hi)
  (hw:Uo items.size 0 lo=0/\Uo items.size items.size hi=items.size) (h:Q (.ref t) s):wpAny (model prog w) A (getItem (.ref t) (.ref sl)) Q E s:=by
 obtain⟨os,hos,hcs,hds⟩:=id hs;have hTs:s.TypeIs (.ref sl) "slice" := ⟨os,hos,hcs⟩;unfold getItem
 try with_reducible refine wpAny_holding ?_
 first | refine Zo (Y7 ?_) | skip
 refine Zo (wpAny_sequenceKey ht.typeIs (by decide) ?_)
 refine Zo (wpAny_callSpecial?_slot (name:=Str.ofString "__getitem__") ht.typeIs slot_tuple_getitem
  (wpAny_call_entry slot_tuple_getitem ht.typeIs entry_tuple_getitem ?_ (args_tuple_getitem _ _)))
 show wpAny _ _ (Builtin.Tuple.tupleItemsOf (.ref t) >>= _) _ _ s;refine Zo (tupleItemsOf_ ht ?_);refine Zo (wpAny_typeOf hTs ?_);rw[if_pos (by decide)];refine Zo (Bl hs pl pu ?_)
 have hyes:(((Uo items.size 0 lo:Nat):Int) == 0 && (1:Int) == 1 && (Uo items.size items.size hi - Uo items.size 0 lo) == items.size)=true:=by
  rw[hw.1,hw.2];simp
 show wpAny _ _ (if (((Uo items.size 0 lo:Nat):Int) == 0 && (1:Int) == 1 && (Uo items.size items.size hi - Uo items.size 0 lo) == items.size)=true then _ else _) _ _ s;rw[if_pos hyes];refine Zo (m:=Builtin.Tuple.tupleIsExact (.ref t)) (Zo (wpAny_typeOf ht.typeIs (Y7 ?_)));rw[if_pos (by decide)];exact Zo (wpAny_rule (Y7 ⟨_,rfl,Y7 h⟩))
theorem Pg{sl:Addr}{n:Nat}{u:Tok}{Q:Int×Int×Nat->Shared->Prop}(hs:s.heap.IsSliceOf sl .none .none (.int (-1) u))
  (h:Q ((n:Int) - 1, -1,n) s):wpAny (model prog w) A (Builtin.Slice.sliceApplied (.ref sl) (pure (n:Int))) Q E s:=by
 obtain⟨os,hos,hcs,hds⟩:=id hs;unfold Builtin.Slice.sliceApplied Builtin.Slice.sliceFields;refine Zo (Zo (wpAny_field hos hds (x:=.none) rfl (Zo (wpAny_field hos hds (x:=.none) rfl (Zo (wpAny_field hos hds (x:=.int (-1) u) rfl (Y7 ?_)))))));refine Zo (slicePart_int ?_);show wpAny _ _ (if ((-1:Int) == 0)=true then _ else _) _ _ s;rw[if_neg (by decide)];refine Zo (slicePart_none (Zo (slicePart_none (Zo (Y7 ?_)))))
 have e:Builtin.Slice.slicePlaces ((n:Int) - 1) (-1) (-1)=n:=by
  unfold Builtin.Slice.slicePlaces;rw[if_neg (by decide)];by_cases hn:n=0
  ·subst hn;decide
  ·rw[if_pos (by omega)];have q:((n:Int) - 1 - -1 - 1) / - -1=(n:Int) - 1:=by rw[show (- -1:Int)=1 from rfl,Int.ediv_one];omega
   rw[q];omega
 show wpAny _ _ (pure ((n:Int) - 1,(-1:Int),Builtin.Slice.slicePlaces ((n:Int) - 1) (-1) (-1))) _ _ s;rw[e];exact Y7 h
theorem Zvu(xs:Array Value):((List.range xs.size).filterMap fun(m:Nat)=>xs[(((xs.size:Int) - 1)+(m:Int) * (-1)).toNat]?)=xs.toList.reverse:=by
 apply List.ext_getElem?
 intro i
 have e:(List.range xs.size).filterMap (fun(m:Nat)=>xs[(((xs.size:Int) - 1)+(m:Int) * (-1)).toNat]?)=(List.range xs.size).map (fun m=>xs.toList.getD (xs.size - 1 - m) .none):=by
  have go:∀l:List Nat,(∀m∈l,m<xs.size)->l.filterMap (fun(m:Nat)=>xs[(((xs.size:Int) - 1)+(m:Int) * (-1)).toNat]?)=l.map (fun m=>xs.toList.getD (xs.size - 1 - m) .none):=by
   intro l
   induction l with
   | nil=>intro _;rfl
   | cons m l ih =>
    intro h;have hm':=h m Te;have q:(((xs.size:Int) - 1)+(m:Int) * (-1)).toNat=xs.size - 1 - m:=by omega
    have hl:xs.size - 1 - m<xs.size:=by omega
    have q2:xs[(((xs.size:Int) - 1)+(m:Int) * (-1)).toNat]?=some (xs.toList.getD (xs.size - 1 - m) .none):=by rw[q];simp[hl]
    rw[List.filterMap_cons,q2,R5,ih fun k hk=>h k (Rq _ hk)]
  exact go _ fun m hm=>List.mem_range.mp hm
 rw[e];by_cases hi:i<xs.size
 ·rw[Ma,List.getElem?_range hi,List.getElem?_reverse (by simpa using hi)];have hl:xs.size - 1 - i<xs.size:=by omega
  simp[hl]
 ·rw[List.getElem?_eq_none (by simp;omega),List.getElem?_eq_none (by simp;omega)]
theorem Qv{t sl:Addr}{items:Array Value}{u:Tok}{Q:Vt}(ht:IsTup s.heap t items)(hs:s.heap.IsSliceOf sl .none .none (.int (-1) u))(hsz:items.size<=sizeLine)
  (h:Q (.ref s.heap.objs.size) { s with heap:=s.heap.push { cls:=.type "tuple",data:=.seq items.toList.reverse.toArray } }):wpAny (model prog w) A (getItem (.ref t) (.ref sl)) Q E s:=by
 obtain⟨os,hos,hcs,hds⟩:=id hs;have hTs:s.TypeIs (.ref sl) "slice" := ⟨os,hos,hcs⟩
 have Qw:sizeOk (.seq items.toList.reverse.toArray):=by
  show items.toList.reverse.toArray.size<=sizeLine;rw[Dy,List.length_reverse,jk];exact hsz
 unfold getItem
 try with_reducible refine wpAny_holding ?_
 first | refine Zo (Y7 ?_) | skip
 refine Zo (wpAny_sequenceKey ht.typeIs (by decide) ?_)
 refine Zo (wpAny_callSpecial?_slot (name:=Str.ofString "__getitem__") ht.typeIs slot_tuple_getitem
  (wpAny_call_entry slot_tuple_getitem ht.typeIs entry_tuple_getitem ?_ (args_tuple_getitem _ _)))
 show wpAny _ _ (Builtin.Tuple.tupleItemsOf (.ref t) >>= _) _ _ s;refine Zo (tupleItemsOf_ ht ?_);refine Zo (wpAny_typeOf hTs ?_);rw[if_pos (by decide)];refine Zo (Pg hs ?_);have hno:¬ ((((items.size:Int) - 1) == 0 && (-1:Int) == 1 && items.size == items.size)=true):=by simp
 show wpAny _ _ (if (((items.size:Int) - 1) == 0 && (-1:Int) == 1 && items.size == items.size)=true then _ else _) _ _ s;rw[if_neg hno,Zvu]
 first
  | exact Zo (m:=Builtin.Tuple.tupleExact _) (wpAny_newObj_type (Y7 ⟨_,rfl,Y7 h⟩) Qw)
  | exact Zo (m:=Builtin.Tuple.tupleExact _) (wpAny_newObj_type (Zo (Y7 (Y7 ⟨_,rfl,Y7 h⟩))) Qw)
  | exact Zo (Zo (m:=Builtin.Tuple.tupleExact _) (wpAny_newObj_type (Y7 (Y7 ⟨_,rfl,Y7 h⟩)) Qw))
  | exact Zo (Zo (m:=Builtin.Tuple.tupleExact _) (wpAny_newObj_type (Y7 ⟨_,rfl,Y7 h⟩) Qw))
end
end HT
namespace L2
open PySem PySem.Spec PyProof.Rows
section
variable{X:Cx}{e:Expr}{te:TE}{lo hi:Option Expr}{tl th:TO}{pos p2 p3 p4:Pos}{j1:Nat}
theorem Zw.lay{H:Hp}{p:Addr}{o:HO}(h:H p=none):Zw H (Yq H p o):=fun b u q=>by rw[Zl (Yw q h)];exact q
inductive rSlG_I(K:W.Frag)(x:V)(lo:Option Int)(hi:Option Int)(H:Hp)(Q:VK):Prop
 | mk(a xs)(Vg:x=.ref a)(Vk:Yv K H a xs)(V1:∀p H',Zw H H'->Yv K H' p (Dj xs lo hi)->Q (.ref p) H')
def rSlG(K:W.Frag):V->Option Int->Option Int->Hp->VK->Prop:=fun x lo hi H Q=>rSlG_I K x lo hi H Q
theorem B6:SlR X (rSlG X.K):=by
 intro pins s σ H x v vl vu lo hi sl Q I rx hs pl pu h;obtain⟨a,xs,rfl,hx,q⟩:=h;by_cases hw:HT.Uo xs.length 0 lo=0/\HT.Uo xs.length xs.length hi=xs.length
 ·cases rx;obtain⟨its,r,ht,hz⟩:=I.tuple hx;have hlen:its.toArray.size=xs.length:=by rw[Dy];exact r.length.symm
  refine⟨"tuple",_,slot_tuple_getitem.lookup,ht.typeIs, ?_⟩;refine HT.Wq ht hs pl pu (by rw[hlen];exact hw) ⟨.ref a,H,I,rfl,q a H (Zw.refl H) ?_⟩
  have e:Dj xs lo hi=xs:=by
   unfold Dj;rw[hw.1,hw.2,List.drop_zero,Nat.sub_zero,fc]
  rw[e];exact hx
 ·exact sl_tup pins s σ H _ v vl vu lo hi sl Q I rx hs pl pu ⟨a,xs,rfl,hx,hw,fun p hp=>q p _ (Zw.lay hp) (Yv.of Zz)⟩
inductive tRev_I(K:W.Frag)(Q:VK)(x:V)(H1:Hp):Prop
 | mk(a xs)(Vg:x=.ref a)(Vk:Yv K H1 a xs)(V1:∀p,H1 p=none->Q (.ref p) (Yq H1 p (.tup xs.reverse)))
def tRev(K:W.Frag)(te:TE):TE:=fun σ H Q=>te σ H fun x H1=>tRev_I K Q x H1
theorem Yb.rev{xs:List V}{us:List Value}(r:Yb xs us):Yb xs.reverse us.reverse:=by
 induction r with
 | nil=>exact .nil
 | cons h t ih =>
  rw[List.reverse_cons,List.reverse_cons];exact Yb.append ih (.cons h .nil)
theorem Zf4(he:PE X e te)(hst:PE X (.UnaryOp .USub (.Constant (.int 1) j1 p3) p4) (tUn (rU fun i=>.int (-i)) (tC (.int 1)))):PE X (.Subscript e (.Slice none none (some (.UnaryOp .USub (.Constant (.int 1) j1 p3) p4)) p2) pos) (tRev X.K te):=by
 intro pins s σ H Q I h;refine Subscript_ (V0 (he pins s σ H _ I h) fun v s1 ⟨x,H1,I1,r1,q1⟩=>?_);rw[show (Expr.Slice none none (some (.UnaryOp .USub (.Constant (.int 1) j1 p3) p4)) p2)=(Expr.Slice none none (some (.UnaryOp .USub (.Constant (.int 1) j1 p3) p4)) p2) from rfl];refine wpAny_Slice ?_;rw[evalPart_none];refine Y7 (Y7 ?_);rw[evalPart_some];refine V0 (hst pins s1 σ H1 (fun v H2=>v=.int (-1)/\H2=H1) I1 ⟨1,rfl,rfl,rfl⟩) fun u s3 ⟨y,H3,I3,r3,e3,e4⟩=>?_;subst e3 e4;obtain⟨t,rfl⟩:=r3;obtain⟨a,xs,rfl,hx,q⟩:=q1;cases r1;have I4:Zi X pins σ H3 { s3 with heap:=s3.heap.push { cls:=.type "slice",data:=.fields #[.none,.none,.int (-1) t] } }:=I3.kept (t':=s3.toks) fun b ob q=>G4 _ q;obtain⟨its,r,ht,hz⟩:=I4.tuple hx;have hlen:its.toArray.size=xs.length:=by rw[Dy];exact r.length.symm
 show wpAny (model X.prog X.w) X.A (subscriptTail e (.Slice none none (some (.UnaryOp .USub (.Constant (.int 1) j1 p3) p4)) p2) (.ref a) (.ref s3.heap.objs.size)) (EP X pins σ Q) X.xe { s3 with heap:=s3.heap.push { cls:=.type "slice",data:=.fields #[.none,.none,.int (-1) t] } };refine tail_any (ops:=[.ref a,.ref s3.heap.objs.size]) ht.typeIs slot_tuple_getitem.lookup (HT.Qv ht (Heap.IsSliceOf.new ..) (by rw[hlen];exact hz) ?_) (by with_unfolding_all rfl);refine⟨.ref _,_,I4.laid (t':=s3.toks) (o:=.tup xs.reverse) (fun b ob q=>G4 _ q) (Vj _) ?_,rfl,q _ (I4.hok.fresh (Vj _))⟩;exact⟨by rw[List.length_reverse];exact hz,_,r.rev,Hc.new _ _⟩
inductive Zf0(K:W.Frag)(x:V)(y:V)(H:Hp)(Q:VK):Prop
 | mk(a b xs ys)(Vg:x=.ref a)(Vk:y=.ref b)(V1:Yv K H a xs)(Jk:Yv K H b ys)(Mn:xs.length+ys.length<=sizeLine)(Wb:∀p H',Zw H H'->Yv K H' p (xs++ys)->Q (.ref p) H')
def rCatG(K:W.Frag):R2:=fun x y H Q=>Zf0 K x y H Q
theorem F4:Nd X (binaryOp .Add) (rCatG X.K):=by
 intro pins s σ H x y v u Q I rx ry h;obtain⟨a,b,xs,ys,rfl,rfl,ha,hb,hz,q⟩:=h;cases xs with
 | nil=>exact Zv8 pins s σ H _ _ v u Q I rx ry ⟨a,b,ys,rfl,rfl,ha,hb,q b H (Zw.refl H) hb⟩
 | cons x xs =>
  refine Zbj pins s σ H _ _ v u Q I rx ry ⟨a,b,x::xs,ys,rfl,rfl,ha,hb,(fun z=>nomatch z),hz,fun e=>?_,fun _ p hp=>q p _ (Zw.lay hp) (Yv.of Zz)⟩;subst e;exact q a H (Zw.refl H) (by rw[List.append_nil];exact ha)
end
structure FnV(X:Cx)(f:Addr)(ps:List Str)(sp:Sp):Prop where
 ok:∃k fd,Yn X.prog X.w X.K X.mg X.base Je k f fd ps sp/\G5 X.K fd ps []/\Ur k X.A
 kp:W.keepIn X.K (.ref f)=true
section
variable{X:Cx}{x:Str}{p pos:Pos}{e:Expr}{es:List Expr}{tn:TE}{t:TA}{Y:Cx->Addr->List Str->Sp->Prop}
inductive Zwn(X:Cx)(t:TA)(σ:St)(Q:VK)(v:V)(H1:Hp):Prop
 | mk(f ps sp)(Vg:v=.ref f)(Vk:FnV X f ps sp)(V1:t σ H1 fun vs H2=>sp vs H2 Q E0)
def tCallV(X:Cx)(tn:TE)(t:TA):TE:=fun σ H Q=>tn σ H fun v H1=>Zwn X t σ Q v H1
theorem Zv1(hn:PE X (.Name x p) tn)(ha:PA X (e::es) t)
  (he:starEach (e::es) X.env=(false,eval e X.env)::starEach es X.env:=by rfl) (P0:(backTo pos (starEach es X.env)).any (·.1)=false:=by rfl) :
  PE X (.Call (.Name x p) (e::es) [] pos) (tCallV X tn t):=by
 intro pins s σ H Q I h;refine wpAny_Call_Name_kw (V0 (hn pins s σ H _ I h) fun v s1 ⟨v',H1,I1,r1,f,ps,sp,e1,⟨⟨k,fd,F,b,hr⟩,kp⟩,q1⟩=>?_);subst e1;cases r1;refine W.callWith_K (h₀:=X.base) I1.ok.mod.kin kp (V0 (ha pos pins s1 σ H1 _ I1 q1) fun us s2 ⟨vs,H2,I2,r2,q2⟩=>⟨I2.kIn, ?_⟩) he P0;exact Zvm (sp:=sp) (E:=E0) F hr b .nil Zdj I2 r2 (by rw[List.append_nil];exact q2)
end
inductive Th where
 | non | bl(b:Bool) | int(i:Int) | str(x:Str) | tup(ts:List Th) | opq
mutual
def Zb(K:W.Frag)(H:Hp):Th->V->Prop
 | .non,v=>v=.non
 | .bl b,v=>v=.bl b
 | .int i,v=>v=.int i
 | .str x,v=>v=.str x
 | .tup ts,v=>∃a vs,v=.ref a/\Yv K H a vs/\Zy K H ts vs
 | .opq,v=>∃a,v=.ref a/\((∃xs,H a=some (.lst xs))\/∃kvs,H a=some (.dK kvs))
def Zy(K:W.Frag)(H:Hp):List Th->List V->Prop
 | [],vs=>vs=[]
 | t::ts,vs=>∃v r,vs=v::r/\Zb K H t v/\Zy K H ts r
end
structure Mz(K:W.Frag)(H H':Hp):Prop where
 tup:Up K H H'
 lst:∀a xs,H a=some (.lst xs)->∃ys,H' a=some (.lst ys)
 dct:∀a kvs,H a=some (.dK kvs)->H' a=some (.dK kvs)
 frz:∀a o kvs,H a=some (.frz o (.dK kvs))->H' a=some (.frz o (.dK kvs))
section
variable{K:W.Frag}{H H1 H':Hp}
theorem Mz.refl(H:Hp):Mz K H H:=⟨Up.refl H,fun _ xs h=>⟨xs,h⟩,fun _ _ h=>h,fun _ _ _ h=>h⟩
theorem Mz.trans{H2:Hp}(a:Mz K H H1)(b:Mz K H1 H2):Mz K H H2:=⟨a.tup.trans b.tup,fun p xs h=>let ⟨_,e⟩:=a.lst p xs h;b.lst p _ e,fun p k h=>b.dct p k (a.dct p k h),fun p o k h=>b.frz p o k (a.frz p o k h)⟩
theorem Zw.upT(e:Zw H H'):Mz K H H':=⟨e.up,fun a xs h=>⟨xs,e _ _ h⟩,fun a k h=>e _ _ h,fun a o k h=>e _ _ h⟩
theorem Bj.upT{l:Addr}(a:Bj l H H')(f:Hu H l):Mz K H H':=by
 obtain⟨x,y,z,w,e⟩:=id f;refine⟨a.up f,fun p xs h=>?_,fun p k h=>?_,fun p o k h=>?_⟩
 ·by_cases q:p=l
  ·obtain⟨_,_,_,_,e'⟩:=a.feed;exact⟨_,by rw[q];exact e'⟩
  ·exact⟨xs,a.keep p _ q h⟩
 ·refine a.keep p _ (fun q=>?_) h;rw[q,e]at h;cases h
 ·refine a.keep p _ (fun q=>?_) h;rw[q,e]at h;cases h
theorem Y8{p:Addr}{ys zs:List V}(h:H p=some (.lst ys)):Mz K H (Yq H p (.lst zs)):=by
 refine⟨up_set h,fun q xs e=>?_,fun q k e=>?_,fun q o k e=>?_⟩
 ·by_cases z:q=p
  ·exact⟨zs,by rw[z,Zz]⟩
  ·exact⟨xs,by rw[Zl z];exact e⟩
 ·rw[Zl (fun z=>by rw[z,h]at e;cases e)];exact e
 ·rw[Zl (fun z=>by rw[z,h]at e;cases e)];exact e
mutual
theorem Zb.up(u:Mz K H H'):∀(t:Th) (v:V),Zb K H t v->Zb K H' t v
 | .non,_,h=>h
 | .bl _,_,h=>h
 | .int _,_,h=>h
 | .str _,_,h=>h
 | .tup ts,v,h=>by
  obtain⟨a,vs,e,q,r⟩:=h;exact⟨a,vs,e,u.tup a vs q,Zy.up u ts vs r⟩
 | .opq,v,h=>by
  obtain⟨a,e,q⟩:=h;refine⟨a,e, ?_⟩;rcases q with ⟨xs,q⟩ | ⟨k,q⟩
  ·exact .inl (u.lst a xs q)
  ·exact .inr ⟨k,u.dct a k q⟩
theorem Zy.up(u:Mz K H H'):∀(ts:List Th) (vs:List V),Zy K H ts vs->Zy K H' ts vs
 | [],_,h=>h
 | t::ts,vs,h=>by
  obtain⟨v,r,e,q,w⟩:=h;exact⟨v,r,e,Zb.up u t v q,Zy.up u ts r w⟩
end
theorem Zy.length:∀{ts:List Th} {vs:List V},Zy K H ts vs->ts.length=vs.length
 | [],vs,h=>by
  have e:vs=[]:=h;subst e;rfl
 | t::ts,vs,h=>by
  obtain⟨v,r,rfl,_,w⟩:=h;simp only[S6,Zy.length w]
theorem Zy.get:∀{ts:List Th} {vs:List V} {i:Nat} {t:Th},Zy K H ts vs->ts[i]?=some t->∃v,vs[i]?=some v/\Zb K H t v
 | [],vs,i,t,_,e=>by simp at e
 | t::ts,vs,0,t',h,e=>by
  obtain⟨v,r,rfl,q,_⟩:=h;simp at e;subst e;exact⟨v,rfl,q⟩
 | t::ts,vs,i+1,t',h,e=>by
  obtain⟨v,r,rfl,_,w⟩:=h;obtain⟨v',e1,q⟩:=Zy.get (i:=i) w (by simpa using e);exact⟨v',by simpa using e1,q⟩
theorem Zy.got:∀{ts:List Th} {vs:List V} {i:Nat} {v:V},Zy K H ts vs->vs[i]?=some v->∃t,ts[i]?=some t/\Zb K H t v:=fun {ts vs i v} h e=>by
 have hi:=(Q8.mp e).1;have hi':i<ts.length:=by rw[h.length];exact hi
 obtain⟨v',e1,q⟩:=h.get (Nn hi');rw[e]at e1;cases e1;exact⟨_,Nn hi',q⟩
theorem Zy.append:∀{ts us:List Th} {vs ws:List V},Zy K H ts vs->Zy K H us ws->Zy K H (ts++us) (vs++ws)
 | [],us,vs,ws,h,h'=>by
  have e:vs=[]:=h;subst e;exact h'
 | t::ts,us,vs,ws,h,h'=>by
  obtain⟨v,r,rfl,q,w⟩:=h;exact⟨v,r++ws,rfl,q,Zy.append w h'⟩
theorem Zy.one{t:Th}{v:V}(h:Zb K H t v):Zy K H [t] [v]:=⟨v,[],rfl,h,rfl⟩
theorem Zy.drop:∀{ts:List Th} {vs:List V} (n:Nat),Zy K H ts vs->Zy K H (ts.drop n) (vs.drop n)
 | ts,vs,0,h=>h
 | [],vs,n+1,h=>by
  have e:vs=[]:=h;subst e;rfl
 | t::ts,vs,n+1,h=>by
  obtain⟨v,r,rfl,_,w⟩:=h;exact Zy.drop n w
theorem Zy.take:∀{ts:List Th} {vs:List V} (n:Nat),Zy K H ts vs->Zy K H (ts.take n) (vs.take n)
 | ts,vs,0,_=>rfl
 | [],vs,n+1,h=>by
  have e:vs=[]:=h;subst e;rfl
 | t::ts,vs,n+1,h=>by
  obtain⟨v,r,rfl,q,w⟩:=h;exact⟨v,r.take n,rfl,q,Zy.take n w⟩
theorem Zy.reverse:∀{ts:List Th} {vs:List V},Zy K H ts vs->Zy K H ts.reverse vs.reverse
 | [],vs,h=>by
  have e:vs=[]:=h;subst e;rfl
 | t::ts,vs,h=>by
  obtain⟨v,r,rfl,q,w⟩:=h;rw[List.reverse_cons,List.reverse_cons];exact Zy.append (Zy.reverse w) (Zy.one q)
theorem Bo{a b:Th}{v:V}(h:Zb K H (.tup [a,b]) v):∃p x y,v=.ref p/\Yv K H p [x,y]/\Zb K H a x/\Zb K H b y:=by
 obtain⟨p,vs,rfl,q,x,r,rfl,i1,y,r2,rfl,i2,e⟩:=h;have e':r2=[]:=e;subst e';exact⟨p,x,y,rfl,q,i1,i2⟩
theorem isTh3{a b c:Th}{v:V}(h:Zb K H (.tup [a,b,c]) v):∃p x y z,v=.ref p/\Yv K H p [x,y,z]/\Zb K H a x/\Zb K H b y/\Zb K H c z:=by
 obtain⟨p,vs,rfl,q,x,r,rfl,i1,y,r2,rfl,i2,z,r3,rfl,i3,e⟩:=h;have e':r3=[]:=e;subst e';exact⟨p,x,y,z,rfl,q,i1,i2,i3⟩
end
def Gn(T:String):Th->Bool
 | .non=>false
 | .bl _=>T == "int" || T == "bool"
 | .int _=>T == "int"
 | .str _=>T == "str"
 | .tup _=>T == "tuple"
 | .opq=>false
def Ue(t:Th)(z:Str):Bool:=match t with
 | .str x=>x == z
 | _=>false
section
variable{X:Cx}
theorem Zbi{pins:Uv}{σ:St}{H:Hp}{s:Shared}{a:Addr}{xs:List V}{c:Value}{b:Bool}{Q:Vt}{E:Vt}(I:Zi X pins σ H s)(q:Yv X.K H a xs)(e:W.kitOne X.K (.type "tuple") c=some b)(h:∀tk,Q (.bool b) { s with toks:=tk }) :
  wpAny (model X.prog X.w) X.A (call (.builtin "isinstance") [.ref a,c]) Q E s:=by
 obtain⟨its,_,⟨o,h1,h2,_⟩,_⟩:=I.tuple q;exact W.kia_one W.kitx_tuple I.kIn ⟨o,h1,h2⟩ e (fun z=>nomatch z) h
inductive qy(K:W.Frag)(xs:List V)(H:Hp)(Q:VK):Prop
 | mk(x T t)(Vg:xs=[x,.ty T])(Vk:Zb K H t x)(V1:T∈["tuple","str","int","bool"])(Jk:Q (.bl (Gn T t)) H)
theorem Ze:D9 X (.builtin "isinstance") (fun xs H Q=>qy X.K xs H Q):=by
 intro pins s σ H xs us Q I r h;obtain⟨x,T,t,rfl,ht,hT,q⟩:=h;obtain⟨u,w',rfl,rx,ry⟩:=ue r;cases ry;have fin:∀tk,EP X pins σ Q (.bool (Gn T t)) { s with toks:=tk }:=fun tk=>⟨.bl _,H,I.tok _,rfl,q⟩
 have four:∀P:String->Prop,P "tuple" -> P "str" -> P "int" -> P "bool" -> P T:=fun P a b c d=>by
  simp only[G2,U6,or_false]at hT;rcases hT with rfl | rfl | rfl | rfl
  ·exact a
  ·exact b
  ·exact c
  ·exact d
 cases t with
 | non =>
  cases Zr ht;exact Mo I rx .non (by revert fin;exact four (fun T=>_->W.kitOne X.K (.type "NoneType") (.type T)=some (Gn T .non)) (fun _=>rfl) (fun _=>rfl) (fun _=>rfl) (fun _=>rfl)) fin
 | bl b =>
  cases Zr ht;exact Mo I rx (.bl b) (by revert fin;exact four (fun T=>_->W.kitOne X.K (.type "bool") (.type T)=some (Gn T (.bl b))) (fun _=>rfl) (fun _=>rfl) (fun _=>rfl) (fun _=>rfl)) fin
 | int i =>
  cases Zr ht;exact Mo I rx (.int i) (by revert fin;exact four (fun T=>_->W.kitOne X.K (.type "int") (.type T)=some (Gn T (.int i))) (fun _=>rfl) (fun _=>rfl) (fun _=>rfl) (fun _=>rfl)) fin
 | str i =>
  cases Zr ht;exact Mo I rx (.str i) (by revert fin;exact four (fun T=>_->W.kitOne X.K (.type "str") (.type T)=some (Gn T (.str i))) (fun _=>rfl) (fun _=>rfl) (fun _=>rfl) (fun _=>rfl)) fin
 | tup ts =>
  obtain⟨a,vs,rfl,hq,_⟩:=ht;cases rx;exact Zbi I hq (by revert fin;exact four (fun T=>_->W.kitOne X.K (.type "tuple") (.type T)=some (Gn T (.tup ts))) (fun _=>rfl) (fun _=>rfl) (fun _=>rfl) (fun _=>rfl)) fin
 | opq =>
  obtain⟨a,rfl,⟨xs,hq⟩ | ⟨k,hq⟩⟩:=ht
  ·exact Mo I rx (.lst hq) (by revert fin;exact four (fun T=>_->W.kitOne X.K (.type "list") (.type T)=some (Gn T .opq)) (fun _=>rfl) (fun _=>rfl) (fun _=>rfl) (fun _=>rfl)) fin
  ·exact Mo I rx (.dK hq) (by revert fin;exact four (fun T=>_->W.kitOne X.K (.type "dict") (.type T)=some (Gn T .opq)) (fun _=>rfl) (fun _=>rfl) (fun _=>rfl) (fun _=>rfl)) fin
inductive Zfo(K:W.Frag)(A:Around)(x:V)(y:V)(H:Hp)(Q:VK):Prop
 | mk(t z)(Vg:Zb K H t x)(Vk:y=.str z)(V1:A.units<cLine)(Jk:Q (.bl (Ue t z)) H)
def rEqTh(K:W.Frag)(A:Around):R2:=fun x y H Q=>Zfo K A x y H Q
theorem Vp:Nd X (compareOp .Eq) (rEqTh X.K X.A):=by
 intro pins s σ H x y v u Q I rx ry h;obtain⟨t,z,ht,rfl,hu,q⟩:=h;have fin:EP X pins σ Q (.bool (Ue t z)) s:=⟨.bl _,H,I,rfl,q⟩
 have flat:∀(hf:Nv x=true),eqV x (.str z)=Ue t z->wpAny (model X.prog X.w) X.A (compareOp .Eq v u) (EP X pins σ Q) X.xe s:=fun hf e=>by
  have:=Zvc (A:=X.A) (s:=s) rx ry hf rfl;rw[e]at this;exact this X.prog X.w X.xe _ fin
 cases t with
 | non=>cases Zr ht;exact flat rfl rfl
 | bl b=>cases Zr ht;exact flat rfl rfl
 | int i=>cases Zr ht;exact flat rfl rfl
 | str i=>cases Zr ht;exact flat rfl rfl
 | tup ts =>
  obtain⟨a,vs,rfl,hq,_⟩:=ht;cases rx;obtain⟨tk,rfl⟩:=ry;obtain⟨its,_,ht,_⟩:=I.tuple hq;exact SeqAt.RcAt.tuple_str z tk ht hu X.prog X.w X.xe _ fin
 | opq =>
  obtain⟨a,rfl,⟨xs,hq⟩ | ⟨k,hq⟩⟩:=ht
  ·cases rx;obtain⟨tk,rfl⟩:=ry;obtain⟨its,_,hp,_⟩:=I.list (Z0.of hq);exact SeqAt.RcAt.list_str z tk hp.isList hu X.prog X.w X.xe _ fin
  ·cases rx;obtain⟨tk,rfl⟩:=ry;obtain⟨_,_,vs,_,⟨cls,dd,data,sl⟩,es,ep,e,hx,hd,_⟩:=(show Vq X.prog X.w H s.heap a (.dK k) from I.hok a _ hq);obtain⟨c1,_⟩:=hx;simp only at c1 hd;subst c1 hd;exact DctE.j5 z tk e hu X.prog X.w X.xe _ fin
inductive Zvs(K:W.Frag)(A:Around)(x:V)(y:V)(H:Hp)(Q:VK):Prop
 | mk(a b xs)(Vg:x=.ref a)(Vk:y=.ref b)(V1:Z0 K H a xs)(Jk:Z0 K H b [])(Mn:A.units<cLine)(Wb:Q (.bl xs.isEmpty) H)
def rEqNil(K:W.Frag)(A:Around):R2:=fun x y H Q=>Zvs K A x y H Q
theorem Zv7:Nd X (compareOp .Eq) (rEqNil X.K X.A):=by
 intro pins s σ H x y v u Q I rx ry h;obtain⟨a,b,xs,rfl,rfl,ha,hb,hu,q⟩:=h;cases rx;cases ry;obtain⟨i1,r1,p1,z1⟩:=I.list ha;obtain⟨i2,r2,p2,z2⟩:=I.list hb;have e2:i2=[]:=by cases r2;rfl
 subst e2;cases xs with
 | nil =>
  have e1:i1=[]:=by cases r1;rfl
  subst e1;have:=SeqAt.RcAt.lists (A:=X.A) (e:=fun _=>true) p1.isList p2.isList rfl hu (fun j h1 h2=>absurd h1 (by simp));exact this X.prog X.w X.xe _ ⟨.bl _,H,I,rfl,q⟩
 | cons x xs =>
  have hl:=r1.length;exact SeqAt.RcAt.lists_lengths (A:=X.A) p1.isList p2.isList (by rw[Dy, <-hl];rfl) hu X.prog X.w X.xe _ ⟨.bl _,H,I,rfl,q⟩
end
theorem Zqa{τ:St}{o:Option V}{v:V}{H:Hp}{tt:TT}{A B:St->Hp->Prop}(h:tt (some v::τ) H fun ok H3=>if ok=true then A (some v::τ) H3 else B (some v::τ) H3):Jv 0 v (o::τ) H fun σ2 H2=>tt σ2 H2 fun ok H3=>if ok=true then A σ2 H3 else B σ2 H3:=h
theorem V2{τ:St}{o:Option V}{v:V}{H:Hp}{A B:St->Hp->Prop}(h:A (some v::τ) H):Jv 0 v (o::τ) H fun σ2 H2=>Jt σ2 H2 fun ok H3=>if ok=true then A σ2 H3 else B σ2 H3:=by
 show if true=true then A (some v::τ) H else B (some v::τ) H
 rw[if_pos rfl];exact h
theorem Zs{α:Type}{xs:List α}{i:Nat}{x:α}(e:xs[i]?=some x):xs.take (i+1)=xs.take i++[x]:=by rw[List.take_add_one,e];rfl
section
variable{K:W.Frag}{H:Hp}{a D:Addr}{xs:List V}{ts:List Th}{te:TE}{tt:TT}{fin:Hp->Prop}{τ:St}{o:Option V}
theorem Lr{p:Th->Bool}(ha:Z0 K H a xs)(hA:Zy K H ts xs)(hl:ts.length<=1000000)(hD:H D=none)
  (h:∀t v H5 (Q:VK),t∈ts->Zw H H5->Zb K H5 t v->(∀H6,Zw H5 H6->Q (.bl (p t)) H6)->te (some v::τ) H5 Q)
  (hf:∀H6,Zw H H6->H6 D=some (.lst ((ts.map p).map V.bl))->fin H6) :
  ∃W:Nat->Nat->List V->St->Hp->Prop,(∃m,W 0 m [] (o::τ) (Yq H D (.lst [])))/\Nm (Itl K a) (Jv 0) Jt te D W fin:=by
 have hlen:=hA.length;refine Jw (xs:=xs) (fun i ys σ H5=>(∃o',σ=o'::τ)/\ys=((ts.take i).map p).map V.bl/\Zw H H5/\H5 D=some (.lst ys)) ⟨⟨_,rfl⟩,rfl,(Zw.refl H).put hD,Zz⟩ ?_ ?_ ?_
 ·rintro i ys σ H5 hi ⟨_,_,s5,h5⟩;exact⟨s5.seq ha,h5⟩
 ·rintro i x ys σ H5 hx ⟨⟨o',rfl⟩,rfl,s5,h5⟩;obtain⟨t,et,it⟩:=hA.got hx;refine V2 (h t x H5 _ (Ow et) s5 (Zb.up s5.upT t x it) fun H6 s6=>?_);refine⟨s6 _ _ h5, ?_,⟨_,rfl⟩, ?_,(s5.trans s6).put hD,Zz⟩
  ·rw[Yp,Yp,T1];exact Iz (Gw (Nat.min_le_right _ _) hl) (by decide)
  ·rw[Zs et,Gj,Gj];rfl
 ·rintro ys σ H5 ⟨_,rfl,s5,h5⟩;refine hf H5 s5 ?_;rw[h5, <-hlen,fc]
theorem Dv{p:Th->Bool}(ha:Yv K H a xs)(hA:Zy K H ts xs)(hl:ts.length<=1000000)(hD:H D=none)
  (h:∀t v H5 (Q:VK),t∈ts->Zw H H5->Zb K H5 t v->(∀H6,Zw H5 H6->Q (.bl (p t)) H6)->te (some v::τ) H5 Q)
  (hf:∀H6,Zw H H6->H6 D=some (.lst ((ts.map p).map V.bl))->fin H6) :
  ∃W:Nat->Nat->List V->St->Hp->Prop,(∃m,W 0 m [] (o::τ) (Yq H D (.lst [])))/\Nm (Itt K a) (Jv 0) Jt te D W fin:=by
 have hlen:=hA.length;refine D6 (xs:=xs) (fun i ys σ H5=>(∃o',σ=o'::τ)/\ys=((ts.take i).map p).map V.bl/\Zw H H5/\H5 D=some (.lst ys)) ⟨⟨_,rfl⟩,rfl,(Zw.refl H).put hD,Zz⟩ ?_ ?_ ?_
 ·rintro i ys σ H5 hi ⟨_,_,s5,h5⟩;exact⟨s5.up _ _ ha,h5⟩
 ·rintro i x ys σ H5 hx ⟨⟨o',rfl⟩,rfl,s5,h5⟩;obtain⟨t,et,it⟩:=hA.got hx;refine V2 (h t x H5 _ (Ow et) s5 (Zb.up s5.upT t x it) fun H6 s6=>?_);refine⟨s6 _ _ h5, ?_,⟨_,rfl⟩, ?_,(s5.trans s6).put hD,Zz⟩
  ·rw[Yp,Yp,T1];exact Iz (Gw (Nat.min_le_right _ _) hl) (by decide)
  ·rw[Zs et,Gj,Gj];rfl
 ·rintro ys σ H5 ⟨_,rfl,s5,h5⟩;refine hf H5 s5 ?_;rw[h5, <-hlen,fc]
theorem Ub{f:Th->Th}(ha:Yv K H a xs)(hA:Zy K H ts xs)(hl:ts.length<=1000000)(hD:H D=none)
  (h:∀t v H5 (Q:VK),t∈ts->Zw H H5->Zb K H5 t v->(∀v' H6,Zw H5 H6->Zb K H6 (f t) v'->Q v' H6)->te (some v::τ) H5 Q)
  (hf:∀H6 ws,Zw H H6->H6 D=some (.lst ws)->Zy K H6 (ts.map f) ws->fin H6) :
  ∃W:Nat->Nat->List V->St->Hp->Prop,(∃m,W 0 m [] (o::τ) (Yq H D (.lst [])))/\Nm (Itt K a) (Jv 0) Jt te D W fin:=by
 have hlen:=hA.length;refine D6 (xs:=xs) (fun i ys σ H5=>(∃o',σ=o'::τ)/\Zy K H5 ((ts.take i).map f) ys/\Zw H H5/\H5 D=some (.lst ys)) ⟨⟨_,rfl⟩,rfl,(Zw.refl H).put hD,Zz⟩ ?_ ?_ ?_
 ·rintro i ys σ H5 hi ⟨_,_,s5,h5⟩;exact⟨s5.up _ _ ha,h5⟩
 ·rintro i x ys σ H5 hx ⟨⟨o',rfl⟩,ar,s5,h5⟩;obtain⟨t,et,it⟩:=hA.got hx;refine V2 (h t x H5 _ (Ow et) s5 (Zb.up s5.upT t x it) fun v' H6 s6 i6=>?_);refine⟨s6 _ _ h5, ?_,⟨_,rfl⟩, ?_,(s5.trans s6).put hD,Zz⟩
  ·rw[<-ar.length,Yp,T1];exact Iz (Gw (Nat.min_le_right _ _) hl) (by decide)
  ·rw[Zs et,Gj];have u6:Mz K H6 (Yq H6 D (.lst (ys++[v']))):=Y8 (s6 _ _ h5);exact Zy.append (Zy.up (s6.upT.trans u6) _ _ ar) (Zy.one (Zb.up u6 _ _ i6))
 ·rintro ys σ H5 ⟨_,ar,s5,h5⟩;refine hf H5 ys s5 h5 ?_;rw[<-hlen,fc]at ar;exact ar
theorem Ri{x:Str}{p:Nat->Bool}(hl:x.cps.size<=1000000)(hD:H D=none)
  (h:∀c H5 (Q:VK),c∈x.cps.toList->Zw H H5->(∀H6,Zw H5 H6->Q (.bl (p c)) H6)->te (some (.str ⟨#[c]⟩)::τ) H5 Q)
  (hf:∀H6,Zw H H6->H6 D=some (.lst ((x.cps.toList.map p).map V.bl))->fin H6) :
  ∃W:Nat->Nat->List V->St->Hp->Prop,(∃m,W 0 m [] (o::τ) (Yq H D (.lst [])))/\Nm (Its x) (Jv 0) Jt te D W fin:=by
 refine Zki (x:=x) (fun i ys σ H5=>(∃o',σ=o'::τ)/\ys=((x.cps.toList.take i).map p).map V.bl/\Zw H H5/\H5 D=some (.lst ys)) ⟨⟨_,rfl⟩,rfl,(Zw.refl H).put hD,Zz⟩ ?_ ?_ ?_
 ·rintro i ys σ H5 hi ⟨_,_,s5,h5⟩;exact h5
 ·rintro i c ys σ H5 hx ⟨⟨o',rfl⟩,rfl,s5,h5⟩;have et:x.cps.toList[i]?=some c:=by simpa using hx
  refine V2 (h c H5 _ (Ow et) s5 fun H6 s6=>?_);refine⟨s6 _ _ h5, ?_,⟨_,rfl⟩, ?_,(s5.trans s6).put hD,Zz⟩
  ·rw[Yp,Yp,T1,jk];exact Iz (Gw (Nat.min_le_right _ _) hl) (by decide)
  ·rw[Zs et,Gj,Gj];rfl
 ·rintro ys σ H5 ⟨_,rfl,s5,h5⟩;refine hf H5 s5 ?_;rw[h5, <-jk,fc]
end
end L2
namespace K01
open PySem PySem.Spec PyProof.Rows L2
def gdC(c:Nat):Prop:=32<=c/\c<=126/\c≠37
def gdS(x:Str):Prop:=∀c∈x.cps.toList,gdC c
mutual
def Dr:Th->Prop
 | .str x=>gdS x/\x.length<=1000
 | .tup ts=>yh ts
 | _=>True
def yh:List Th->Prop
 | []=>True
 | t::ts=>Dr t/\yh ts
end
theorem Yz:∀{ts:List Th},yh ts↔∀t∈ts,Dr t
 | []=>⟨fun _ t m=>(U6 m).elim,fun _=>trivial⟩
 | a::ts=>by
  constructor
  ·rintro⟨h1,h2⟩ t m;rcases G2.mp m with rfl | m
   ·exact h1
   ·exact Yz.mp h2 t m
  ·intro h;exact⟨h a Te,Yz.mpr fun t m=>h t (Rq _ m)⟩
mutual
def U4:Th->Nat
 | .tup ts=>Yd ts+1
 | _=>1
def Yd:List Th->Nat
 | []=>0
 | t::ts=>U4 t+Yd ts
end
mutual
def Jn:Th->Nat
 | .tup ts=>Mr ts+1
 | _=>0
def Mr:List Th->Nat
 | []=>0
 | t::ts=>max (Jn t) (Mr ts)
end
mutual
def jw:Th->Nat
 | .tup ts=>max ts.length (R7 ts)
 | _=>0
def R7:List Th->Nat
 | []=>0
 | t::ts=>max (jw t) (R7 ts)
end
theorem Fy:∀t:Th,1<=U4 t
 | .tup _=>by simp only[U4];omega
 | .non=>Vj _
 | .bl _=>Vj _
 | .int _=>Vj _
 | .str _=>Vj _
 | .opq=>Vj _
theorem Ce:∀ts:List Th,ts.length<=Yd ts
 | []=>Vj _
 | t::ts=>by
  have:=Ce ts;have:=Fy t;simp only[Yd,S6];omega
theorem Fk:∀{ts:List Th} {t:Th},t∈ts->U4 t<=Yd ts
 | a::ts,t,m=>by
  rcases G2.mp m with rfl | m
  ·simp only[Yd];omega
  ·have:=Fk m;simp only[Yd];omega
theorem Ds:∀{ts:List Th} {t:Th},t∈ts->Jn t<=Mr ts
 | a::ts,t,m=>by
  rcases G2.mp m with rfl | m
  ·simp only[Mr];omega
  ·have:=Ds m;simp only[Mr];omega
theorem Rm:∀{ts:List Th} {t:Th},t∈ts->jw t<=R7 ts
 | a::ts,t,m=>by
  rcases G2.mp m with rfl | m
  ·simp only[R7];omega
  ·have:=Rm m;simp only[R7];omega
theorem V7:∀as bs:List Th,Yd (as++bs)=Yd as+Yd bs
 | [],bs=>by simp[Yd]
 | a::as,bs=>by simp only[List.cons_append,Yd,V7 as bs];omega
theorem Qn:∀{ts:List Th} {n:Nat},(∀t∈ts,Jn t<=n)->Mr ts<=n
 | [],n,_=>Wl _
 | t::ts,n,h=>by
  have h1:=h t Te;have h2:=Qn (ts:=ts) fun x m=>h x (Rq _ m);simp only[Mr];omega
theorem Fj:∀{ts:List Th} {n:Nat},(∀t∈ts,jw t<=n)->R7 ts<=n
 | [],n,_=>Wl _
 | t::ts,n,h=>by
  have h1:=h t Te;have h2:=Fj (ts:=ts) fun x m=>h x (Rq _ m);simp only[R7];omega
def LET:Str:="abcdefghijklmnopqrstuvwxyz"
def SGN : Str := " !\"#$&'()*+,-./0123456789:;<=>?\x40ABCDEFGHIJKLMNOPQRSTUVWXYZ[\\]^_`abcdefghijklmnopqrstuvwxyz{|}~"
def B4(c:Nat)(j:Str):Bool:=!(Builtin.Str.occurrences j ⟨#[c]⟩ 0 j.length 1).isEmpty
def inL(c:Nat):Bool:=B4 c LET
theorem Zy2:∀c,gdC c->B4 c SGN=true:=by
 have h:∀c<127,32<=c->c≠37->B4 c SGN=true:=by decide +kernel
 intro c ⟨a,b,d⟩;exact h c (by omega) a d
def nj:Th->Bool
 | .str x=>decide (1<=x.length) && decide (x.length<=8) && x.cps.toList.all inL
 | _=>false
def Z4(lo hi:Int):Th->Bool
 | .int i=>decide (lo<=i) && decide (i<=hi)
 | _=>false
def textTh:Th->Bool
 | .str x=>decide (x.length<=200)
 | _=>false
def Mq:Th->Th->Bool
 | .int i,.int j=>decide (i<j)
 | .str x,.str y=>decide (x.cps.toList<y.cps.toList)
 | _,_=>false
def Jc(ts:List Th):Bool:=(List.zipWith Mq ts (ts.drop 1)).all id
def Jb(b:Bool)(t:Th):Bool:=if b then nj t else Z4 1 999 t
def Gc:Th->Bool
 | .tup [_,_]=>true
 | _=>false
def Za:Th->List Th
 | .tup ts=>ts
 | _=>[]
def Z7:Th->Bool
 | .tup ts=>ts.all Gc
 | _=>false
def Z6:Th->Th
 | .tup [a,_]=>a
 | t=>t
def Vc:Th->Th
 | .tup [_,b]=>b
 | t=>t
def Z8(b:Bool)(ts:List Th):Bool:=ts.all (Jb b) && Jc ts
def Yk(s t:Th):Bool :=
 if Ue s "whole" = true then Z4 (-1000000000000000000) 1000000000000000000 t else if Ue s "text" = true then textTh t else if Ue s "row" = true then Gn "tuple" t
 else if Ue s "map" = true then Z7 t && Z8 true ((Za t).map Z6) else if Ue s "rec" = true then Z7 t && Z8 false ((Za t).map Z6) else false
def Vx:Th->Bool
 | .tup [a,b]=>!Ue a "arm" && Yk a b
 | .tup [a,b,_]=>Ue a "arm" && Z4 1 999 b
 | _=>false
def Yc:Th->List Th
 | .tup [a,b]=>if Ue a "row" = true then Za b else if (Ue a "map" || Ue a "rec")=true then (Za b).map Vc else []
 | .tup [_,_,c]=>[c]
 | _=>[]
def lvl:Nat->List Th->Bool
 | 0,l=>l.isEmpty
 | n+1,l=>l.isEmpty || (l.all Vx && lvl n (l.flatMap Yc))
def B2:Nat->Th->Bool
 | 0,_=>false
 | n+1,t=>Vx t && (Yc t).all (B2 n)
theorem Zz3{α:Type}(p q:α->Bool):∀l:List α,l.all (fun x=>p x && q x)=(l.all p && l.all q)
 | []=>rfl
 | a::l=>by
  simp only[List.all_cons,Zz3 p q l];cases p a<;>cases q a<;>cases l.all p<;>cases l.all q<;>rfl
theorem ko{α β:Type}(f:α->List β)(p:β->Bool):∀l:List α,(l.flatMap f).all p=l.all fun x=>(f x).all p
 | []=>rfl
 | a::l=>by rw[List.flatMap_cons,List.all_append,List.all_cons,ko f p l]
theorem Zys:∀(n:Nat) (l:List Th),lvl n l=l.all (B2 n)
 | 0,[]=>rfl
 | 0,a::l=>by simp[lvl,B2]
 | n+1,l=>by
  show (l.isEmpty || (l.all Vx && lvl n (l.flatMap Yc)))=l.all (fun t=>Vx t && (Yc t).all (B2 n));rw[Zz3,Zys n,ko];cases l with
  | nil=>rfl
  | cons a l=>rfl
theorem Kj(t:Th):Yd (Za t)+1<=U4 t:=by
 cases t<;>first
  | (simp only[Za,Yd,U4];omega)
  | (simp only[Za,Yd,U4])
theorem snd_sz:∀t:Th,U4 (Vc t)<=U4 t:=by
 intro t;unfold Vc
 split
 ·simp only[U4,Yd];omega
 ·exact Vj _
theorem Pw:∀ts:List Th,Yd (ts.map Vc)<=Yd ts
 | []=>Vj _
 | t::ts=>by
  have:=snd_sz t;have:=Pw ts;simp only[R5,Yd];omega
theorem Zbh(t:Th):Yd (Yc t)+1<=U4 t:=by
 unfold Yc
 split
 ·rename_i a b
  have h1:=Kj b;have h2:=Pw (Za b)
  split
  ·simp only[U4,Yd];omega
  ·split
   ·simp only[U4,Yd];omega
   ·simp only[U4,Yd];omega
 ·simp only[U4,Yd];omega
 ·have:=Fy t;simp only[Yd];omega
theorem x9:∀l:List Th,Yd (l.flatMap Yc)<=Yd l
 | []=>Vj _
 | t::l=>by
  have:=Zbh t;have:=x9 l;rw[List.flatMap_cons,V7];simp only[Yd];omega
structure Fine(t:Th)(s d w:Nat):Prop where
 gd:Dr t
 sz:U4 t<=s
 dp:Jn t<=d
 wd:jw t<=w
theorem Kv{t:Th}(h:Dr t):∀u∈Za t,Dr u:=by
 intro u m;cases t with
 | tup ts=>exact Yz.mp h u m
 | _=>exact(U6 m).elim
theorem rj{t:Th}(h:Dr t):Dr (Z6 t):=by
 unfold Z6
 split
 ·exact h.1
 ·exact h
theorem Zvj{t:Th}(h:Dr t):Dr (Vc t):=by
 unfold Vc
 split
 ·exact h.2.1
 ·exact h
theorem Zbp{t:Th}(h:Dr t):∀u∈Yc t,Dr u:=by
 intro u m;unfold Yc at m
 split at m
 ·rename_i a b
  have hb:Dr b:=h.2.1
  split at m
  ·exact Kv hb u m
  ·split at m
   ·obtain⟨v,mv,rfl⟩:=Dp.mp m;exact Zvj (Kv hb v mv)
   ·exact(U6 m).elim
 ·rename_i a b c
  rw[N6.mp m];exact h.2.2.1
 ·exact(U6 m).elim
theorem Ir(a b:Th)(r:List Th):Jc (a::b::r)=(Mq a b && Jc (b::r)):=rfl
theorem vo:∀a b:List Nat,ltCps a b=decide (a<b)
 | [],[]=>by simp[ltCps]
 | [],_::_=>by simp[ltCps]
 | _::_,[]=>by simp[ltCps]
 | a::r,b::t=>by
  simp only[ltCps,vo r t,List.cons_lt_cons_iff];by_cases h1:a<b<;>by_cases h2:a=b<;>by_cases h3:r<t<;>simp[h1,h2,h3]
def ltS(x y:Str):Prop:=x.cps.toList<y.cps.toList
theorem Zqt{x y z:Str}(a:ltS x y)(b:ltS y z):ltS x z:=List.lt_trans a b
theorem Zg7{x y:Str}(h:x.cps.toList=y.cps.toList):x=y:=by
 cases x;cases y;simp only at h
 congr
 exact Array.toList_inj.mp h
theorem ltS_of{x y:Str}(h:¬ ltS y x)(n:x≠y):ltS x y:=by
 by_cases z:ltS x y
 ·exact z
 ·exact absurd (Zg7 (List.le_antisymm (List.not_lt.mp h) (List.not_lt.mp z))) n
def adj{α:Type}(r:α->α->Prop):List α->Prop
 | a::b::l=>r a b/\adj r (b::l)
 | _=>True
theorem ki{α:Type}{r:α->α->Prop}(tr:∀a b c,r a b->r b c->r a c):∀{l:List α},adj r l->l.Pairwise r
 | [],_=>.nil
 | [a],_=>by simp
 | a::b::l,h=>by
  have ih:=ki tr (l:=b::l) h.2;refine List.pairwise_cons.mpr ⟨fun c m=>?_,ih⟩;rcases G2.mp m with rfl | m
  ·exact h.1
  ·exact tr _ _ _ h.1 ((List.pairwise_cons.mp ih).1 c m)
theorem Kk{α:Type}{r:α->α->Prop}:∀{l:List α},l.Pairwise r->adj r l
 | [],_=>trivial
 | [a],_=>trivial
 | a::b::l,h=>by
  have h':=List.pairwise_cons.mp h;exact⟨h'.1 b Te,Kk h'.2⟩
theorem E4:∀ss:List Str,Jc (ss.map Th.str)=true↔adj ltS ss
 | []=>by simp[Jc,adj]
 | [a]=>by simp[Jc,adj]
 | a::b::l=>by
  have ih:=E4 (b::l);rw[R5,R5,Ir,Iq];rw[R5]at ih;rw[ih];show (decide (a.cps.toList<b.cps.toList)=true/\_)↔_;rw[decide_eq_true_iff];exact Iff.rfl
theorem E5:∀ss:List Int,Jc (ss.map Th.int)=true↔adj (· < ·) ss
 | []=>by simp[Jc,adj]
 | [a]=>by simp[Jc,adj]
 | a::b::l=>by
  have ih:=E5 (b::l);rw[R5,R5,Ir,Iq];rw[R5]at ih;rw[ih];show (decide (a<b)=true/\_)↔_;rw[decide_eq_true_iff];exact Iff.rfl
theorem Ol:∀{ns:List Str},sortedS ns=true->ns.Nodup->adj ltS ns
 | [],_,_=>trivial
 | [a],_,_=>trivial
 | a::b::l,h,n=>by
  have h':(!ltCps b.cps.toList a.cps.toList && risingS b l)=true:=h;rw[Iq]at h';have n':=List.nodup_cons.mp n;refine⟨ltS_of (fun z=>?_) (fun z=>?_),Ol (ns:=b::l) h'.2 n'.2⟩
  ·have:=h'.1;rw[vo,Gq (show b.cps.toList<a.cps.toList from z)]at this;cases this
  ·exact n'.1 (by rw[z];exact Te)
end K01
namespace L2
open PySem PySem.Spec PyProof.Rows
section
variable{X:Cx}
theorem j9{x z:Str}{pos:Pos}(hg:Gl X x)(hm:∃t,X.mg x=some (.str z t))(hd:(x == ("__debug__" : Str))=false:=by decide):PE X (.Name x pos) (tC (.str z)):=by
 obtain⟨t,hm⟩:=hm;exact zm hg hm ⟨t,rfl⟩ hd
theorem Bu{x:Str}{z:Int}{pos:Pos}(hg:Gl X x)(hm:∃t,X.mg x=some (.int z t))(hd:(x == ("__debug__" : Str))=false:=by decide):PE X (.Name x pos) (tC (.int z)):=by
 obtain⟨t,hm⟩:=hm;exact zm hg hm ⟨t,rfl⟩ hd
end
end L2
namespace RevA
open PySem
section
variable{prog:Program}{w:World}{A:Around}{E:Vt}{s:Shared}{r t:Addr}{its:Array Value}{i:Int}
def Zgk(h:Heap)(r t:Addr)(i:Int):Prop:=∃o,h.get? r=some o/\o.cls=.type "reversed" /\ o.data=.fields #[.ref t,rawInt i]
theorem Zgk.ty(x:Zgk s.heap r t i):s.TypeIs (.ref r) "reversed" := let ⟨o,ho,hc,_⟩:=x;⟨o,ho,hc⟩
end
end RevA
namespace RevA
open PySem PyProof.Rows
section
variable{prog:Program}{w:World}{A:Around}{E:Vt}{s:Shared}{r t:Addr}{its:Array Value}
end
section
variable{prog:Program}{w:World}{A:Around}{E:Vt}{s:Shared}{r t:Addr}{its:Array Value}
theorem Zgk.at{h h':Heap}{i:Int}(x:Zgk h r t i)(e:∀o,h.get? r=some o->h'.get? r=some o):Zgk h' r t i:=let ⟨o,ho,q⟩:=x;⟨o,e o ho,q⟩
end
section
variable{prog:Program}{w:World}{A:Around}{E:Vt}{s:Shared}{R:Result->Shared->Prop}{I S:Addr}{fp wr:List Addr}{n:Nat}{P:Nat->Value->Prop}{St:Nat->Heap->Prop}{T:String}
end
section
variable{prog:Program}{w:World}{A:Around}{E:Vt}{s:Shared}{I:Addr}{fp wr:List Addr}{n:Nat}{P:Nat->Value->Prop}{St:Nat->Heap->Prop}{T:String}
end
section
variable{prog:Program}{w:World}{A:Around}{E:Vt}{s:Shared}{r t:Addr}{its:Array Value}
end
section
variable{prog:Program}{w:World}{A:Around}{E:Vt}{s:Shared}{I:Addr}{fp wr:List Addr}{n:Nat}{P:Nat->Value->Prop}{St:Nat->Heap->Prop}{T:String}
end
section
variable{prog:Program}{w:World}{A:Around}{E:Vt}{s:Shared}
end
end RevA
namespace IdxT
open PySem PySem.SeqAt PySem.MeetsSeq
open PySem.AutoSeq1 (wpAny_loadPart')
end IdxT
namespace L2
open PySem PySem.Spec PyProof.Rows
section
variable{X:Cx}{p p2 pos M8:Pos}{a:Expr}{t:TA}
end
section
variable{X:Cx}{e:Expr}{t1 t2:TE}
end
section
variable{X:Cx}{p p2 pos M8:Pos}{a:Expr}{t:TA}
end
section
variable{X:Cx}
structure TopD(K:W.Frag)(w:World)(a:Addr):Prop where
 at':∃es n,K.lookup a=some ⟨.type "dict",none,.dict es n, #[]⟩/\W.KeysLit w.params es.toList
end
section
variable{X:Cx}{k:Nat}{C:Addr}{m x:Str}{ps:List Str}{sp:Sp}{o e:Expr}{es:List Expr}{ta:TE}{t:TA}{p pos apos:Pos}
end
end L2
namespace EnuT
open PySem
section
variable{prog:Program}{w:World}{A:Around}{E:Vt}{s:Shared}
theorem Zym{it t:Addr}{i:Nat}{its:Array Value}{x:Value}{Q:Vt}(hi:s.heap.IsTupleIter it t i)(ht:s.heap.IsTuple t its)(hx:its[i]?=some x)
  (q:∀h',h'.IsTupleIter it t (i+1)->Heap.SameBut it s.heap h'->Q x { s with heap:=h' }):wpAny (model prog w) A (Builtin.SmallTypes.nextOf (.ref it)) Q E s:=by
 obtain⟨u,hu,hc,hd⟩:=id hi;obtain⟨p,hp,_,n,dp⟩:=ht;unfold Builtin.SmallTypes.nextOf;refine Zo (wpAny_callSpecial?_slot (name:=Str.ofString "__next__") hi.typeIs F.slot_tuple_iterator_next (wpAny_call_entry F.slot_tuple_iterator_next hi.typeIs F.entry_tuple_iterator_next ?_ (F.args_tuple_iterator_next_1 _)));show wpAny _ _ (field (.ref it) 0 >>= _) _ _ s;refine Zo (wpAny_field hu hd (x:=.ref t) rfl ?_);show wpAny _ _ (if (Value.ref t == Value.none)=true then _ else _) _ _ s;rw[if_neg (show ¬ ((Value.ref t == Value.none)=true) from T7)];show wpAny _ _ (field (.ref it) 1 >>= _) _ _ s;refine Zo (wpAny_field hu hd (x:=.int i 0) rfl ?_);show wpAny _ _ (seqItems? (.ref t) >>= _) _ _ s;refine Zo (wpAny_seqItems hp dp ?_);simp only[Int.toNat_natCast,hx];refine Zo (wpAny_setField hu hd (by simp) (Y7 ⟨x,rfl,Y7 (q _ ?_ (Heap.SameBut.update ..))⟩));exact⟨_,Heap.get?_update_self _ hu (Obj.isFreed_of_fields (Obj.data_mapFields hd _)),(Obj.cls_mapFields ..).trans hc,by rw[Obj.data_mapFields hd];simp[rawInt]⟩
theorem endT{it t:Addr}{i:Nat}{its:Array Value}{Q:Vt}(hh:A.handled=none)(hi:s.heap.IsTupleIter it t i)(ht:s.heap.IsTuple t its)(hx:its[i]?=none)
  (q:∀h' e,Heap.ExtBut it s.heap h'->(∃o,h'.get? e=some o/\o.cls=.type "StopIteration")->E (.ref e) { s with heap:=h' }):wpAny (model prog w) A (Builtin.SmallTypes.nextOf (.ref it)) Q E s:=by
 obtain⟨u,hu,hc,hd⟩:=id hi;obtain⟨p,hp,_,n,dp⟩:=ht;unfold Builtin.SmallTypes.nextOf;refine Zo (wpAny_callSpecial?_slot (name:=Str.ofString "__next__") hi.typeIs F.slot_tuple_iterator_next (wpAny_call_entry F.slot_tuple_iterator_next hi.typeIs F.entry_tuple_iterator_next ?_ (F.args_tuple_iterator_next_1 _)));show wpAny _ _ (field (.ref it) 0 >>= _) _ _ s;refine Zo (wpAny_field hu hd (x:=.ref t) rfl ?_);show wpAny _ _ (if (Value.ref t == Value.none)=true then _ else _) _ _ s;rw[if_neg (show ¬ ((Value.ref t == Value.none)=true) from T7)];show wpAny _ _ (field (.ref it) 1 >>= _) _ _ s;refine Zo (wpAny_field hu hd (x:=.int i 0) rfl ?_);show wpAny _ _ (seqItems? (.ref t) >>= _) _ _ s;refine Zo (wpAny_seqItems hp dp ?_);simp only[Int.toNat_natCast,hx];refine Zo (wpAny_rule (Zo (wpAny_setField hu hd (by simp) ?_)));show wpAny _ _ (newExc (.type "StopIteration") [] >>= _) _ _ _;refine Zo ?_;simp only[newExc,newTuple];refine Zo (wpAny_newObj_type ?_ (by size_fits));refine Zo (m:=firstArgMember _ _) (wpAny_of_eq (a:=Value.none) (by first | rfl | (simp only[firstArgMember];rfl)) ?_);refine wpAny_newObj_type ?_ (by size_fits);simp only[raiseNew];refine Zo (wpAny_handled ?_)
 first | rw[show A.in1.handled=none from hh] | rw[hh]
 refine Zo (Y7 (wpAny_throw ?_));exact q _ _ (((Heap.SameBut.update ..).extBut.push _).push _) ⟨_,Rj _ rfl,rfl⟩
end
section
variable{prog:Program}{w:World}{A:Around}{E:Vt}{s:Shared}
end
end EnuT
namespace L2
open PySem PySem.Spec PyProof.Rows
section
variable{X:Cx}{es:List Expr}{k:Nat}{p2 pos M8:Pos}{a:Expr}{t:TA}
end
section
variable{X:Cx}
end
section
variable{X:Cx}{p p2 pos M8:Pos}{a b:Expr}{t:TA}
end
end L2
namespace EX
open PySem
structure Noted(l:List Env)(e T:Addr)(oe:Obj)(h h':Heap):Prop where
 keep:∀b o,b≠e->b ∉ l.filterMap (·.frame)->h.get? b=some o->h'.get? b=some o
 slot:∀b o,b≠e->h.get? b=some o->∃sl,h'.get? b=some { o with slots:=sl }
 exc:h'.get? e=some (oe.mapFields (·.setIfInBounds 1 (.ref T)))
 new:h.objs.size<=T
 tb:∃oT ts,h'.get? T=some oT/\oT.data=.fields ts/\3<ts.size
section
variable{M:Model}{A:Around}{E:Vt}{s:Shared}{env:Env}{outer:List Env}{base:Heap}{L e T:Addr}{oe:Obj}{vs:Array Value}{Q:Unit->Shared->Prop}
end
abbrev Lk{α:Type}(M:Model)(h:Heap)(t:Sem α)(r:α):Prop :=
 ∀(A:Around) (Q:α->Shared->Prop) (E:Vt) (s:Shared),(∀b o,h.get? b=some o->s.heap.get? b=some o)->Q r s->wpAny M A t Q E s
section
variable{M:Model}{A:Around}{E:Vt}{s:Shared}{env:Env}
end
section
variable{M:Model}{A:Around}{E:Vt}{s:Shared}{env:Env}
end
section
variable{prog:Program}{w:World}{A:Around}{E:Vt}{s:Shared}{env:Env}
end
section
variable{prog:Program}{w:World}{A:Around}{E:Vt}{h:Heap}{g:Array GenState}{d:Drawn}{t:Nat}{os:OsState}
variable{nm q:Str}{C N:Addr}{bs bm bmB:List Value}{hdct:Bool}{sn:List Str}{sub:List Value}{ab:Bool}{col:Option Bool}{dd:Option Addr}{k0 k1 k2 k3 k5:Option Value}{B newId initId:String}
abbrev tupO(Mm:List Value):Obj:={ cls:=.type "tuple",data:=.seq Mm.toArray }
abbrev excO(C t:Addr):Obj:={ cls:=.ref C,data:=.fields #[.ref t,.none,.none,.none,.bool false,.none] }
abbrev made(h:Heap)(C:Addr)(Mm:List Value):Heap:=(h.push (tupO Mm)).push (excO C h.objs.size)
end
section
variable{prog:Program}{w:World}{A:Around}{E:Vt}{h:Heap}{g:Array GenState}{d:Drawn}{t:Nat}{os:OsState}
variable{nm q:Str}{C N:Addr}{bs bm bmB:List Value}{hdct:Bool}{sn:List Str}{sub:List Value}{ab:Bool}{col:Option Bool}{dd:Option Addr}{k0 k1 k2 k3 k5:Option Value}{B newId initId:String}
end
end EX
namespace EX
open PySem Builtin Builtin.ObjectAttr
structure SetOk(M:Model)(h:Heap)(x C:Addr)(name:Str):Prop where
 sa:Lk M h (typeLookup (.ref C) "__setattr__") (some (.builtin "object.__setattr__"))
 no:Lk M h (typeLookup (.ref C) name) none
 rf:Lk M h (refuseIfOverridden (.ref x) "__setattr__") ()
 ob:Lk M h (isSubtype (.ref C) (.type "object")) true
 cd:∃cd,Lk M h (classData C) cd/\cd.hasDict=true
structure SaFacts:Prop where
 slot:Slot "object" "__setattr__" "object.__setattr__"
 entry:entryFor table "object.__setattr__" = some Builtin.«object.__setattr__»
 kind:builtinKind "object.__setattr__" = some .slot
 split:splitId "object.__setattr__" = some ("object","__setattr__")
 args:∀a b c:Value,argsOk "object.__setattr__" ⟨[a,b,c],[]⟩
section
variable{prog:Program}{w:World}{A:Around}{E:Vt}{s:Shared}{x C:Addr}{o:Obj}{name:Str}{v:Value}
end
structure GetOk(M:Model)(h:Heap)(C:Addr)(name:Str):Prop where
 ga:Lk M h (typeLookup (.ref C) "__getattribute__") (some (.builtin "BaseException.__getattribute__"))
 hk:Lk M h (typeLookup (.ref C) "__getattr__") none
 no:Lk M h (typeLookup (.ref C) name) none
 ob:Lk M h (isSubtype (.ref C) (.type "BaseException")) true
 cd:∃cd,Lk M h (classData C) cd/\cd.hasDict=true
section
variable{prog:Program}{w:World}{A:Around}{E:Vt}{s:Shared}{x C dx:Addr}{o:Obj}{name:Str}{v:Value}{mA:Bw}{vs:Array Value}
end
end EX
namespace EX
open PySem
section
variable{prog:Program}{w:World}{A:Around}{E:Vt}{h:Heap}{g:Array GenState}{d:Drawn}{t:Nat}{os:OsState}
variable{nm q:Str}{C N:Addr}{bs bm bmB:List Value}{hdct:Bool}{sn:List Str}{sub:List Value}{ab:Bool}{col:Option Bool}{dd:Option Addr}{k0 k1 k2 k3 k5:Option Value}{B newId initId:String}
end
end EX
namespace EX
open PySem PySem.W Builtin Builtin.ObjectAttr
section
variable{prog:Program}{w:World}{A:Around}{E:Vt}{s:Shared}{x C:Addr}{o:Obj}{od:Option Obj}{K:Frag}
end
end EX
namespace L2
open PySem PySem.Spec PyProof.Rows
def XO(a C:Addr)(od:Option Addr)(new:Bool)(h:Heap):Prop:=∃vs sl,h.get? a=some ⟨.ref C,od,.fields vs,sl⟩/\1<vs.size/\(new=true->vs[1]?=some .none)
abbrev XHO(a C:Addr)(od:Option Addr)(new:Bool):HO:=.ext (XO a C od new)
def DO(a:Addr)(fs:List (Str×V))(h:Heap):Prop:=fs.length<=100/\∃mA,h.Ns1 a mA/\(∀f,Qi (fs.lookup f) (mA f))/\PySem.Within mA (fs.map (·.1))
abbrev DHO(a:Addr)(fs:List (Str×V)):HO:=.ext (DO a fs)
section
variable{P:Program}{w:World}{H:Hp}{h:Heap}{a C:Addr}{od:Option Addr}{new:Bool}{fs:List (Str×V)}
theorem XO.ok(x:XO a C od new h):Vq P w H h a (XHO a C od new):=by
 obtain⟨vs,sl,e,z⟩:=x;exact⟨⟨vs,sl,e,z⟩,⟨_,e⟩,fun h1 h2 ⟨vs,sl,e,z⟩ k=>⟨vs,sl,k _ e,z⟩⟩
theorem DO.ok(x:DO a fs h):Vq P w H h a (DHO a fs):=by
 obtain⟨z,mA,⟨o,es,ep,e,r⟩,q⟩:=x;exact⟨⟨z,mA,⟨o,es,ep,e,r⟩,q⟩,⟨o,e⟩,fun h1 h2 ⟨z,mA,⟨o,es,ep,e,r⟩,q⟩ k=>⟨z,mA,⟨o,es,ep,k _ e,r⟩,q⟩⟩
theorem R6.xo(x:R6 P w H h)(e:H a=some (XHO a C od new)):XO a C od new h:=(x a _ e).1
end
def Zwj:List Value:=[.type "ValueError",.type "Exception",.type "BaseException",.type "object"]
def Zyz:List Value->Bool
 | .ref _::r=>Zyz r
 | l=>l == Zwj
structure XCls(K:W.Frag)(C:Addr):Prop where
 sa:W.findIn K (.ref C) "__setattr__" = some (some (.builtin "object.__setattr__"))
 ga:W.findIn K (.ref C) "__getattribute__" = some (some (.builtin "BaseException.__getattribute__"))
 hk:W.findIn K (.ref C) "__getattr__" = some none
 ca:W.findIn K (.ref C) "__class__" = some (some (.builtin "object.__class__"))
 be:W.mroIn K C (.type "BaseException")=some true
 ob:W.mroIn K C (.type "object")=some true
 hd:W.hasDictIn K C=true
 ty:W.typeIn K (.ref C)=some (.type "type")
 rf:((W.clsIn K C).any fun cd=>Zyz cd.mro)=true
 gs:W.specialIn K (.builtin "object.__class__") "__get__" = some (some (.builtin "getset_descriptor.__get__"))
 tk:W.takesIn K (.builtin "object.__class__")=some true
section
variable{K:W.Frag}{C x:Addr}{M:Model}{h:Heap}{f:Str}{o:Obj}
end
section
variable{X:Cx}{pins:Uv}{σ:St}{H:Hp}{s:Shared}{h':Heap}{t':Nat}
end
section
variable{X:Cx}{o e value:Expr}{f:Str}{pos pos':Pos}{ta tv:TE}
end
def xIn(K:W.Frag)(C:Addr):Bool :=
 match K.lookup C with
 | some ⟨.type "type",_,.cls cd,⟨[_,_,_,_,some (.builtin n),_]⟩⟩=>match cd.mro with
  | .ref C'::bm=>C' == C && n == "ValueError.__new__" && !cd.hasDel && W.tailIn K Zwj bm
  | _=>false
 | _=>false
structure XMk(K:W.Frag)(C f:Addr):Prop where
 made:xIn K C=true
 init:W.findIn K (.ref C) "__init__" = some (some (.ref f))
 fn:W.isFn K (.ref f)=true
 kp:W.keepIn K (.ref C)=true
structure XMk0(K:W.Frag)(C:Addr):Prop where
 made:xIn K C=true
 init:W.findIn K (.ref C) "__init__" = some (some (.builtin "ValueError.__init__"))
 kp:W.keepIn K (.ref C)=true
section
variable{X:Cx}{CX:fh}{k:Nat}{f C:Addr}{fd:FuncData}{ps:List Str}{sp:Sp}{E:XK}{x m:Str}{p pos:Pos}{e:Expr}{es:List Expr}{t:TA}
end
def Cx.tr(X:Cx)(pn:Uv)(W:St->Hp->Addr->Addr->Option Addr->Prop):Cx:={ X with pn:=pn,xe:=fun v s'=>∃e σ' H' C od,v=.ref e/\Zi { X with pn:=pn } [] σ' H' s'/\H' e=some (XHO e C od true)/\W σ' H' e C od }
def Cx.ec(X:Cx)(e:Addr):Cx:={ X with A:=X.A.mark (some (.ref e)),calm:=false,xe:=fun _ _=>False }
section
variable{X:Cx}{pins pn:Uv}{σ:St}{H:Hp}{s:Shared}{e:Addr}{W:St->Hp->Addr->Addr->Option Addr->Prop}
end
section
variable{X:Cx}{pins:Uv}{σ:St}{H:Hp}{s:Shared}
end
section
variable{X:Cx}{W:St->Hp->Addr->Addr->Option Addr->Prop}
end
section
variable{X:Cx}
end
section
variable{X:Cx}
end
end L2
namespace EX
open PySem
def QV(h:Heap)(vs:Array Value):Prop:=vs[1]?=some .none\/∃T oT ts,vs[1]?=some (.ref T)/\h.get? T=some oT/\oT.data=.fields ts/\ts[3]?=some .none
section
variable{M:Model}{A:Around}{E:Vt}{s:Shared}{env:Env}{outer:List Env}{base:Heap}{L e T:Addr}{oe:Obj}{vs:Array Value}{Q:Unit->Shared->Prop}
end
end EX
namespace L2
open PySem PySem.Spec PyProof.Rows
def QX(h:Heap)(a:Addr):Prop:=∃oe vs,h.get? a=some oe/\oe.data=.fields vs/\EX.QV h vs
abbrev XWT:=St->Hp->Addr->Addr->Option Addr->Prop
def CX1(P:Program)(w:World):fh:=fun outer H s E v s'=>∃a H' C od,v=.ref a/\s'.os=s.os/\AllBare s'.gens/\Un (frs outer) [] H H' s.heap s'.heap/\R6 P w H' s'.heap/\H' a=some (XHO a C od false)/\QX s'.heap a/\E (.ref C) od H'
section
variable{X:Cx}{pins:Uv}{σ:St}{H:Hp}{s s':Shared}
end
section
variable{P:Program}{w:World}{K:W.Frag}{mg:Bw}{base:Heap}
end
def FnX(P:Program)(w:World)(K:W.Frag)(mg:Bw)(base:Heap)(k:Nat)(x:Str)(ps:List Str)(sp:Sp):Prop :=
 ∃f fd,Yn P w K mg base (CX1 P w) k f fd ps sp/\G5 K fd ps []/\W.keepIn K (.ref f)=true/\mg x=some (.ref f)
section
variable{X:Cx}{W:XWT}{k:Nat}{x:Str}{ps:List Str}{sp:Sp}{p pos:Pos}{e:Expr}{es:List Expr}{t:TA}{te:TE}
end
def Cx.tx(X:Cx)(pn:Uv)(W:XWT):Cx:={ X with pn:=pn,xe:=fun v s'=>∃e σ' H' C od new,v=.ref e/\Zi { X with pn:=pn } [] σ' H' s'/\H' e=some (XHO e C od new)/\QX s'.heap e/\W σ' (Yq H' e (XHO e C od false)) e C od }
section
variable{X:Cx}{pins pn:Uv}{σ:St}{H:Hp}{s:Shared}{e:Addr}{W:XWT}
end
section
variable{X:Cx}
end
section
variable{X:Cx}
end
section
variable{X:Cx}{pins:Uv}{σ:St}{H:Hp}{s:Shared}
end
section
variable{X:Cx}{W:XWT}{k:Nat}{f C:Addr}{fd:FuncData}{m:Str}{ps:List Str}{sp:Sp}{o e:Expr}{es:List Expr}{ta:TE}{t:TA}{p pos apos:Pos}
end
section
variable{X:Cx}
end
structure XOk(K:W.Frag)(C:Addr)(as:List Addr)(x:Str):Prop where
 xc:XCls K C
 mro:∀b,W.mroIn K C b=some ((as.map Value.ref++Zwj).contains b)
 here:(W.clsIn K C).isSome=true
 no:NoAttr K C x
 made:xIn K C=true
 kp:W.keepIn K (.ref C)=true
theorem XOk.up{K:W.Frag}{C M:Addr}{y:Str}(x:XOk K C [C,M] y):W.mroIn K C (.ref M)=some true:=by
 rw[x.mro]
 congr 1
 rw[List.contains_iff_mem];simp
theorem Yn.noX{P:Program}{w:World}{K:W.Frag}{mg:Bw}{base:Heap}{k:Nat}{f:Addr}{fd:FuncData}{ps:List Str}{sp:Sp}(F:Yn P w K mg base (CX1 P w) k f fd ps sp) :
  Yn P w K mg base Je k f fd ps (fun vs H Q _=>sp vs H Q E0) :=
 ⟨fun vs H Q E h=>F.len vs H Q E0 h,fun A outer s H args us vs Q E hr he hb hv h=>codeAny_mono (F.run A outer s H args us vs Q E0 hr he hb hv h) fun r s' q=>by
  cases r with
  | ok v=>cases v<;>exact q
  | error v =>
   obtain⟨a,H',C,od,_,_,_,_,_,_,_,z⟩:=q;exact z.elim⟩
theorem FnX.fn{P:Program}{w:World}{K:W.Frag}{mg:Bw}{base:Heap}{k:Nat}{x:Str}{ps:List Str}{sp:Sp}(G:FnX P w K mg base k x ps sp):Fn P w K mg base k x ps (fun vs H Q _=>sp vs H Q E0):=by
 obtain⟨f,fd,F,r⟩:=G;exact⟨f,fd,F.noX,r⟩
inductive Zfp(x:V)(hi:Option Int)(H:Hp)(Q:VK):Prop
 | mk(z:Str)(Vg:x=.str z)(Vk:z.length<=sizeLine)(V1:∀z':Str,z'.length<=z.length->(∀k:Nat,hi=some (k:Int)->z'.length<=k)->(∀c∈z'.cps.toList,c∈z.cps.toList)->Q (.str z') H)
def rSlSg:V->Option Int->Option Int->Hp->VK->Prop:=fun x _ hi H Q=>Zfp x hi H Q
theorem Zva(x:Str)(is:List Nat):∀c∈(Str.mk (is.filterMap (x.cps[·]?)).toArray).cps.toList,c∈x.cps.toList:=fun c m=>by
 have m:c∈is.filterMap (x.cps[·]?):=by simpa using m
 obtain⟨i,_,e⟩:=List.mem_filterMap.mp m;have:=Array.mem_of_getElem? e;exact Array.mem_toList_iff.mpr this
theorem ix_hi(l:Option Int)(k n:Nat):(Builtin.Str.strSliceIndices l (some (k:Int)) 1 n).length<=k:=by
 unfold Builtin.Str.strSliceIndices sliceRange;cases l<;>simp only[show (1:Int)>0 by decide,if_true,Yp,List.length_range]<;>(split<;>(try split)<;>(try split)<;>(try simp only[Int.ediv_one])<;>omega)
theorem Zvy(x:Str)(l:Option Int)(k:Nat):(Txt.slice x l (some (k:Int))).length<=k:=by
 have h:=ix_hi l k x.length;unfold Txt.slice
 split
 ·rename_i c
  simp only[Iq,beq_iff_eq]at c;omega
 ·show (List.filterMap _ (Builtin.Str.strSliceIndices l (some (k:Int)) 1 x.length)).toArray.size<=k;rw[Dy];exact Gw (List.length_filterMap_le _ _) h
theorem Zxr(x:Str)(l u:Option Int):∀c∈(Txt.slice x l u).cps.toList,c∈x.cps.toList:=by
 unfold Txt.slice
 split
 ·exact fun _ m=>m
 ·exact Zva x _
section
variable{X:Cx}{e:Expr}{te t1 t2:TE}{p2 p3 p4 pos:Pos}{j1:Nat}
theorem Zfb:SlR X rSlSg:=by
 intro pins s σ H x v vl vu lo hi sl Q I rx hs pl pu h;obtain⟨z,rfl,hz,q⟩:=h;obtain⟨t,rfl⟩:=rx;have q':∀(l u:Option Int) (t':Tok) (k:Nat),u=hi->EP X pins σ Q (.str (Txt.slice z l u) t') { s with toks:=k }:=fun l u t' k e=>⟨.str _,H,I.tok _,⟨t',rfl⟩,q _ (Txt.slice_le z l u) (fun k ek=>by rw[e,ek];exact Zvy z l k) (Zxr z l u)⟩;refine⟨"str",_,PySem.F.slot_str_getitem.lookup,typeIs_str _ _ _, ?_⟩;cases pl with
 | none=>cases pu with
  | none=>exact wpAny_getItem_str_slice (l:=none) (u:=none) (st:=none) hs rfl (post_val_or_str ⟨Gw (Txt.slice_le z _ _) hz,fun t' k=>q' none none t' k rfl⟩)
  | int j uj=>exact wpAny_getItem_str_slice (l:=none) (u:=some (j,uj)) (st:=none) hs rfl (post_val_or_str ⟨Gw (Txt.slice_le z _ _) hz,fun t' k=>q' none (some j) t' k rfl⟩)
 | int i ui=>cases pu with
  | none=>exact wpAny_getItem_str_slice (l:=some (i,ui)) (u:=none) (st:=none) hs rfl (post_val_or_str ⟨Gw (Txt.slice_le z _ _) hz,fun t' k=>q' (some i) none t' k rfl⟩)
  | int j uj=>exact wpAny_getItem_str_slice (l:=some (i,ui)) (u:=some (j,uj)) (st:=none) hs rfl (post_val_or_str ⟨Gw (Txt.slice_le z _ _) hz,fun t' k=>q' (some i) (some j) t' k rfl⟩)
def C0:List Expr->List Int->Bool
 | [],[]=>true
 | .Constant (.int k) _ _::es,n::ns=>k == n && C0 es ns
 | _,_=>false
def Zm6:List Int->TA
 | []=>tNil
 | n::ns=>Zwd (tC (.int n)) (Zm6 ns)
theorem Mt{es:List Expr}(ns:List Int)(h:C0 es ns=true):PA X es (Zm6 ns):=by
 induction es generalizing ns with
 | nil=>cases ns with
  | nil=>exact Zx
  | cons n ns=>simp[C0]at h
 | cons e es ih =>
  cases ns with
  | nil=>simp[C0]at h
  | cons n ns =>
   cases e with
   | Constant c j p =>
    cases c with
    | int k =>
     have h':(k == n)=true/\C0 es ns=true:=by simpa [C0,Iq] using h
     obtain rfl:=beq_iff_eq.mp h'.1;exact Zj Zq (ih ns h'.2) rfl
    | _=>simp[C0]at h
   | _=>simp[C0]at h
end
section
variable{κ:Type}[DecidableEq κ]
def Bt(kvs:List (κ×V))(k:κ):Option V:=(kvs.find? fun kv=>decide (kv.1=k)).map (·.2)
def Fh(kvs:List (κ×V))(k:κ)(v:V):List (κ×V) :=
 if (kvs.any fun kv=>decide (kv.1=k))=true then kvs.map (fun kv=>if kv.1=k then (kv.1,v) else kv) else kvs++[(k,v)]
def Zdc(kvs:List (κ×V))(k:κ):List (κ×V):=kvs.filter fun kv=>decide (kv.1≠k)
theorem Fw{p:κ×V}{r:List (κ×V)}{k:κ}(e:p.1=k):Bt (p::r) k=some p.2:=by simp[Bt,List.find?_cons,e]
theorem Fv{p:κ×V}{r:List (κ×V)}{k:κ}(e:¬ p.1=k):Bt (p::r) k=Bt r k:=by simp[Bt,List.find?_cons,e]
theorem Ec(k:κ):∀kvs:List (κ×V),(kvs.any fun kv=>decide (kv.1=k))=(Bt kvs k).isSome
 | []=>rfl
 | p::r=>by
  rw[List.any_cons];by_cases e:p.1=k
  ·simp only[Fw e,Gq e,Bool.true_or,Option.isSome_some]
  ·rw[Fv e,My e,Bool.false_or];exact Ec k r
theorem Oi(kvs:List (κ×V))(k:κ)(v:V):(Fh kvs k v).length<=kvs.length+1:=by
 unfold Fh
 split
 ·rw[Yp];omega
 ·rw[Xs,S6,List.length_nil];omega
theorem Zvp{kvs:List (κ×V)}{k:κ}(v:V)(h:Bt kvs k=none):Fh kvs k v=kvs++[(k,v)]:=by
 unfold Fh;rw[Ec,h];exact if_neg (by decide)
theorem Qi.isSome_eq{o:Option V}{u:Option Value}(r:Qi o u):o.isSome=u.isSome:=by
 cases o with
 | none=>cases u with
  | none=>rfl
  | some _=>exact(show False from r).elim
 | some _=>cases u with
  | none=>exact(show False from r).elim
  | some _=>rfl
theorem Qi.getD{o:Option V}{u:Option Value}{d:V}{d':Value}(r:Qi o u)(rd:Z9 d d'):Z9 (o.getD d) (u.getD d'):=by
 cases o with
 | none=>cases u with
  | none=>exact rd
  | some _=>exact(show False from r).elim
 | some _=>cases u with
  | none=>exact(show False from r).elim
  | some _=>exact r
theorem KV.val{kvs:List (κ×V)}{vs:List (κ×Value)}(r:KV kvs vs)(k:κ):Qi (Bt kvs k) (valueAt vs k):=by
 unfold KV at r
 induction r with
 | nil=>exact True.intro
 | @cons p q ps qs h t ih =>
  obtain⟨h1,h2⟩:=h;by_cases e:p.1=k
  ·have e':q.1=k:=h1.symm.trans e;have b:valueAt (q::qs) k=some q.2:=by simp[valueAt,List.find?_cons,e']
   rw[Fw e,b];exact h2
  ·have e':¬ q.1=k:=fun z=>e (h1.trans z);have b:valueAt (q::qs) k=valueAt qs k:=by simp[valueAt,List.find?_cons,e']
   rw[Fv e,b];exact ih
theorem KV.any{kvs:List (κ×V)}{vs:List (κ×Value)}(r:KV kvs vs)(k:κ):(kvs.any fun kv=>decide (kv.1=k))=vs.any fun kv=>decide (kv.1=k):=by
 unfold KV at r
 induction r with
 | nil=>rfl
 | cons h t ih=>rw[List.any_cons,List.any_cons,ih,h.1]
theorem KV.repl{kvs:List (κ×V)}{vs:List (κ×Value)}(r:KV kvs vs)(k:κ){y:V}{u:Value}(ry:Z9 y u) :
  KV (kvs.map fun kv=>if kv.1=k then (kv.1,y) else kv) (vs.map fun kv=>if kv.1=k then (kv.1,u) else kv):=by
 unfold KV at r ⊢
 induction r with
 | nil=>exact .nil
 | @cons p q ps qs h t ih =>
  rw[R5,R5];refine .cons ?_ ih;obtain⟨h1,h2⟩:=h;by_cases e:p.1=k
  ·rw[if_pos e,if_pos (h1.symm.trans e)];exact⟨h1,ry⟩
  ·rw[if_neg e,if_neg (fun z=>e (h1.trans z))];exact⟨h1,h2⟩
theorem KV.put{kvs:List (κ×V)}{vs:List (κ×Value)}(r:KV kvs vs)(k:κ){y:V}{u:Value}(ry:Z9 y u):KV (Fh kvs k y) (stored vs k u):=by
 unfold Fh stored;rw[r.any k];by_cases e:(vs.any fun kv=>decide (kv.1=k))=true
 ·rw[if_pos e,if_pos e];exact r.repl k ry
 ·rw[if_neg e,if_neg e];exact Paired.snoc r ⟨rfl,ry⟩
theorem KV.drop{kvs:List (κ×V)}{vs:List (κ×Value)}(r:KV kvs vs)(k:κ):KV (Zdc kvs k) (without vs k):=by
 unfold KV at r ⊢;unfold Zdc without
 induction r with
 | nil=>exact .nil
 | @cons p q ps qs h t ih =>
  obtain⟨h1,h2⟩:=h;rw[List.filter_cons,List.filter_cons];by_cases e:p.1=k
  ·have a:¬ decide (p.1≠k)=true:=by simp[e]
   have b:¬ decide (q.1≠k)=true:=by simp[h1.symm.trans e]
   rw[if_neg a,if_neg b];exact ih
  ·have e':¬ q.1=k:=fun z=>e (h1.trans z);have a:decide (p.1≠k)=true:=by simp[e]
   have b:decide (q.1≠k)=true:=by simp[e']
   rw[if_pos a,if_pos b];exact .cons ⟨h1,h2⟩ ih
theorem KV.keys{kvs:List (κ×V)}{vs:List (κ×Value)}(r:KV kvs vs):kvs.map (·.1)=vs.map (·.1):=by
 unfold KV at r
 induction r with
 | nil=>rfl
 | cons h t ih=>rw[R5,R5,ih,h.1]
theorem KV.length{kvs:List (κ×V)}{vs:List (κ×Value)}(r:KV kvs vs):kvs.length=vs.length:=Paired.length r
end
theorem Xz{P:Program}{w:World}{k:Um}{u:Value}(r:Z9 (kV k) u):(Y2 P w).is k u=true:=by
 cases k with
 | inl i=>obtain⟨t,e⟩:=(show ∃t,u=Value.int i t from r);subst e;exact vj P w i t
 | inr x=>obtain⟨t,e⟩:=(show ∃t,u=Value.str x t from r);subst e;exact vq P w x t
theorem Xx{P:Program}{w:World}:∀{ks:List Um} {us:List Value},Yb (ks.map kV) us->ItemsAre (Y2 P w) ks us
 | [],_,r=>by rw[List.map_nil]at r;cases r;exact .nil
 | k::ks,_,r=>by
  rw[R5]at r;cases r with
  | cons h t=>exact .cons (Xz h) (Xx t)
abbrev KT(H:Hp):List (List Um×V)->List (List Um×Addr×Value)->Prop:=Paired fun p q=>p.1=q.1/\H q.2.1=some (.tup (p.1.map kV))/\Z9 p.2 q.2.2
theorem KT.val{H:Hp}{kvs:List (List Um×V)}{xs:List (List Um×Addr×Value)}(r:KT H kvs xs)(k:List Um):Qi (Bt kvs k) ((atKey xs k).map (·.2)):=by
 induction r with
 | nil=>exact True.intro
 | @cons p q ps qs h t ih =>
  obtain⟨h1,_,h2⟩:=h;by_cases e:p.1=k
  ·have e':q.1=k:=h1.symm.trans e;have b:atKey (q::qs) k=some q.2:=by simp[atKey,List.find?_cons,e']
   rw[Fw e,b];exact h2
  ·have e':¬ q.1=k:=fun z=>e (h1.trans z);have b:atKey (q::qs) k=atKey qs k:=by simp[atKey,List.find?_cons,e']
   rw[Fv e,b];exact ih
theorem KT.repl{H:Hp}{kvs:List (List Um×V)}{xs:List (List Um×Addr×Value)}(r:KT H kvs xs)(k:List Um){y:V}{u:Value}(ry:Z9 y u) :
  KT H (kvs.map fun kv=>if kv.1=k then (kv.1,y) else kv) (xs.map (putAt k u)):=by
 induction r with
 | nil=>exact .nil
 | @cons p q ps qs h t ih =>
  rw[R5,R5];refine .cons ?_ ih;obtain⟨h1,h2,h3⟩:=h;unfold putAt;by_cases e:p.1=k
  ·rw[if_pos e,if_pos (h1.symm.trans e)];exact⟨h1,h2,ry⟩
  ·rw[if_neg e,if_neg (fun z=>e (h1.trans z))];exact⟨h1,h2,h3⟩
theorem KT.put{H:Hp}{kvs:List (List Um×V)}{xs:List (List Um×Addr×Value)}(r:KT H kvs xs)(k:List Um){b:Addr}{y:V}{u:Value}(hb:H b=some (.tup (k.map kV)))(ry:Z9 y u) :
  KT H (Fh kvs k y) (storedH xs k b u):=by
 have e:(kvs.any fun kv=>decide (kv.1=k))=(atKey xs k).isSome:=by
  rw[Ec,(r.val k).isSome_eq,Option.isSome_map]
 unfold Fh storedH;rw[e];by_cases q:(atKey xs k).isSome=true
 ·rw[if_pos q,if_pos q];exact r.repl k ry
 ·rw[if_neg q,if_neg q];exact Paired.snoc r ⟨rfl,hb,ry⟩
theorem KT.keeps{H H':Hp}{kvs:List (List Um×V)}{xs:List (List Um×Addr×Value)}(r:KT H kvs xs)(ht:∀b ys,H b=some (.tup ys)->H' b=some (.tup ys)):KT H' kvs xs :=
 Paired.mapP r fun _ _ z=>⟨z.1,ht _ _ z.2.1,z.2.2⟩
section
variable{P:Program}{w:World}{H:Hp}{h:Heap}{a:Addr}
theorem Zdx{u:HO}(ok:R6 P w H h)(e:Rd H a u):Vq P w H h a u:=e.ok ok
theorem O5{kvs:List (Um×V)}(ok:R6 P w H h)(e:Rd H a (.dK kvs)):kvs.length<=sizeLine/\(a == sysModules)=false/\∃vs,KV kvs vs/\h.DictOf (Y2 P w) a vs :=
 show Vq P w H h a (.dK kvs) from Zdx ok e
theorem dk_of{kvs:List (Um×V)}(ok:R6 P w H h)(e:H a=some (.dK kvs)):kvs.length<=sizeLine/\(a == sysModules)=false/\∃vs,KV kvs vs/\h.DictOf (Y2 P w) a vs:=O5 ok (.inl e)
theorem Pe{ks:List Um}(ok:R6 P w H h)(e:H a=some (.tup (ks.map kV))):(tupleKind (Y2 P w)).is h ks a:=by
 obtain⟨_,its,r,o,h1,h2,⟨n,h3⟩,_⟩:=(show Vq P w H h a (.tup (ks.map kV)) from ok a _ e);exact⟨o,its.toArray,n,h1,h2,h3,by simpa using Xx r⟩
theorem Hj{kvs:List (List Um×V)}(ok:R6 P w H h)(e:Rd H a (.dT kvs)):kvs.length<=sizeLine/\(a == sysModules)=false /\
  ∃xs,KT H kvs xs/\h.DictOfH (tupleKind (Y2 P w)) a xs:=by
 obtain⟨z,y,xs,r,o,es,ep,h1,h2,h3,h4,h5⟩:=(show Vq P w H h a (.dT kvs) from Zdx ok e);refine⟨z,y,xs,r,o,es,ep,h1,h2,h3,h4,fun x hx=>?_,h5⟩
 have all:∀{l:List (List Um×V)} {m:List (List Um×Addr×Value)},KT H l m->∀x∈m,(tupleKind (Y2 P w)).is h x.1 x.2.1:=by
  intro l m q
  induction q with
  | nil=>intro x hx;exact nomatch hx
  | @cons p q ps qs hq t ih =>
   intro x hx;rcases G2.mp hx with e | hx
   ·subst e;exact Pe ok (by rw[<-hq.1];exact hq.2.1)
   ·exact ih x hx
 exact all r x hx
theorem dt_of{kvs:List (List Um×V)}(ok:R6 P w H h)(e:H a=some (.dT kvs)):kvs.length<=sizeLine/\(a == sysModules)=false /\
  ∃xs,KT H kvs xs/\h.DictOfH (tupleKind (Y2 P w)) a xs:=Hj ok (.inl e)
end
def Nl(H:Hp)(a:Addr)(y:V)(r:Option V):Prop :=
 (∃kvs k,Rd H a (.dK kvs)/\y=kV k/\r=Bt kvs k)\/∃kvs k b,Rd H a (.dT kvs)/\y=.ref b/\H b=some (.tup (k.map kV))/\r=Bt kvs k
def uu(H:Hp)(a:Addr)(y v:V)(H':Hp):Prop :=
 (∃kvs k,H a=some (.dK kvs)/\y=kV k/\kvs.length<sizeLine/\H'=Yq H a (.dK (Fh kvs k v))) \/
 ∃kvs k b,H a=some (.dT kvs)/\y=.ref b/\H b=some (.tup (k.map kV))/\kvs.length<sizeLine/\H'=Yq H a (.dT (Fh kvs k v))
theorem Nl.k{H:Hp}{a:Addr}{kvs:List (Um×V)}{k:Um}(e:H a=some (.dK kvs)):Nl H a (kV k) (Bt kvs k):=.inl ⟨kvs,k,.inl e,rfl,rfl⟩
theorem Nl.t{H:Hp}{a b:Addr}{kvs:List (List Um×V)}{k:List Um}(e:H a=some (.dT kvs))(eb:H b=some (.tup (k.map kV))):Nl H a (.ref b) (Bt kvs k):=.inr ⟨kvs,k,b,.inl e,rfl,eb,rfl⟩
theorem uu.k{H:Hp}{a:Addr}{kvs:List (Um×V)}{k:Um}{v:V}(e:H a=some (.dK kvs))(hl:kvs.length<sizeLine):uu H a (kV k) v (Yq H a (.dK (Fh kvs k v))):=.inl ⟨kvs,k,e,rfl,hl,rfl⟩
theorem uu.t{H:Hp}{a b:Addr}{kvs:List (List Um×V)}{k:List Um}{v:V}(e:H a=some (.dT kvs))(eb:H b=some (.tup (k.map kV)))(hl:kvs.length<sizeLine) :
  uu H a (.ref b) v (Yq H a (.dT (Fh kvs k v))):=.inr ⟨kvs,k,b,e,rfl,eb,hl,rfl⟩
section
variable{X:Cx}{pins:Uv}{σ:St}{H:Hp}{s:Shared}{a:Addr}{y v:V}{u r:Value}{o:Option V}{A:Around}{E:Vt}
theorem Zi.big(I:Zi X pins σ H s):sysModules<s.heap.objs.size:=by
 have h:mainGlobals<s.heap.objs.size:=(I.mod.glob.keeps I.bk).lt;exact Nat.lt_trans (by decide) h
theorem Zq5{Q:Vt}(hu:A.units+1<cLine)(I:Zi X pins σ H s)(g:Nl H a y (some v))(ry:Z9 y u)(h:∀w' s',Zi X pins σ H s'->Z9 v w'->Q w' s') :
  wpAny (model X.prog X.w) A (getItem (.ref a) u) Q E s:=by
 rcases g with ⟨kvs,k,e,ey,l⟩ | ⟨kvs,k,b,e,ey,eb,l⟩
 ·subst ey;obtain⟨z,hd,vs,rel,dd⟩:=O5 I.hok e;obtain⟨w',hw,rw'⟩:=Qi.some_of (v:=v) (o:=valueAt vs k) (by rw[l];exact rel.val k);exact wpAny_getItem_of (Xz ry) dd.mapOf hw (h w' _ (I.tok _) rw')
 ·subst ey;cases Zr ry;obtain⟨z,hd,xs,rel,dd⟩:=Hj I.hok e;obtain⟨w',hw,rw'⟩:=Qi.some_of (v:=v) (o:=(atKey xs k).map (·.2)) (by rw[l];exact rel.val k);obtain⟨p,hp,Az⟩:=Qe.mp hw;refine wpAny_getItem_heap (tupleKind_room_in1 hu) (Pe I.hok eb) dd hp ?_;rw[Az];exact h w' _ (I.tok _) rw'
theorem Zmr{Q:Vt}(hu:A.units+1<cLine)(I:Zi X pins σ H s)(g:Nl H a y o)(ry:Z9 y u)(h:∀s',Zi X pins σ H s'->Q (.bool (!o.isSome)) s') :
  wpAny (model X.prog X.w) A (compareOp .NotIn u (.ref a)) Q E s:=by
 rcases g with ⟨kvs,k,e,ey,l⟩ | ⟨kvs,k,b,e,ey,eb,l⟩
 ·subst ey;obtain⟨z,hd,vs,rel,dd⟩:=O5 I.hok e;refine wpAny_notIn_of (Xz ry) hd dd.mapOf ?_;rw[<-(rel.val k).isSome_eq, <-l];exact h _ (I.tok _)
 ·subst ey;cases Zr ry;obtain⟨z,hd,xs,rel,dd⟩:=Hj I.hok e;refine wpAny_notIn_heap (tupleKind_room_in1 hu) (Pe I.hok eb) hd dd ?_;have q:=(rel.val k).isSome_eq;rw[Option.isSome_map]at q;rw[<-q, <-l];exact h _ (I.tok _)
theorem Zzo{h':Heap}{t':Nat}{ob:HO}(I:Zi X pins σ H s)(mu:Mut (H a))(hs:Heap.SameBut a s.heap h')(he:∃q,h'.get? a=some q)(new:Vq X.prog X.w (Yq H a ob) h' a ob) :
  Zi X pins σ (Yq H a ob) { s with heap:=h',toks:=t' } :=
 I.write (x:=a) (e:=a) mu (.inl rfl) (fun b q hb z=>(hs.2 b hb).trans z) he new
theorem Zkr{P:Program}{w:World}{H':Hp}{h':Heap}{kvs:List (Um×V)}{vs:List (Um×Value)}(z:kvs.length<=sizeLine)(hd:(a == sysModules)=false)(rel:KV kvs vs)(dd:h'.DictOf (Y2 P w) a vs) :
  Vq P w H' h' a (.dK kvs):=⟨z,hd,vs,rel,dd⟩
theorem Zq4{H':Hp}{Q:Unit->Shared->Prop}(hu:A.units+1<cLine)(I:Zi X pins σ H s)(g:uu H a y v H')(ry:Z9 y u)(rv:Z9 v r)(h:∀s',Zi X pins σ H' s'->Q () s') :
  wpAny (model X.prog X.w) A (setItem (.ref a) u r) Q E s:=by
 rcases g with ⟨kvs,k,e,ey,l,eH⟩ | ⟨kvs,k,b,e,ey,eb,l,eH⟩
 ·subst ey eH;obtain⟨z,hd,vs,rel,dd⟩:=dk_of I.hok e;have hz:vs.length<=sizeLine:=by rw[<-rel.length];exact z
  have hl:(Fh kvs k v).length<=sizeLine:=by have:=Oi kvs k v;omega
  refine wpAny_setItem_pairs (hsz:=hz) (Xz ry) dd fun h' dd' hs=>h _ ?_;have he:∃q,h'.get? a=some q:=let ⟨q,_,_,hq,_⟩:=dd';⟨q,hq⟩;exact Zzo I (by rw[e];exact True.intro) hs he (Zkr hl hd (rel.put k rv) dd')
 ·subst ey eH;cases Zr ry;obtain⟨z,hd,xs,rel,dd⟩:=dt_of I.hok e;have hz:xs.length<=sizeLine:=by rw[<-Paired.length rel];exact z
  have hl:(Fh kvs k v).length<=sizeLine:=by have:=Oi kvs k v;omega
  refine wpAny_setItem_heap (hsz:=hz) (tupleKind_room_in1 hu) (Pe I.hok eb) dd fun h' dd' hs=>h _ ?_;obtain⟨q,es,ep,hq,h2,h3,h4,_,h5⟩:=dd';refine Zzo I (by rw[e];exact True.intro) hs ⟨q,hq⟩ ⟨hl,hd,_,(rel.put k eb rv).keeps fun c ys ec=>?_,q,es,ep,hq,h2,h3,h4,h5⟩;rw[Zl (ne_of ec e (fun z=>nomatch z))];exact ec
end
section
variable{X:Cx}{pins:Uv}{σ:St}{H:Hp}{s:Shared}{a:Addr}{kvs:List (Um×V)}{k:Um}{u:Value}{A:Around}{E:Vt}
end
def NoSl(i:Expr):Prop:=∀ov iv,subscripted i false ov iv=operate [ov,iv] (getItem ov iv)
theorem Zg6{prog:Program}{w:World}{A:Around}{E:Vt}{s:Shared}{env:Env}{value slice:Expr}{pos:Pos}{T id:String}{Q:Vt}
  (hl:typeLookup (.type T) "__getitem__" = pure (some (.builtin id))) (hs:NoSl slice)
  (h:wpAny (model prog w) A (eval value env) (fun o s₁=>wpAny (model prog w) A (eval slice env) (fun i s₂=>s₂.TypeIs o T/\wpAny (model prog w) A (getItem o i) Q E s₂) E s₁) E s) :
  wpAny (model prog w) A (eval (.Subscript value slice pos) env) Q E s:=by
 refine Subscript_ (wpAny_mono h (fun o s₁ h₁=>wpAny_mono h₁ (fun i s₂ h₂=>?_) fun _ _ x=>x) fun _ _ x=>x);obtain⟨hT,h₂⟩:=h₂;unfold subscriptTail;refine Zo ?_;rw[getitemInPython_of_ne hT.not_modules];refine Zo (wpAny_specialOf hT hl ?_)
 have fin:wpAny (model prog w) A (subscripted slice false o i) (fun r s₃=>wpAny (model prog w) A (letTemporaryGo value o r >>= fun _=>pure r) Q E s₃) E s₂:=by
  rw[hs o i];exact wpAny_operating (wpAny_mono h₂ (fun r s₃ h₃=>Zo (wpAny_letTemporaryGo (Y7 h₃))) fun _ _ x=>x)
 first
  | exact Y7 (Zo fin)
  | exact Zo (Y7 (Zo fin))
  | exact Zo fin
theorem ya{X:Cx}{pins:Uv}{σ:St}{H:Hp}{s:Shared}{a:Addr}{y:V}{o:Option V}(I:Zi X pins σ H s)(g:Nl H a y o):s.TypeIs (.ref a) "dict" := by
 rcases g with ⟨kvs,k,e,_,_⟩ | ⟨kvs,k,b,e,_,_,_⟩
 ·obtain⟨_,_,vs,_,dd⟩:=O5 I.hok e;exact dd.typeIs
 ·obtain⟨_,_,xs,_,dd⟩:=Hj I.hok e;exact dd.typeIs
inductive Zg4(Q:VK)(x:V)(y:V)(H2:Hp):Prop
 | mk(a v)(Vg:x=.ref a)(Vk:Nl H2 a y (some v))(V1:Q v H2)
def tDGet(td ty:TE):TE:=fun σ H Q=>td σ H fun x H1=>ty σ H1 fun y H2=>Zg4 Q x y H2
inductive Zxy(Q:VK)(y:V)(x:V)(H2:Hp):Prop
 | mk(a o)(Vg:x=.ref a)(Vk:Nl H2 a y o)(V1:Q (.bl (!o.isSome)) H2)
def Zg3(ty td:TE):TE:=fun σ H Q=>ty σ H fun y H1=>td σ H1 fun x H2=>Zxy Q y x H2
inductive Zfn(D:Fx)(σ:St)(v:V)(x:V)(y:V)(H3:Hp):Prop
 | mk(a H4)(Vg:x=.ref a)(Vk:uu H3 a y v H4)(V1:D.nx σ H4)
def sDPut(td ty tv:TE):TS:=fun D σ H=>tv σ H fun v H1=>td σ H1 fun x H2=>ty σ H2 fun y H3=>Zfn D σ v x y H3
section
variable{X:Cx}{o i e value:Expr}{pos pos' tpos:Pos}{td ty tv:TE}
theorem Fi(hu:X.A.units+1<cLine)(ho:PE X o td)(hi:PE X i ty)(hs:NoSl i):PE X (.Subscript o i pos) (tDGet td ty):=by
 intro pins s σ H Q I h;refine Zg6 PySem.F.slot_dict_getitem.lookup hs (V0 (ho pins s σ H _ I h) fun u s1 ⟨x,H1,I1,rx,q1⟩=>V0 (hi pins s1 σ H1 _ I1 q1) fun iv s2 ⟨y,H2,I2,ry,a,v,ex,g,q2⟩=>?_);subst ex;obtain rfl:u=Value.ref a:=rx;exact⟨ya I2 g,Zq5 hu I2 g ry fun w' s3 I3 rw'=>⟨v,H2,I3,rw',q2⟩⟩
theorem Zx4(hu:X.A.units+1<cLine)(hi:PE X i ty)(ho:PE X o td):PC X .NotIn i o (Zg3 ty td):=by
 intro pins s σ H Q I h;refine V0 (hi pins s σ H _ I h) fun iv s1 ⟨y,H1,I1,ry,q1⟩=>V0 (ho pins s1 σ H1 _ I1 q1) fun u s2 ⟨x,H2,I2,rx,a,ov,ex,g,q2⟩=>?_;subst ex;obtain rfl:u=Value.ref a:=rx;exact Zmr hu I2 g ry fun s3 I3=>⟨.bl (!ov.isSome),H2,I3,rfl,q2⟩
theorem zj(hu:X.A.units+1<cLine)(ho:PE X o td)(hi:PE X i ty)(hv:PE X value tv)(hs:swapsWith value (some (.Subscript o i pos')) pos.line X.env=pure false) :
  PS X (.Assign [.Subscript o i pos'] value pos) (sDPut td ty tv):=by
 intro pins s σ H D I h;refine wpAny_Assign_Subscript (V0 (hv pins s σ H _ I h) fun r s1 ⟨v,H1,I1,rv,q1⟩=>V0 (ho pins s1 σ H1 _ I1 q1) fun u s2 ⟨x,H2,I2,rx,q2⟩=>V0 (hi pins s2 σ H2 _ I2 q2) fun iv s3 ⟨y,H3,I3,ry,a,H4,ex,g,q3⟩=>?_) hs;subst ex;obtain rfl:u=Value.ref a:=rx;exact Zq4 hu I3 g ry rv fun s4 I4=>⟨σ,H4,I4,q3⟩
end
section
variable{X:Cx}{pos:Pos}
end
structure M1(X:Cx)(o:Expr)(m:Str)(apos:Pos)(e:Expr)(cpos:Pos):Prop where
 base:attributeBase o m X.env (eval o X.env)=eval o X.env
 few:((backTo cpos (starEach [e] X.env)).all (fun x=>!x.1) && (backToKw cpos (keywordEach [] X.env)).all (fun x=>x.1.isSome)
  && decide (([e]:List Expr).length+([]:List Keyword).length+(if ([]:List Keyword).isEmpty then 0 else 1)<30))=true
 line:(apos.endLine == cpos.line)=true
 trees:backTo cpos (starEach [e] X.env)=[(false,eval e X.env)]
structure M2(X:Cx)(o:Expr)(m:Str)(apos:Pos)(e f:Expr)(cpos:Pos):Prop where
 base:attributeBase o m X.env (eval o X.env)=eval o X.env
 few:((backTo cpos (starEach [e,f] X.env)).all (fun x=>!x.1) && (backToKw cpos (keywordEach [] X.env)).all (fun x=>x.1.isSome)
  && decide (([e,f]:List Expr).length+([]:List Keyword).length+(if ([]:List Keyword).isEmpty then 0 else 1)<30))=true
 line:(apos.endLine == cpos.line)=true
 trees:backTo cpos (starEach [e,f] X.env)=[(false,eval e X.env),(false,eval f X.env)]
def Zgg(H:Hp)(a:Addr):Prop:=(∃kvs,Rd H a (.dK kvs))\/∃kvs,Rd H a (.dT kvs)
theorem yj{X:Cx}{pins:Uv}{σ:St}{H:Hp}{s:Shared}{a:Addr}(I:Zi X pins σ H s)(d:Zgg H a) :
  s.TypeIs (.ref a) "dict" /\ (∀b,Value.ref a=.ref b->∃ob,s.heap.get? b=some ob/\ob.dict=none)/\(a == sysModules)=false:=by
 rcases d with ⟨kvs,e⟩ | ⟨kvs,e⟩
 ·obtain⟨_,hd,vs,_,dd⟩:=O5 I.hok e;refine⟨dd.typeIs,fun b q=>?_,hd⟩;cases q;obtain⟨ob,_,_,h1,h2,_⟩:=dd;exact⟨ob,h1,h2.2.1⟩
 ·obtain⟨_,hd,xs,_,dd⟩:=Hj I.hok e;refine⟨dd.typeIs,fun b q=>?_,hd⟩;cases q;obtain⟨ob,_,_,h1,h2,_⟩:=dd;exact⟨ob,h1,h2.2.1⟩
section
variable{X:Cx}{pins:Uv}{σ:St}{H:Hp}{s:Shared}{a:Addr}{y d:V}{u r:Value}{o:Option V}{A:Around}{E:Vt}
theorem d_get1{Q:Vt}(hu:A.units+1<cLine)(I:Zi X pins σ H s)(g:Nl H a y o)(ry:Z9 y u)(h:∀w' s',Zi X pins σ H s'->Z9 (o.getD .non) w'->Q w' s') :
  wpAny (model X.prog X.w) A (call (.builtin "dict.get") [.ref a,u]) Q E s:=by
 rcases g with ⟨kvs,k,e,ey,l⟩ | ⟨kvs,k,b,e,ey,eb,l⟩
 ·subst ey;obtain⟨z,hd,vs,rel,dd⟩:=O5 I.hok e;refine call_meetsIn PySem.F.slot_dict_get dd.typeIs PySem.F.entry_dict_get (PySem.F.args_dict_get_2 _ _) (meets_dict_get (Y2 X.prog X.w) a (Xz ry) hd) ⟨_,dd.mapOf,h _ _ (I.tok _) ?_⟩;rw[l];exact(rel.val k).getD rfl
 ·subst ey;cases Zr ry;obtain⟨z,hd,xs,rel,dd⟩:=Hj I.hok e;refine call_meetsIn PySem.F.slot_dict_get dd.typeIs PySem.F.entry_dict_get (PySem.F.args_dict_get_2 _ _) (meetsH_dict_get (tupleKind (Y2 X.prog X.w)) a b hd) ⟨tupleKind_room_in1 hu,k,xs,Pe I.hok eb,dd,h _ _ (I.tok _) ?_⟩;rw[l];exact(rel.val k).getD rfl
theorem d_get2{Q:Vt}(hu:A.units+1<cLine)(I:Zi X pins σ H s)(g:Nl H a y o)(ry:Z9 y u)(rd:Z9 d r)(h:∀w' s',Zi X pins σ H s'->Z9 (o.getD d) w'->Q w' s') :
  wpAny (model X.prog X.w) A (call (.builtin "dict.get") [.ref a,u,r]) Q E s:=by
 rcases g with ⟨kvs,k,e,ey,l⟩ | ⟨kvs,k,b,e,ey,eb,l⟩
 ·subst ey;obtain⟨z,hd,vs,rel,dd⟩:=O5 I.hok e;refine call_meetsIn PySem.F.slot_dict_get dd.typeIs PySem.F.entry_dict_get (PySem.F.args_dict_get_3 _ _ _) (meets_dict_get_default (Y2 X.prog X.w) a (Xz ry) hd r) ⟨_,dd.mapOf,h _ _ (I.tok _) ?_⟩;rw[l];exact(rel.val k).getD rd
 ·subst ey;cases Zr ry;obtain⟨z,hd,xs,rel,dd⟩:=Hj I.hok e;refine call_meetsIn PySem.F.slot_dict_get dd.typeIs PySem.F.entry_dict_get (PySem.F.args_dict_get_3 _ _ _) (meetsH_dict_get_default (tupleKind (Y2 X.prog X.w)) a b hd r) ⟨tupleKind_room_in1 hu,k,xs,Pe I.hok eb,dd,h _ _ (I.tok _) ?_⟩;rw[l];exact(rel.val k).getD rd
end
inductive Zwm(ty:TE)(σ:St)(Q:VK)(x:V)(H1:Hp):Prop
 | mk(a)(Vg:x=.ref a)(Vk:Zgg H1 a)(V1:ty σ H1 fun y H2=>∃o,Nl H2 a y o/\Q (o.getD .non) H2)
def tDGet1(td ty:TE):TE:=fun σ H Q=>td σ H fun x H1=>Zwm ty σ Q x H1
inductive Zwb(ty:TE)(tx:TE)(σ:St)(Q:VK)(x:V)(H1:Hp):Prop
 | mk(a)(Vg:x=.ref a)(Vk:Zgg H1 a)(V1:ty σ H1 fun y H2=>tx σ H2 fun z H3=>∃o,Nl H3 a y o/\Q (o.getD z) H3)
def tDGet2(td ty tx:TE):TE:=fun σ H Q=>td σ H fun x H1=>Zwb ty tx σ Q x H1
section
variable{X:Cx}{o e f:Expr}{apos cpos:Pos}{td ty tx:TE}
theorem Zv0(hu:X.A.units+1<cLine)(ho:PE X o td)(he:PE X e ty)(m:M1 X o "get" apos e cpos):PE X (.Call (.Attribute o "get" apos) [e] [] cpos) (tDGet1 td ty):=by
 intro pins s σ H Q I h;refine wpAny_Call_method m.base m.few m.line PySem.F.plainAttrs_dict PySem.F.slot_dict_get PySem.F.type_dict_get (V0 (ho pins s σ H _ I h) fun u s1 ⟨x,H1,I1,rx,a,ex,d,q1⟩=>?_);subst ex;obtain rfl:u=Value.ref a:=rx;obtain⟨t1,t2,_⟩:=yj I1 d;refine⟨t1,t2, ?_⟩;rw[m.trees];refine Calls.callWith_builtin rfl (Calls.evalArgs_plain (Calls.spliced_cons (V0 (he pins s1 σ H1 _ I1 q1) fun iv s2 ⟨y,H2,I2,ry,ov,g,q2⟩=>Calls.spliced_nil ?_)));exact d_get1 hu I2 g ry fun w' s3 I3 rw'=>⟨_,H2,I3,rw',q2⟩
theorem Zve(hu:X.A.units+1<cLine)(ho:PE X o td)(he:PE X e ty)(hf:PE X f tx)(m:M2 X o "get" apos e f cpos):PE X (.Call (.Attribute o "get" apos) [e,f] [] cpos) (tDGet2 td ty tx):=by
 intro pins s σ H Q I h;refine wpAny_Call_method m.base m.few m.line PySem.F.plainAttrs_dict PySem.F.slot_dict_get PySem.F.type_dict_get (V0 (ho pins s σ H _ I h) fun u s1 ⟨x,H1,I1,rx,a,ex,d,q1⟩=>?_);subst ex;obtain rfl:u=Value.ref a:=rx;obtain⟨t1,t2,_⟩:=yj I1 d;refine⟨t1,t2, ?_⟩;rw[m.trees]
 refine Calls.callWith_builtin rfl (Calls.evalArgs_plain (Calls.spliced_cons (V0 (he pins s1 σ H1 _ I1 q1) fun iv s2 ⟨y,H2,I2,ry,q2⟩ =>
  Calls.spliced_cons (V0 (hf pins s2 σ H2 _ I2 q2) fun fv s3 ⟨z,H3,I3,rz,ov,g,q3⟩=>Calls.spliced_nil ?_))))
 exact d_get2 hu I3 g ry rz fun w' s4 I4 rw'=>⟨_,H3,I4,rw',q3⟩
end
section
variable{X:Cx}{pins:Uv}{σ:St}{H:Hp}{s:Shared}{a:Addr}{kvs:List (Um×V)}{A:Around}{E:Vt}
theorem Zkh{Q:Vt}(I:Zi X pins σ H s)(e:Rd H a (.dK kvs))(h:∀p s',H p=none->Zi X pins σ (Yq H p (.dK kvs)) s'->Q (.ref p) s'):wpAny (model X.prog X.w) A (call (.type "dict") [.ref a]) Q E s:=by
 obtain⟨z,hd,vs,rel,dd⟩:=O5 I.hok e;refine kt_call_dict hd dd (by rw[<-rel.length];exact z) fun h' dd' hs=>?_;refine h _ _ (I.hok.fresh (Vj _)) (I.laid (a:=s.heap.objs.size) (o:=.dK kvs) (t':=s.toks) (fun b q hq=>?_) (Vj _) (Zkr z (B0n.mpr (Ne.symm (Oj I.big))) rel dd'));exact(hs.2 b (Oj (Du hq))).trans (G4 _ hq)
end
section
variable{X:Cx}{pins:Uv}{σ:St}{H:Hp}{s:Shared}{a:Addr}{y:V}{u:Value}{A:Around}{E:Vt}
end
section
variable{X:Cx}
end
section
variable{κ:Type}[DecidableEq κ]
end
section
variable{X:Cx}{pins:Uv}{σ:St}{H:Hp}{s:Shared}
theorem Zi.freeze{d:Addr}{kvs:List (Um×V)}(I:Zi X pins σ H s)(e:H d=some (.dK kvs)):∃o,s.heap.get? d=some o/\Zi X pins σ (Yq H d (.frz o (.dK kvs))) s:=by
 obtain⟨z,y,vs,r,o,es,ep,ho,c⟩:=(show Vq X.prog X.w H s.heap d (.dK kvs) from I.hok d _ e)
 have ne:∀{b:Addr} {u:HO},H b=some u->(∀k,u≠.dK k)->b≠d:=fun h n z=>by
  rw[z,e]at h;cases h;exact n _ rfl
 refine⟨o,ho, ?_⟩;refine I.step (g':=s.gens) (d':=s.drawn) (t':=s.toks) (h':=s.heap) (ch:=[]) (fun _ z=>nomatch z) (fun _ _ _ _ _ h _=>h) (fun _ o _ _ _ h _=>⟨o.slots,h⟩) (fun b _ _ _ n=>?_) (fun _ o _ h=>⟨o,h⟩) (fun b xs h=>?_) (fun b o u h=>?_) (fun b ps h=>⟨#[], ?_⟩) (fun _ h=>h) (fun b u h=>?_) I.bare
 ·rw[Zl (fun z=>by rw[z,e]at n;cases n)];exact n
 ·rw[Zl (ne h fun _ z=>nomatch z)];exact h
 ·rw[Zl (ne h fun _ z=>nomatch z)];exact h
 ·rw[Zl (ne h fun _ z=>nomatch z),h];simp
 ·by_cases q:b=d
  ·subst q;rw[Zz]at h;cases h;exact⟨ho,z,y,vs,r,o,es,ep,ho,c⟩
  ·rw[Zl q]at h;refine(I.hok b u h).stay (fun c v hc q=>q) (fun c q=>?_) fun c xs q=>?_
   ·rw[Zl (ne q fun _ z=>nomatch z)];exact q
   ·rw[Zl (ne q fun _ z=>nomatch z)];exact q
def Itd(d:Addr)(o:Obj)(kvs:List (Um×V)):It :=
 ⟨fun i H=>i<kvs.length/\H d=some (.frz o (.dK kvs)),fun i H v H'=>H'=H/\∃k x,kvs[i]?=some (k,x)/\v=kV k,fun i H=>kvs.length<=i/\H d=some (.frz o (.dK kvs))⟩
inductive Zb5(R:(It->Hp->Prop))(x:V)(H1:Hp):Prop
 | mk(d kvs)(Vg:x=.ref d)(Vk:H1 d=some (.dK kvs))(V1:∀o,R (Itd d o kvs) (Yq H1 d (.frz o (.dK kvs))))
def iDict(te:TE):TI:=fun σ H R=>te σ H fun x H1=>Zb5 R x H1
theorem Zk7{d:Addr}{o:Obj}{kvs:List (Um×V)}(I:Zi X pins σ H s)(e:H d=some (.frz o (.dK kvs))):∃vs es ep,(d == sysModules)=false/\KV kvs vs/\o.data=.dict es ep/\s.heap.DictAt (Y2 X.prog X.w) d vs ep:=by
 obtain⟨ho,z,y,vs,r,o',es,ep,ho',c⟩:=(show Vq X.prog X.w H s.heap d (.frz o (.dK kvs)) from I.hok d _ e);rw[ho]at ho';cases ho';exact⟨vs,es,ep,y,r,c.2.1,o,es,ho,c⟩
theorem KV.at{κ:Type}:∀{kvs:List (κ×V)} {vs:List (κ×Value)} {i:Nat} {k:κ} {x:V},KV kvs vs->kvs[i]?=some (k,x)->∃v,vs[i]?=some (k,v)
 | [],_,i,k,x,_,e=>by simp at e
 | a::kvs,_,0,k,x,.cons h t,e=>by
  rename_i b bs
  simp at e;subst e;exact⟨b.2,by rw[show k=b.1 from h.1];rfl⟩
 | a::kvs,_,i+1,k,x,.cons h t,e=>by
  obtain⟨v,e'⟩:=KV.at (i:=i) t (by simpa using e);exact⟨v,by simpa using e'⟩
theorem kV_rel{P:Program}{w:World}{k:Um}{u:Value}(h:(Y2 P w).is k u=true):Z9 (kV k) u:=by
 rcases Vb (show O0 k u=true from h) with ⟨j,t,rfl,rfl⟩ | ⟨x,t,rfl,rfl⟩
 ·exact⟨t,rfl⟩
 ·exact⟨t,rfl⟩
theorem Zxq{P:Program}{w:World}{K:W.Frag}{tg:Expr}(d it:Addr)(o:Obj)(kvs:List (Um×V))(es:Array DictEntry)(ep:Nat)(ho:o.data=.dict es ep) :
  A8 P w K tg (Itd d o kvs) [it] it (fun i h=>h.IsKeyIter it d i kvs.length ep) where
 mem:=by simp
 obj:=fun i h st b hb=>by
  have e:b=it:=by simpa using hb
  subst e;obtain⟨o,e,c,d⟩:=st;exact⟨o,e,fun v z=>by rw[d]at z;cases z⟩
 keep:=fun i h h' st k=>by
  obtain⟨o,e,c,d⟩:=st;exact⟨o,k it (by simp) o e,c,d⟩
 item:=by
  intro X hP hw hK hc i pins s σ H E I hf st hg;subst hP hw hK;obtain⟨hi,hd⟩:=hg;obtain⟨vs,O4,ep',y,r,e',m⟩:=Zk7 I hd;rw[ho]at e';cases e';obtain⟨f0,f1,f2,f3,f4,f5⟩:=hf it (by simp);obtain⟨v,hv⟩:=KV.at (i:=i) (k:=kvs[i].1) (x:=kvs[i].2) r (Nn hi);have ln:=r.length;refine wpAny_pyNext_dict_item (by rw[<-ln];exact st) m hv fun key h' hk fk sb=>?_;have I1:Zi X pins σ H { s with heap:=h' }:=I.turned (t':=s.toks) (fun b o hb e=>(sb.2 b hb).trans e) f0 f1 f3 f4 f5;obtain⟨oo,e,c,dd⟩:=id fk;exact⟨key,rfl,yl (s:={ s with heap:=h' }) e c dd (by decide) ⟨kV kvs[i].1,H,I1,kV_rel hk,⟨rfl,_,_,Nn hi,rfl⟩,by rw[ln];exact fk,fun b hb=>(hf b hb).1⟩⟩
 done:=by
  intro X hP hw hK hc i pins s σ H E I hf st hg;subst hP hw hK;obtain⟨hi,hd⟩:=hg;obtain⟨vs,O4,ep',y,r,e',m⟩:=Zk7 I hd;rw[ho]at e';cases e';obtain⟨f0,f1,f2,f3,f4,f5⟩:=hf it (by simp);have ln:=r.length;exact wpAny_pyNext_dict_end (I.ok.hd hc) (by rw[<-ln];exact st) m (List.getElem?_eq_none (by omega)) fun h' eb=>⟨rfl,I.turned (t':=s.toks) (fun b o hb e=>eb b o hb e) f0 f1 f3 f4 f5⟩
 self:=fun _ _ _ _ _ st h=>wpAny_pyIter_keyiter st h
theorem Zf2{tg l:Expr}{tl:TE}(hl:PE X l tl):PI X tg l (iDict tl):=by
 intro pins s σ H R I h;refine V0 (hl pins s σ H _ I h) fun v s1 ⟨x,H1,I1,r1,q1⟩=>?_;obtain⟨d,kvs,e,hd,q⟩:=q1;subst e;cases r1;obtain⟨o,ho,I2⟩:=I1.freeze hd;obtain⟨vs,es,ep,y,r,e',m⟩:=Zk7 I2 Zz;have ln:=r.length;refine wpAny_pyIter_dict y m ?_;refine⟨s1.heap.objs.size,[s1.heap.objs.size],_,_,_,rfl,I2.kept (t':=s1.toks) fun b o e=>G4 _ e,Zxq d _ o kvs es ep e',⟨_,Rj _ rfl,rfl,by rw[ln];rfl⟩,fun b hb=>?_,q o⟩;have e:b=s1.heap.objs.size:=by simpa using hb
 subst e;exact I2.fpOk (Vj _) (I2.hok.fresh (Vj _))
theorem Zkd{d:Addr}{o:Obj}{kvs:List (Um×V)}{g:TG}{tb:TS}{D:Fx}{σ:St}{H:Hp}(Pv:Nat->St->Hp->Prop)(h0:Pv 0 σ H)(hl:∀i σ H,i<=kvs.length->Pv i σ H->H d=some (.frz o (.dK kvs)))
  (hs:∀i k x σ H,kvs[i]?=some (k,x)->Pv i σ H->g (kV k) σ H fun σ2 H2=>tb { D with nx:=Pv (i+1),ct:=Pv (i+1),bk:=D.nx } σ2 H2) (hd:∀σ H,Pv kvs.length σ H->D.nx σ H) :
  ∃W:Nat->Nat->St->Hp->Prop,(∃m,W 0 m σ H)/\∀i m σ H,W i m σ H ->
   ((Itd d o kvs).stop i H/\D.nx σ H)\/((Itd d o kvs).go i H/\∃N:St->Hp->Prop,(∀σ' H',N σ' H'->∃m',m'<m/\W (i+1) m' σ' H')/\∀x H',(Itd d o kvs).yld i H x H'->g x σ H' fun σ2 H2=>tb { D with nx:=N,ct:=N,bk:=D.nx } σ2 H2):=by
 refine⟨fun i m σ H=>m=kvs.length - i/\i<=kvs.length/\Pv i σ H,⟨kvs.length,by simp,Wl _,h0⟩, ?_⟩;rintro i m σ H ⟨rfl,hi,p⟩;have q:=hl i σ H hi p;by_cases Nc:i<kvs.length
 ·refine .inr ⟨⟨Nc,q⟩,Pv (i+1),fun σ' H' p'=>⟨kvs.length - (i+1),by omega,rfl,Nc,p'⟩,fun x H' y=>?_⟩;obtain⟨e,k,z,ek,rfl⟩:=y;subst e;exact hs i k z σ _ ek p
 ·have e:i=kvs.length:=by omega
  subst e;exact .inl ⟨⟨Vj _,q⟩,hd σ H p⟩
inductive Zx8(x:V)(y:V)(H:Hp)(Q:VK):Prop
 | mk(l:Addr)(k:Int)(a:V)(Vg:x=.ref l)(Vk:y=.int k)(V1:H l=some (.lst [a]))(Jk:(k=0\/k=1))(Mn:∀p,H p=none->Q (.ref p) (Yq H p (.lst (List.replicate k.toNat a))))
theorem Zbx:Nd X (binaryOp .Mult) (fun x y H Q=>Zx8 x y H Q):=by
 intro pins s σ H x y v u Q I rx ry h;obtain⟨l,k,a,rfl,rfl,hH,hk,q⟩:=h;cases rx;obtain⟨t,rfl⟩:=ry;obtain⟨_,its,n,rv,ho⟩:=(show Vq X.prog X.w H s.heap l (.lst [a]) from I.hok l _ hH);obtain⟨b,rfl,rb⟩:=rv.one
 refine wpAny_binaryOp_repeat_ref (T:="list") (U:="int") (by decide) ⟨_,ho,rfl⟩ (fun s'=>typeIs_int s' k t) noFill_list_mul F.fills_int_mul F.slot_int_rmul repeat_list F.slot_int_index.lookup
  (call_meets F.slot_int_rmul (typeIs_int s k t) F.entry_int_rmul (F.args_int_rmul_2 _ _) (int___rmul___int_list k t l [b].toArray n)
   ⟨ho,rfl,⟨_,ho,rfl⟩,call_meets F.slot_list_mul ⟨_,ho,rfl⟩ F.entry_list_mul (F.args_list_mul_2 _ _)
    (AutoListH.list___mul___list_int_3 l [b].toArray n k t (by simp[Builtin.List.listFitsIndex];omega) (by rcases hk with rfl | rfl<;>simp) (by rcases hk with rfl | rfl<;>simp[Builtin.List.listTooLong,sizeLine]))
    ⟨ho, ?_⟩⟩)
 refine⟨.ref _,_,I.laid (t':=s.toks) (o:=.lst (List.replicate k.toNat a)) (fun b u e=>G4 _ e) (Vj _) ?_,rfl,q _ (I.hok.fresh (Vj _))⟩;rcases hk with rfl | rfl
 ·exact⟨Wl _,[],0,.nil,Rj _ rfl⟩
 ·exact⟨by show 1<=sizeLine;decide,[b],0,.cons rb .nil,Rj _ rfl⟩
inductive A0(xs:List V)(H:Hp)(Q:VK):Prop
 | mk(a:Addr)(kvs:List (Um×V))(Vg:xs=[.ref a])(Vk:Rd H a (.dK kvs))(V1:∀p,H p=none->Q (.ref p) (Yq H p (.dK kvs)))
theorem y8:D9 X (.type "dict") (fun xs H Q=>A0 xs H Q):=by
 intro pins s σ H xs us Q I r h;obtain⟨a,kvs,rfl,e,q⟩:=h;obtain⟨u,rfl,rx⟩:=Tu r;cases rx;exact Zkh I e fun p s' hp I'=>⟨.ref p,_,I',rfl,q p hp⟩
end
def Fd(r:Nat)(H:Hp)(l:Addr):Prop:=∃(a:Addr) (ns:List Int) (b c d:Int),H l=some (.lst [.ref a,.int b,.int c,.int d])/\H a=some (.lst (ns.map V.int))/\1<=ns.length/\ns.length<=64/\0<=b/\0<=d/\d+(r:Int)<=1000000000000
theorem Fd.mono{r r':Nat}{H:Hp}{l:Addr}(f:Fd r H l)(h:r'<=r):Fd r' H l:=by
 obtain⟨a,ns,b,c,d,e,e2,h1,h2,h3,h4,h5⟩:=f;exact⟨a,ns,b,c,d,e,e2,h1,h2,h3,h4,by omega⟩
def cellOf(H:Hp)(l:Addr):Option V:=match H l with
 | some (.lst (x::_))=>some x
 | _=>none
structure Ve(l:Addr)(r:Nat)(H H':Hp):Prop where
 keep:∀x o,x≠l->H x=some o->H' x=some o
 feed:Fd r H' l
 cell:cellOf H' l=cellOf H l
theorem Me{H:Hp}{l:Addr}{x:V}{r:List V}(h:H l=some (.lst (x::r))):cellOf H l=some x:=by unfold cellOf;rw[h]
theorem y4{H:Hp}{l:Addr}{x:V}(h:cellOf H l=some x):∃r,H l=some (.lst (x::r)):=by
 unfold cellOf at h
 split at h
 ·rename_i y r e
  cases h;exact⟨r,e⟩
 ·cases h
theorem fd_ne{l a:Addr}{ns:List Int}{b c d:Int}{H:Hp}(h1:H l=some (.lst [.ref a,.int b,.int c,.int d]))(h2:H a=some (.lst (ns.map V.int))):a≠l:=fun e=>by
 rw[e,h1]at h2
 injection h2 with h2
 injection h2 with h2
 cases ns with
 | nil=>cases h2
 | cons n ns=>injection h2 with h3 _;cases h3
theorem Ve.refl{l:Addr}{r:Nat}{H:Hp}(f:Fd r H l):Ve l r H H:=⟨fun _ _ _ h=>h,f,rfl⟩
theorem Ve.mono{l:Addr}{r r':Nat}{H H1:Hp}(a:Ve l r H H1)(h:r'<=r):Ve l r' H H1:=⟨a.keep,a.feed.mono h,a.cell⟩
theorem Ve.m{l:Addr}{r r':Nat}{H H1:Hp}(a:Ve l r H H1)(h:r'<=r:=by omega):Ve l r' H H1:=a.mono h
theorem Fd.m{r r':Nat}{H:Hp}{l:Addr}(f:Fd r H l)(h:r'<=r:=by omega):Fd r' H l:=f.mono h
theorem Ve.trans{l:Addr}{r r':Nat}{H H1 H2:Hp}(a:Ve l r H H1)(b:Ve l r' H1 H2):Ve l r' H H2:=⟨fun x o n h=>b.keep x o n (a.keep x o n h),b.feed,b.cell.trans a.cell⟩
theorem Fd.ne{l p:Addr}{r:Nat}{H:Hp}(f:Fd r H l)(h:H p=none):p≠l:=fun e=>by
 obtain⟨a,ns,b,c,d,q,_⟩:=f;rw[e,q]at h;cases h
theorem Fd.put{l p:Addr}{r:Nat}{H:Hp}{o:HO}(f:Fd r H l)(h:H p=none):Fd r (Yq H p o) l:=by
 obtain⟨a,ns,b,c,d,e,e2,rr⟩:=f;exact⟨a,ns,b,c,d,by rw[Zl (Yw e h)];exact e,by rw[Zl (Yw e2 h)];exact e2,rr⟩
theorem Fd.set{l p:Addr}{r:Nat}{H:Hp}{o u:HO}(f:Fd r H l)(h:H p=some u)(n:∀xs,u≠.lst xs):Fd r (Yq H p o) l:=by
 obtain⟨a,ns,b,c,d,e,e2,rr⟩:=f
 have ne:∀{x:Addr} {xs:List V},H x=some (.lst xs)->x≠p:=fun e z=>by
  rw[z,h]at e;cases e;exact n _ rfl
 exact⟨a,ns,b,c,d,by rw[Zl (ne e)];exact e,by rw[Zl (ne e2)];exact e2,rr⟩
theorem Ve.free{l:Addr}{r:Nat}{H H':Hp}(a:Ve l r H H'){p:Addr}(h:H' p=none):H p=none:=by
 cases q:H p with
 | none=>rfl
 | some o =>
  by_cases e:p=l
  ·obtain⟨_,_,_,_,_,z,_⟩:=a.feed;rw[e,z]at h;cases h
  ·rw[a.keep p o e q]at h;cases h
theorem Fd.same{l:Addr}{r:Nat}{H H':Hp}(f:Fd r H l)(s:Zw H H'):Fd r H' l:=by
 obtain⟨a,ns,b,c,d,e,e2,rr⟩:=f;exact⟨a,ns,b,c,d,s _ _ e,s _ _ e2,rr⟩
theorem Ve.same{l:Addr}{r:Nat}{H H1 H2:Hp}(a:Ve l r H H1)(b:Zw H1 H2):Ve l r H H2:=⟨fun x o n h=>b _ _ (a.keep x o n h),a.feed.same b,by
 obtain⟨c,ns,x,y,z,e,_⟩:=a.feed;rw[<-a.cell,Me e,Me (b _ _ e)]⟩
theorem Ve.lay{l p:Addr}{r:Nat}{H H':Hp}{o:HO}(a:Ve l r H H')(h:H' p=none):Ve l r H (Yq H' p o):=a.same (Zw.lay h)
theorem Ve.put{l p:Addr}{r:Nat}{H H':Hp}{o:HO}(a:Ve l r H H')(h:H p=none)(hc:∀q r',H l=some (.lst (.ref q::r'))->p≠q):Ve l r H (Yq H' p o):=by
 obtain⟨c,ns,x,y,z,e,e2,rr⟩:=a.feed;have ec:=a.cell;rw[Me e]at ec;obtain⟨r',eH⟩:=y4 ec.symm;have n1:l≠p:=Yw eH h;have n2:c≠p:=(hc c r' eH).symm;refine⟨fun x u q e=>by rw[Zl (Yw e h)];exact a.keep x u q e,⟨c,ns,x,y,z,by rw[Zl n1];exact e,by rw[Zl n2];exact e2,rr⟩, ?_⟩;rw[Me (by rw[Zl n1];exact e),ec]
theorem Fd.far{l p:Addr}{r:Nat}{H:Hp}(f:Fd r H l)(h:H p=none):∀q r',H l=some (.lst (.ref q::r'))->p≠q:=by
 obtain⟨c,ns,x,y,z,e,e2,rr⟩:=f;intro q r' e' z';rw[e]at e';cases e';rw[z',e2]at h;cases h
theorem Fd.cell{l p:Addr}{r:Nat}{H:Hp}{o:HO}(f:Fd r H l)(n:p≠l)(g:∀(a:Addr) (ns:List Int) (b c d:Int),H l=some (.lst [.ref a,.int b,.int c,.int d])->H a=some (.lst (ns.map V.int))->p≠a):Fd r (Yq H p o) l:=by
 obtain⟨a,ns,b,c,d,e,e2,rr⟩:=f;exact⟨a,ns,b,c,d,by rw[Zl n.symm];exact e,by rw[Zl (g a ns b c d e e2).symm];exact e2,rr⟩
theorem Ve.up{K:W.Frag}{l:Addr}{r r':Nat}{H H':Hp}(a:Ve l r H H')(f:Fd r' H l):Up K H H':=fun c xs h=>by
 have ne:∀o,H c=some o->(∀ys,o≠.lst ys)->c≠l:=fun o e n q=>by
  obtain⟨_,_,_,_,_,z,_⟩:=f;rw[q,z]at e;cases e;exact n _ rfl
 rcases h with (h | ⟨o,h⟩) | h
 ·exact .inl (.inl (a.keep _ _ (ne _ h fun _ z=>nomatch z) h))
 ·exact .inl (.inr ⟨o,a.keep _ _ (ne _ h fun _ z=>nomatch z) h⟩)
 ·exact .inr h
theorem Ve.upT{K:W.Frag}{l:Addr}{r r':Nat}{H H':Hp}(a:Ve l r H H')(f:Fd r' H l):Mz K H H':=by
 obtain⟨x,ns,y,z,w,e,_⟩:=id f;refine⟨a.up f,fun p xs h=>?_,fun p k h=>?_,fun p o k h=>?_⟩
 ·by_cases q:p=l
  ·obtain⟨_,_,_,_,_,e',_⟩:=a.feed;exact⟨_,by rw[q];exact e'⟩
  ·exact⟨xs,a.keep p _ q h⟩
 ·refine a.keep p _ (fun q=>?_) h;rw[q,e]at h;cases h
 ·refine a.keep p _ (fun q=>?_) h;rw[q,e]at h;cases h
end L2
namespace ZipT
open PySem
theorem Nx{h h':Heap}{b i t:Addr}{k:Nat}(st:h.IsTupleIter i t k)(e:Heap.ExtBut b h h')(n:i≠b):h'.IsTupleIter i t k:=let ⟨o,ho,r⟩:=st;⟨o,e _ _ n ho,r⟩
theorem Xi{h h':Heap}{b t:Addr}{xs:Array Value}(st:h.IsTuple t xs)(e:Heap.ExtBut b h h')(n:t≠b):h'.IsTuple t xs:=let ⟨o,ho,r⟩:=st;⟨o,e _ _ n ho,r⟩
section
variable{prog:Program}{w:World}{A:Around}{E:Vt}{s:Shared}{z TI TO i1 i2 t1 t2:Addr}{k:Nat}{xs ys:Array Value}{x y a b:Value}
theorem itemT{Q:Vt}(D:ZipApart z TI TO i1 i2 t1 t2)(hz:IsZip s.heap z TI TO .none)(hI:IsPair s.heap TI (.ref i1) (.ref i2))(hO:IsPair s.heap TO a b)(j1:s.heap.IsTupleIter i1 t1 k)(j2:s.heap.IsTupleIter i2 t2 k)(p1:s.heap.IsTuple t1 xs)(p2:s.heap.IsTuple t2 ys)(hx:xs[k]?=some x)(hy:ys[k]?=some y)
  (q:∀h',IsZip h' z TI TO (rawInt s.heap.objs.size)->IsPair h' TO x y->h'.IsTupleIter i1 t1 (k+1)->h'.IsTupleIter i2 t2 (k+1)->IsPair h' s.heap.objs.size x y->h'.objs.size=s.heap.objs.size+1->(∀c o,c≠z->c≠TO->c≠i1->c≠i2->s.heap.get? c=some o->h'.get? c=some o)->Q (.ref s.heap.objs.size) { s with heap:=h' }) :
  wpAny (model prog w) A (Builtin.«zip.__next__» ⟨[.ref z],[]⟩) (fun fin s'=>∃v,fin=.done (.ret v)/\Q v s') E s:=by
 show wpAny _ _ (field (.ref z) 2 >>= _) _ _ _;refine Zo (wpAny_field hz rfl (x:=.bool false) rfl ?_);show wpAny _ _ (field (.ref z) 3 >>= _) _ _ _;refine Zo (wpAny_field hz rfl (x:=.ref TI) rfl (Zo (wpAny_seqItems hI rfl ?_)));show wpAny _ _ (Builtin.SmallTypes.ownedTupleIsFree (.ref z) >>= _) _ _ _;refine Zo ?_;unfold Builtin.SmallTypes.ownedTupleIsFree;refine Zo (wpAny_field hz rfl (x:=.none) rfl (Y7 ?_));simp only[if_true];refine Zo (wpAny_rule (Zo (wpAny_field hz rfl (x:=.ref TO) rfl ?_)));refine Zo (wpAny_setField_rec hz (by simp) fun g1 hz1 e1=>?_);replace hz1:IsZip g1 z TI TO .ellipsis:=hz1;refine Zo ?_;simp only[List.zipIdx_cons,List.zipIdx_nil,List.forIn_cons,List.forIn_nil];refine Zo (Zo (wpAny_onRaise ?_));show wpAny _ _ (Builtin.SmallTypes.nextOf (.ref i1) >>= _) _ _ _;refine Zo (EnuT.Zym (Nx j1 e1.extBut D.i1z) (Xi p1 e1.extBut D.l1z) hx fun g2 j12 e2=>Y7 ?_);have hO2:IsPair g2 TO a b:=e2.extBut _ _ D.TOi1 (e1.extBut _ _ D.TOz hO);refine Zo (wpAny_seqItems hO2 rfl (Zo (wpAny_updateSeq_pair hO2 fun g3 hO3 e3=>?_)));replace hO3:IsPair g3 TO x b:=hO3;refine Zo (wpAny_letGo (Y7 (Zo (Zo (wpAny_onRaise ?_)))));show wpAny _ _ (Builtin.SmallTypes.nextOf (.ref i2) >>= _) _ _ _;refine Zo (EnuT.Zym (Nx (Nx (Nx j2 e1.extBut D.i2z) e2.extBut D.i12.symm) e3.extBut D.TOi2.symm) (Xi (Xi (Xi p2 e1.extBut D.l2z) e2.extBut D.l2i1) e3.extBut D.l2TO) hy fun g4 j24 e4=>Y7 ?_);have hO4:IsPair g4 TO x b:=e4.extBut _ _ D.TOi2 hO3;refine Zo (wpAny_seqItems hO4 rfl (Zo (wpAny_updateSeq_pair hO4 fun g5 hO5 e5=>?_)));replace hO5:IsPair g5 TO x y:=hO5;refine Zo (wpAny_letGo (Y7 (Y7 (Zo (wpAny_seqItems hO5 rfl (Zo (wpAny_newTuple ?_)))))));have sz:g5.objs.size=s.heap.objs.size:=by rw[e5.1,e4.1,e3.1,e2.1,e1.1]
 have hz5:IsZip g5 z TI TO .ellipsis:=e5.extBut _ _ D.TOz.symm (e4.extBut _ _ D.i2z.symm (e3.extBut _ _ D.TOz.symm (e2.extBut _ _ D.i1z.symm hz1)));have kp:∀c o,c≠z->c≠TO->c≠i1->c≠i2->s.heap.get? c=some o->g5.get? c=some o:=fun c o c1 c2 c3 c4 e=>e5.extBut _ _ c2 (e4.extBut _ _ c4 (e3.extBut _ _ c2 (e2.extBut _ _ c3 (e1.extBut _ _ c1 e))));have j15:g5.IsTupleIter i1 t1 (k+1):=Nx (Nx (Nx j12 e3.extBut D.TOi1.symm) e4.extBut D.i12) e5.extBut D.TOi1.symm;have j25:g5.IsTupleIter i2 t2 (k+1):=Nx j24 e5.extBut D.TOi2.symm;have zl:z<g5.objs.size:=Du hz5;show wpAny _ _ (Builtin.SmallTypes.ownedTupleHandOut (.ref z) (.ref g5.objs.size) >>= _) _ _ _;refine Zo ?_;unfold Builtin.SmallTypes.ownedTupleHandOut;have hz6:IsZip (g5.push { cls:=.type "tuple",data:=.seq #[x,y] }) z TI TO .ellipsis:=G4 _ hz5;refine Zo (wpAny_setField_rec hz6 (by simp) fun g7 hz7 e7=>?_);replace hz7:IsZip g7 z TI TO (rawInt g5.objs.size):=hz7;refine wpAny_setField_rec hz7 (by simp) fun g8 hz8 e8=>?_;replace hz8:IsZip g8 z TI TO (rawInt g5.objs.size):=hz8;have up:∀c o,c≠z->g5.get? c=some o->g8.get? c=some o:=fun c o c1 e=>e8.extBut _ _ c1 (e7.extBut _ _ c1 (G4 _ e));have hT8:IsPair g8 g5.objs.size x y:=e8.extBut _ _ (Nat.ne_of_gt zl) (e7.extBut _ _ (Nat.ne_of_gt zl) (Rj _ rfl));have sz8:g8.objs.size=g5.objs.size+1:=by rw[e8.1,e7.1,Heap.size_push]
 rw[sz]at hz8 hT8 sz8;refine Y7 ⟨_,rfl, ?_⟩;show Q (.ref g5.objs.size) _;rw[sz];exact q g8 hz8 (up _ _ D.TOz hO5) (let ⟨o,ho,r⟩:=j15;⟨o,up _ _ D.i1z ho,r⟩) (let ⟨o,ho,r⟩:=j25;⟨o,up _ _ D.i2z ho,r⟩) hT8 sz8 fun c o c1 c2 c3 c4 e=>up c o c1 (kp c o c1 c2 c3 c4 e)
theorem endT{Q:Fin->Shared->Prop}(hh:A.handled=none)(D:ZipApart z TI TO i1 i2 t1 t2)(hz:IsZip s.heap z TI TO .none)(hI:IsPair s.heap TI (.ref i1) (.ref i2))(hO:IsPair s.heap TO a b)(j1:s.heap.IsTupleIter i1 t1 k)(j2:s.heap.IsTupleIter i2 t2 k)(p1:s.heap.IsTuple t1 xs)(p2:s.heap.IsTuple t2 ys)(Zy9:xs[k]?=none\/ys[k]?=none)
  (q:∀h' e,(∀c o,c≠z->c≠TO->c≠i1->c≠i2->s.heap.get? c=some o->h'.get? c=some o)->(∃o,h'.get? e=some o/\o.cls=.type "StopIteration")->E (.ref e) { s with heap:=h' }) :
  wpAny (model prog w) A (Builtin.«zip.__next__» ⟨[.ref z],[]⟩) Q E s:=by
 show wpAny _ _ (field (.ref z) 2 >>= _) _ _ _;refine Zo (wpAny_field hz rfl (x:=.bool false) rfl ?_);show wpAny _ _ (field (.ref z) 3 >>= _) _ _ _;refine Zo (wpAny_field hz rfl (x:=.ref TI) rfl (Zo (wpAny_seqItems hI rfl ?_)));show wpAny _ _ (Builtin.SmallTypes.ownedTupleIsFree (.ref z) >>= _) _ _ _;refine Zo ?_;unfold Builtin.SmallTypes.ownedTupleIsFree;refine Zo (wpAny_field hz rfl (x:=.none) rfl (Y7 ?_));simp only[if_true];refine Zo (wpAny_rule (Zo (wpAny_field hz rfl (x:=.ref TO) rfl ?_)));refine Zo (wpAny_setField_rec hz (by simp) fun g1 hz1 e1=>?_);replace hz1:IsZip g1 z TI TO .ellipsis:=hz1;refine Zo ?_;simp only[List.zipIdx_cons,List.zipIdx_nil,List.forIn_cons,List.forIn_nil];refine Zo (Zo (wpAny_onRaise ?_));show wpAny _ _ (Builtin.SmallTypes.nextOf (.ref i1) >>= _) _ _ _;cases hx:xs[k]? with
 | none =>
  refine Zo (EnuT.endT hh (Nx j1 e1.extBut D.i1z) (Xi p1 e1.extBut D.l1z) hx fun g2 e e2 he=>?_);obtain⟨oe,hoe,hce⟩:=he;have hz2:IsZip g2 z TI TO .ellipsis:=e2 _ _ D.i1z.symm hz1;have ez:e≠z:=fun v=>by subst v;rw[hz2]at hoe;cases hoe;simp at hce
  exact wpAny_setField_rec hz2 (by simp) fun g3 _ e3=>q g3 e (fun c o c1 _ c3 _ v=>e3.extBut _ _ c1 (e2 _ _ c3 (e1.extBut _ _ c1 v))) ⟨oe,e3.extBut _ _ ez hoe,hce⟩
 | some x =>
  have hy:ys[k]?=none:=by rcases Zy9 with h | h;rw[hx]at h;cases h;exact h
  refine Zo (EnuT.Zym (Nx j1 e1.extBut D.i1z) (Xi p1 e1.extBut D.l1z) hx fun g2 j12 e2=>Y7 ?_);have hO2:IsPair g2 TO a b:=e2.extBut _ _ D.TOi1 (e1.extBut _ _ D.TOz hO);refine Zo (wpAny_seqItems hO2 rfl (Zo (wpAny_updateSeq_pair hO2 fun g3 hO3 e3=>?_)));refine Zo (wpAny_letGo (Y7 (Zo (Zo (wpAny_onRaise ?_)))));show wpAny _ _ (Builtin.SmallTypes.nextOf (.ref i2) >>= _) _ _ _;refine Zo (EnuT.endT hh (Nx (Nx (Nx j2 e1.extBut D.i2z) e2.extBut D.i12.symm) e3.extBut D.TOi2.symm) (Xi (Xi (Xi p2 e1.extBut D.l2z) e2.extBut D.l2i1) e3.extBut D.l2TO) hy fun g4 e e4 he=>?_);obtain⟨oe,hoe,hce⟩:=he;have hz4:IsZip g4 z TI TO .ellipsis:=e4 _ _ D.i2z.symm (e3.extBut _ _ D.TOz.symm (e2.extBut _ _ D.i1z.symm hz1));have ez:e≠z:=fun v=>by subst v;rw[hz4]at hoe;cases hoe;simp at hce
  exact wpAny_setField_rec hz4 (by simp) fun g5 _ e5=>q g5 e (fun c o c1 c2 c3 c4 v=>e5.extBut _ _ c1 (e4 _ _ c4 (e3.extBut _ _ c2 (e2.extBut _ _ c3 (e1.extBut _ _ c1 v))))) ⟨oe,e5.extBut _ _ ez hoe,hce⟩
theorem Zyd{Q:Option Value->Shared->Prop}(D:ZipApart z TI TO i1 i2 t1 t2)(hz:IsZip s.heap z TI TO .none)(hI:IsPair s.heap TI (.ref i1) (.ref i2))(hO:IsPair s.heap TO a b)(j1:s.heap.IsTupleIter i1 t1 k)(j2:s.heap.IsTupleIter i2 t2 k)(p1:s.heap.IsTuple t1 xs)(p2:s.heap.IsTuple t2 ys)(hx:xs[k]?=some x)(hy:ys[k]?=some y)
  (q:∀h',IsZip h' z TI TO (rawInt s.heap.objs.size)->IsPair h' TO x y->h'.IsTupleIter i1 t1 (k+1)->h'.IsTupleIter i2 t2 (k+1)->IsPair h' s.heap.objs.size x y->h'.objs.size=s.heap.objs.size+1->(∀c o,c≠z->c≠TO->c≠i1->c≠i2->s.heap.get? c=some o->h'.get? c=some o)->Q (some (.ref s.heap.objs.size)) { s with heap:=h' }) :
  wpAny (model prog w) A (pyNext (.ref z)) Q E s:=by
 have T:s.TypeIs (.ref z) "zip" := ⟨_,hz,rfl⟩;unfold pyNext;exact Zo (wpAny_attempt (wpAny_callSpecial?_slot (name:=Str.ofString "__next__") T F.slot_zip_next (wpAny_call_entry F.slot_zip_next T F.entry_zip_next (itemT D hz hI hO j1 j2 p1 p2 hx hy fun h' a1 a2 a3 a4 a5 a6 a7=>Y7 (q h' a1 a2 a3 a4 a5 a6 a7)) (F.args_zip_next_1 _))))
theorem Zbd{Q:Option Value->Shared->Prop}(hh:A.handled=none)(D:ZipApart z TI TO i1 i2 t1 t2)(hz:IsZip s.heap z TI TO .none)(hI:IsPair s.heap TI (.ref i1) (.ref i2))(hO:IsPair s.heap TO a b)(j1:s.heap.IsTupleIter i1 t1 k)(j2:s.heap.IsTupleIter i2 t2 k)(p1:s.heap.IsTuple t1 xs)(p2:s.heap.IsTuple t2 ys)(Zy9:xs[k]?=none\/ys[k]?=none)
  (q:∀h',(∀c o,c≠z->c≠TO->c≠i1->c≠i2->s.heap.get? c=some o->h'.get? c=some o)->Q none { s with heap:=h' }):wpAny (model prog w) A (pyNext (.ref z)) Q E s:=by
 have T:s.TypeIs (.ref z) "zip" := ⟨_,hz,rfl⟩;unfold pyNext;refine Zo (wpAny_attempt (wpAny_callSpecial?_slot (name:=Str.ofString "__next__") T F.slot_zip_next (wpAny_call_entry F.slot_zip_next T F.entry_zip_next (endT hh D hz hI hO j1 j2 p1 p2 Zy9 fun h' e hk he=>?_) (F.args_zip_next_1 _))));obtain⟨o,ho,hc⟩:=he;exact Zo (wpAny_isInstance (T:="StopIteration") (b:=true) ⟨o,ho,hc⟩ isSubtype_stop (Y7 (q _ hk)))
end
abbrev H1(h:Heap)(l1:Addr):Heap:=h.push { cls:=.type "tuple_iterator",data:=.fields #[.ref l1,.int 0 0] }
abbrev H2(h:Heap)(l1 l2:Addr):Heap:=(H1 h l1).push { cls:=.type "tuple_iterator",data:=.fields #[.ref l2,.int 0 0] }
abbrev H3(h:Heap)(l1 l2:Addr):Heap:=(H2 h l1 l2).push { cls:=.type "tuple",data:=.seq #[.ref h.objs.size,.ref (H1 h l1).objs.size] }
abbrev H4(h:Heap)(l1 l2:Addr):Heap:=(H3 h l1 l2).push { cls:=.type "tuple",data:=.seq #[.none,.none] }
abbrev H5(h:Heap)(l1 l2:Addr):Heap:=(H4 h l1 l2).push { cls:=.type "zip",data:=.fields #[.none,.bool false,.bool false,.ref (H2 h l1 l2).objs.size,.ref (H3 h l1 l2).objs.size] }
theorem meets(l1 l2:Addr)(xs ys:Array Value) :
  Meets (Builtin.«zip.__new__» ⟨[.type "zip",.ref l1,.ref l2],[]⟩) (fun _ R s=>s.heap.IsTuple l1 xs/\s.heap.IsTuple l2 ys /\
   R (.ok (.ret (.ref (H4 s.heap l1 l2).objs.size))) { s with heap:=H5 s.heap l1 l2 }) :=
 .of_wp fun prog w A R s h=>by
  obtain⟨hp,g,d,tk,os⟩:=s;obtain⟨Ax,hl2,h⟩:=h;have hsub:=sub_zip;have hL1:Heap.IsTuple (Shared.heap ⟨hp,g,d,tk,os⟩) l1 xs:=Ax;have hL2:Heap.IsTuple (Shared.heap ⟨hp.push { cls:=.type "tuple_iterator",data:=.fields #[.ref l1,.int 0 0] },g,d,tk,os⟩) l2 ys:=let ⟨o,ho,r⟩:=hl2;⟨o,G4 _ ho,r⟩
  wp_walk using wpAny_pyIter_tuple hL1,wpAny_pyIter_tuple hL2
  exact⟨_,rfl,h⟩
theorem call2{prog:Program}{w:World}{A:Around}{E:Vt}{s:Shared}{l1 l2:Addr}{xs ys:Array Value}{Q:Vt}(Ax:s.heap.IsTuple l1 xs)(hl2:s.heap.IsTuple l2 ys)
  (h:∀h',IsZip h' (s.heap.objs.size+4) (s.heap.objs.size+2) (s.heap.objs.size+3) .none->IsPair h' (s.heap.objs.size+2) (.ref s.heap.objs.size) (.ref (s.heap.objs.size+1)) ->
   IsPair h' (s.heap.objs.size+3) .none .none->h'.IsTupleIter s.heap.objs.size l1 0->h'.IsTupleIter (s.heap.objs.size+1) l2 0->h'.objs.size=s.heap.objs.size+5 ->
   (∀c o,s.heap.get? c=some o->h'.get? c=some o)->Q (.ref (s.heap.objs.size+4)) { s with heap:=h' }) :
  wpAny (model prog w) A (call (.type "zip") [.ref l1,.ref l2]) Q E s:=by
 refine callType_new F.called_zip (by decide) (F.typeCall_zip_2 _ _) (F.newCall_zip_2 _ _) (fun obj=>F.args_object_init_3 obj _ _) F.entry_zip_new (meets l1 l2 xs ys) ⟨Ax,hl2, ?_⟩;have z1:(H1 s.heap l1).objs.size=s.heap.objs.size+1:=Heap.size_push ..;have z2:(H2 s.heap l1 l2).objs.size=s.heap.objs.size+2:=by rw[Heap.size_push,z1]
 have z3:(H3 s.heap l1 l2).objs.size=s.heap.objs.size+3:=by rw[Heap.size_push,z2]
 have z4:(H4 s.heap l1 l2).objs.size=s.heap.objs.size+4:=by rw[Heap.size_push,z3]
 have z5:(H5 s.heap l1 l2).objs.size=s.heap.objs.size+5:=by rw[Heap.size_push,z4]
 have g5:(H5 s.heap l1 l2).get? (H4 s.heap l1 l2).objs.size=some _:=Rj _ rfl;have g4:(H5 s.heap l1 l2).get? (H3 s.heap l1 l2).objs.size=some _:=G4 _ (Rj _ rfl);have g3:(H5 s.heap l1 l2).get? (H2 s.heap l1 l2).objs.size=some _:=G4 _ (G4 _ (Rj _ rfl));have g2:(H5 s.heap l1 l2).get? (H1 s.heap l1).objs.size=some _:=G4 _ (G4 _ (G4 _ (Rj _ rfl)));have g1:(H5 s.heap l1 l2).get? s.heap.objs.size=some _:=G4 _ (G4 _ (G4 _ (G4 _ (Rj _ rfl))));show _/\_;rw[z2,z3,z4]at g5;rw[z1,z2]at g3;rw[z3]at g4;rw[z1]at g2;rw[z4]
 exact⟨⟨_,g5,rfl⟩,h _ g5 g3 g4 ⟨_,g1,rfl,rfl⟩ ⟨_,g2,rfl,rfl⟩ z5 fun c o x =>
  G4 _ (G4 _ (G4 _ (G4 _ (G4 _ x))))⟩
end ZipT
namespace L2
open PySem PySem.Spec PyProof.Rows
def Itzt(K:W.Frag)(l1 l2:Addr):It :=
  ⟨fun i H=>∃xs ys x y,Yv K H l1 xs/\Yv K H l2 ys/\xs[i]?=some x/\ys[i]?=some y,
   fun i H v H'=>∃p x y,v=.ref p/\H p=none/\H'=Yq H p (.tup [x,y])/\(∀xs,Yv K H l1 xs->xs[i]?=some x)/\∀ys,Yv K H l2 ys->ys[i]?=some y,
   fun i H=>∃xs ys,Yv K H l1 xs/\Yv K H l2 ys/\(xs.length<=i\/ys.length<=i)⟩
theorem Zxz{P:Program}{w:World}{K:W.Frag}{es:List Expr}{k:Nat}{pos:Pos}(z TI TO i1 i2 l1 l2:Addr)(D:ZipApart z TI TO i1 i2 l1 l2) :
  A8 P w K (.Tuple es k pos) (Itzt K l1 l2) [z,TI,TO,i1,i2] z (fun i h=>IsZip h z TI TO .none/\IsPair h TI (.ref i1) (.ref i2)/\(∃a b,IsPair h TO a b)/\h.IsTupleIter i1 l1 i/\h.IsTupleIter i2 l2 i) where
 mem:=by simp
 obj:=fun i h st b hb=>by
  obtain⟨hz,xy,⟨a,c,yb⟩,⟨o1,e1,_,d1⟩,⟨o2,e2,_,d2⟩⟩:=st;simp only[G2,U6,or_false]at hb;rcases hb with rfl | rfl | rfl | rfl | rfl
  ·exact⟨_,hz,fun v q=>nomatch q⟩
  ·exact⟨_,xy,fun v q=>nomatch q⟩
  ·exact⟨_,yb,fun v q=>nomatch q⟩
  ·exact⟨_,e1,fun v q=>by rw[d1]at q;cases q⟩
  ·exact⟨_,e2,fun v q=>by rw[d2]at q;cases q⟩
 keep:=fun i h h' st hk=>by
  obtain⟨hz,xy,⟨a,b,yb⟩,h1,h2⟩:=st;exact⟨hk z (by simp) _ hz,hk TI (by simp) _ xy,⟨a,b,hk TO (by simp) _ yb⟩,(let ⟨o,ho,r⟩:=h1;⟨o,hk i1 (by simp) o ho,r⟩),(let ⟨o,ho,r⟩:=h2;⟨o,hk i2 (by simp) o ho,r⟩)⟩
 item:=by
  intro X hP hw hK hc i pins s σ H E I hf st hg;subst hP hw hK;obtain⟨xs,ys,x,y,q1,q2,g1,g2⟩:=hg;obtain⟨hz,xy,⟨a,b,yb⟩,h1,h2⟩:=st;obtain⟨is1,v1,pl1,z1⟩:=I.tuple q1;obtain⟨is2,v2,pl2,z2⟩:=I.tuple q2;obtain⟨u1,e1,r1⟩:=v1.get g1;obtain⟨u2,e2,r2⟩:=v2.get g2;refine ZipT.Zyd D hz xy yb h1 h2 (show s.heap.IsTuple l1 is1.toArray from pl1) (show s.heap.IsTuple l2 is2.toArray from pl2) (x:=u1) (y:=u2) (by simpa using e1) (by simpa using e2) fun h' a1 a2 a3 a4 a5 a6 hk=>?_;refine⟨_,rfl,wpAny_letOwnedTupleGo_zip (s:={ s with heap:=h' }) a1 fun h'' hz' hs'=>?_⟩;have lt:∀{c o},s.heap.get? c=some o->s.heap.objs.size≠c:=fun e=>Nat.ne_of_gt (Du e);have nz:s.heap.objs.size≠z:=lt hz
  have kk:∀c u,c ∉ [z,TI,TO,i1,i2]->s.heap.get? c=some u->h''.get? c=some u:=fun c u m e=>by
   simp only[G2,U6,or_false,not_or]at m;exact hs'.extBut _ _ m.1 (hk c u m.1 m.2.2.1 m.2.2.2.1 m.2.2.2.2 e)
  have fresh:=I.hok.fresh (Vj s.heap.objs.size);have J:Zi X pins σ (Yq H s.heap.objs.size (.tup [x,y])) { s with heap:=h'',toks:=s.toks }:=I.turnLay kk hf (Vj _) ⟨by show 2<=sizeLine;decide,[u1,u2],.cons r1 (.cons r2 .nil),⟨_,hs'.extBut _ _ nz a5,rfl,⟨_,rfl⟩,rfl⟩⟩;refine⟨.ref s.heap.objs.size,_,J,rfl,⟨_,x,y,rfl,fresh,rfl,fun ws hw=>by rw[I.tuple_inj hw q1];exact g1,fun ws hw=>by rw[I.tuple_inj hw q2];exact g2⟩,⟨hz',hs'.extBut _ _ D.TIz (hk _ _ D.TIz D.TITO D.TIi1 D.TIi2 xy),⟨_,_,hs'.extBut _ _ D.TOz a2⟩,ZipT.Nx a3 hs'.extBut D.i1z,ZipT.Nx a4 hs'.extBut D.i2z⟩,fun c hc=>?_⟩
  have nc:c≠s.heap.objs.size:=fun q=>by
   subst q;simp only[G2,U6,or_false]at hc;rcases hc with q | q | q | q | q
   ·exact lt hz q
   ·exact lt xy q
   ·exact lt yb q
   ·obtain⟨_,e,_⟩:=h1;exact lt e q
   ·obtain⟨_,e,_⟩:=h2;exact lt e q
  rw[Zl nc];exact(hf c hc).1
 done:=by
  intro X hP hw hK hc i pins s σ H E I hf st hg;subst hP hw hK;obtain⟨xs,ys,q1,q2,g⟩:=hg;obtain⟨hz,xy,⟨a,b,yb⟩,h1,h2⟩:=st;obtain⟨is1,v1,pl1,z1⟩:=I.tuple q1;obtain⟨is2,v2,pl2,z2⟩:=I.tuple q2;have Ax:=v1.length;have hl2:=v2.length;refine ZipT.Zbd (I.ok.hd hc) D hz xy yb h1 h2 (show s.heap.IsTuple l1 is1.toArray from pl1) (show s.heap.IsTuple l2 is2.toArray from pl2) (by rcases g with g | g;exact .inl (by simp;omega);exact .inr (by simp;omega)) fun h' hk=>⟨rfl,I.turnL (t':=s.toks) (fp:=[z,TI,TO,i1,i2]) (fun c u m e=>?_) hf⟩;simp only[G2,U6,or_false,not_or]at m;exact hk c u m.1 m.2.2.1 m.2.2.2.1 m.2.2.2.2 e
 self:=fun A i s Q E st h=>wpAny_pyIter_zip st.1 h
inductive Zb2(K:W.Frag)(R:(It->Hp->Prop))(vs:List V)(H1:Hp):Prop
 | mk(p q)(Vg:vs=[.ref p,.ref q])(Vk:(∃xs,Yv K H1 p xs))(V1:(∃ys,Yv K H1 q ys))(Jk:R (Itzt K p q) H1)
def iZipT(K:W.Frag)(t:TA):TI:=fun σ H R=>t σ H fun vs H1=>Zb2 K R vs H1
section
variable{X:Cx}{es:List Expr}{k:Nat}{p2 pos M8:Pos}{a b:Expr}{t:TA}
theorem zv(hgz:Gl X "zip")(hmz:X.mg "zip" = none)(ha:PA X [a,b] t)
  (he2:starEach [a,b] X.env=(false,eval a X.env)::starEach [b] X.env:=by rfl) (P0:(backTo M8 (starEach [b] X.env)).any (·.1)=false:=by rfl) :
  PI X (.Tuple es k pos) (.Call (.Name "zip" p2) [a,b] [] M8) (iZipT X.K t):=by
 intro pins s σ H R I h;refine wpAny_Call_Name_kw (Ld I hgz hmz (by decide +kernel:bootBuiltins "zip" = some (.type "zip")) ?_ (by decide) (by decide));refine callWith_type1 (V0 (ha M8 pins s σ H _ I h) fun us s1 ⟨vs,H1,I1,r1,q1⟩=>?_) he2 P0;obtain⟨l1,l2,rfl,⟨xs,hx⟩,⟨ys,hy⟩,q⟩:=q1;obtain⟨u1,u2,rfl,e1,e2⟩:=ue r1;cases e1;cases e2;obtain⟨is1,v1,pl1,z1⟩:=I1.tuple hx;obtain⟨is2,v2,pl2,z2⟩:=I1.tuple hy;have n1:l1<s1.heap.objs.size:=by obtain⟨_,e,_⟩:=(show s1.heap.IsTuple l1 is1.toArray from pl1);exact Du e
 have n2:l2<s1.heap.objs.size:=by obtain⟨_,e,_⟩:=(show s1.heap.IsTuple l2 is2.toArray from pl2);exact Du e
 refine ZipT.call2 (show s1.heap.IsTuple l1 is1.toArray from pl1) (show s1.heap.IsTuple l2 is2.toArray from pl2) fun h2 b1 b2 b3 b4 b5 b6 k2=>?_;refine wpAny_pyIter_zip (s:={ s1 with heap:=h2 }) b1 ?_;have J:Zi X pins σ H1 { s1 with heap:=h2,toks:=s1.toks }:=I1.kept k2;refine⟨_,[s1.heap.objs.size+4,s1.heap.objs.size+2,s1.heap.objs.size+3,s1.heap.objs.size,s1.heap.objs.size+1],_,_,H1,rfl,J,Zxz _ _ _ _ _ l1 l2 (zipApart_new n1 n2),⟨b1,b2,⟨_,_,b3⟩,b4,b5⟩,fun c hc=>?_,q⟩
 have ge:s1.heap.objs.size<=c:=by
  simp only[G2,U6,or_false]at hc;rcases hc with q | q | q | q | q<;>rw[q]<;>first | exact Vj _ | exact Nat.le_add_right _ _
 exact I1.fpOk ge (I1.hok.fresh ge)
end
theorem P7{K:PySem.W.Frag}{l1 l2 D:Addr}{xs ys:List V}{g:TG}{tt:TT}{te:TE}{fin:Hp->Prop}{σ0:St}{H0:Hp}(Pv:Nat->List V->St->Hp->Prop)(h0:Pv 0 [] σ0 H0)
  (hq:∀i zs σ H,i<=min xs.length ys.length->Pv i zs σ H->Yv K H l1 xs/\Yv K H l2 ys/\H D=some (.lst zs))
  (hs:∀i x y p zs σ H,xs[i]?=some x->ys[i]?=some y->Pv i zs σ H->H p=none->g (.ref p) σ (Yq H p (.tup [x,y])) fun σ2 H2=>tt σ2 H2 fun ok H3=>if ok=true then te σ2 H3 fun y H4=>H4 D=some (.lst zs)/\zs.length<sizeLine/\Pv (i+1) (zs++[y]) σ2 (Yq H4 D (.lst (zs++[y]))) else Pv (i+1) zs σ2 H3)
  (hd:∀zs σ H,Pv (min xs.length ys.length) zs σ H->fin H):∃W:Nat->Nat->List V->St->Hp->Prop,(∃m,W 0 m [] σ0 H0)/\Nm (Itzt K l1 l2) g tt te D W fin:=by
 refine⟨fun i m zs σ H=>m=min xs.length ys.length - i/\i<=min xs.length ys.length/\Pv i zs σ H,⟨min xs.length ys.length,by simp,Wl _,h0⟩, ?_⟩;rintro i m zs σ H ⟨rfl,hi,p⟩;obtain⟨q1,q2,hD⟩:=hq i zs σ H hi p;refine⟨hD, ?_⟩;by_cases Nc:i<min xs.length ys.length
 ·have c1:i<xs.length:=by omega
  have c2:i<ys.length:=by omega
  refine .inr ⟨⟨xs,ys,xs[i],ys[i],q1,q2,by simp[c1],by simp[c2]⟩,Pv (i+1),fun ys' σ' H' p'=>⟨min xs.length ys.length - (i+1),by omega,rfl,Nc,p'⟩,fun v H' y=>?_⟩;obtain⟨a,x,y',rfl,hn,rfl,y1,y2⟩:=y;exact hs i x y' a zs σ H (y1 xs q1) (y2 ys q2) p hn
 ·have e:i=min xs.length ys.length:=by omega
  subst e;exact .inl ⟨⟨xs,ys,q1,q2,by omega⟩,hd zs σ H p⟩
section
variable{X:Cx}
inductive Zxi(K:W.Frag)(A:Around)(x:V)(y:V)(H:Hp)(Q:VK):Prop
 | mk(a b xs)(Vg:x=.ref a)(Vk:y=.ref b)(V1:Yv K H a xs)(Jk:Yv K H b [])(Mn:A.units<cLine)(Wb:Q (.bl xs.isEmpty) H)
def Zfi(K:W.Frag)(A:Around):R2:=fun x y H Q=>Zxi K A x y H Q
theorem Io:Nd X (compareOp .Eq) (Zfi X.K X.A):=by
 intro pins s σ H x y v u Q I rx ry h;obtain⟨a,b,xs,rfl,rfl,ha,hb,hu,q⟩:=h;cases rx;cases ry;obtain⟨i1,r1,p1,z1⟩:=I.tuple ha;obtain⟨i2,r2,p2,z2⟩:=I.tuple hb;have e2:i2=[]:=by cases r2;rfl
 subst e2;have:=SeqAt.RcAt.tuples (A:=X.A) (e:=fun _=>true) (show s.heap.IsTuple a i1.toArray from p1) (show s.heap.IsTuple b #[] from p2) hu (fun j h1 h2=>absurd h2 (by simp))
 have e:((List.range (min i1.toArray.size (#[]:Array Value).size)).all (fun _=>true) && i1.toArray.size == (#[]:Array Value).size)=xs.isEmpty:=by
  have hl:=r1.length;cases xs with
  | nil =>
   have e1:i1=[]:=by cases r1;rfl
   subst e1;rfl
  | cons x xs =>
   rw[Dy, <-hl];simp
 rw[e]at this;exact this X.prog X.w X.xe _ ⟨.bl _,H,I,rfl,q⟩
end
def Zgy(K:W.Frag)(a:Addr)(xs:List V):It :=
  ⟨fun i H=>i<xs.length/\Z0 K H a xs,
   fun i H v H'=>∃p x,v=.ref p/\H p=none/\H'=Yq H p (.tup [.int i,x])/\xs[i]?=some x,
   fun i H=>xs.length<=i/\Z0 K H a xs⟩
theorem bc{P:Program}{w:World}{K:W.Frag}{es:List Expr}{k:Nat}{pos:Pos}(e it a:Addr)(xs:List V)(hei:e≠it)(hae:a≠e)(hai:a≠it) :
  A8 P w K (.Tuple es k pos) (Zgy K a xs) [e,it] e (fun i h=>i<=xs.length/\(∃old,IsEnum h e it ((i:Nat):Int) old)/\h.IsListIter it a i) where
 mem:=by simp
 obj:=fun i h st b hb=>by
  obtain⟨_,⟨old,he⟩,⟨o,eo,_,d⟩⟩:=st;simp only[G2,U6,or_false]at hb;rcases hb with rfl | rfl
  ·exact⟨_,he,fun v q=>nomatch q⟩
  ·exact⟨_,eo,fun v q=>by rw[d]at q;cases q⟩
 keep:=fun i h h' st hk=>by
  obtain⟨hi,⟨old,he⟩,ht⟩:=st;exact⟨hi,⟨old,hk e (by simp) _ he⟩,ht.at fun o eo=>hk it (by simp) o eo⟩
 item:=by
  intro X hP hw hK hc i pins s σ H E I hf st hg;subst hP hw hK;obtain⟨Nc,hq⟩:=hg;obtain⟨hi,⟨old,he⟩,ht⟩:=st;obtain⟨its,rv,p,_⟩:=I.list hq;have hx:xs[i]?=some xs[i]:=Nn Nc;obtain⟨u,hu,ru⟩:=rv.get hx;have hsz:its.toArray.size=xs.length:=by rw[Dy];exact rv.length.symm
  refine wpAny_pyNext_enum_itemD (Draws.list (A:=X.A.in1) (I.ok.hd hc) it a hai its.toArray) he ⟨ht,p.isList⟩ (by omega) hei (by simp only[G2,U6,or_false,not_or];exact⟨hei,fun q=>hae q.symm⟩) fun y h' tk py ho fk xq hz' hk=>?_
  have ey:y=u:=by
   have z:its.toArray[i]?=some u:=by simpa using hu
   exact Hn (py.symm.trans z)
  subst ey;refine⟨_,rfl,wpAny_letOwnedTupleGo_enum (s:={ s with heap:=h',toks:=tk+1 }) ho fun h'' he'' hs''=>?_⟩;have lt:∀{c o},s.heap.get? c=some o->s.heap.objs.size≠c:=fun q=>Nat.ne_of_gt (Du q);have ne:s.heap.objs.size≠e:=lt he
  have kk:∀c o,c ∉ [e,it]->s.heap.get? c=some o->h''.get? c=some o:=fun c o m q=>by
   simp only[G2,U6,or_false,not_or]at m;exact hs''.extBut _ _ m.1 (hk c o m.1 m.2 q)
  have J:Zi X pins σ (Yq H s.heap.objs.size (.tup [.int i,xs[i]])) { s with heap:=h'',toks:=tk+1 }:=I.turnLay kk hf (Vj _) ⟨by show 2<=sizeLine;decide,[.int i tk,y],.cons ⟨tk,rfl⟩ (.cons ru .nil),⟨_,hs''.extBut _ _ ne xq,rfl,⟨_,rfl⟩,rfl⟩⟩;refine⟨.ref s.heap.objs.size,_,J,rfl,⟨_,_,rfl,I.hok.fresh (Vj _),rfl,hx⟩,⟨by omega,⟨_,by have:=he'';simpa using this⟩,fk.1.extBut hs''.extBut (fun q=>hei q.symm)⟩,fun c hc=>?_⟩
  have nc:c≠s.heap.objs.size:=fun q=>by
   subst q;simp only[G2,U6,or_false]at hc;rcases hc with q | q
   ·exact lt he q
   ·obtain⟨_,eo,_⟩:=ht;exact lt eo q
  rw[Zl nc];exact(hf c hc).1
 done:=by
  intro X hP hw hK hc i pins s σ H E I hf st hg;subst hP hw hK;obtain⟨hge,hq⟩:=hg;obtain⟨hi,⟨old,he⟩,ht⟩:=st;obtain⟨its,rv,p,_⟩:=I.list hq;have hsz:its.toArray.size=xs.length:=by rw[Dy];exact rv.length.symm
  have ei:i=its.toArray.size:=by omega
  rw[ei]at ht;refine wpAny_pyNext_enum_endD (Draws.list (A:=X.A.in1) (I.ok.hd hc) it a hai its.toArray) he ⟨ht,p.isList⟩ fun h' eb=>⟨rfl,I.turnL (t':=s.toks) (fp:=[e,it]) (fun c u m q=>?_) hf⟩;simp only[G2,U6,or_false,not_or]at m;exact eb c u m.2 q
 self:=fun A i s Q E st h=>by
  obtain⟨_,⟨old,he⟩,_⟩:=st;exact wpAny_pyIter_enum he h
inductive Zy3(K:W.Frag)(R:(It->Hp->Prop))(vs:List V)(H1:Hp):Prop
 | mk(p xs)(Vg:vs=[.ref p])(Vk:Z0 K H1 p xs)(V1:R (Zgy K p xs) H1)
def iEnumL(K:W.Frag)(t:TA):TI:=fun σ H R=>t σ H fun vs H1=>Zy3 K R vs H1
section
variable{X:Cx}{es:List Expr}{k:Nat}{p2 pos M8:Pos}{a:Expr}{t:TA}
theorem Zvi(hgz:Gl X "enumerate")(hmz:X.mg "enumerate" = none)(ha:PA X [a] t)
  (he2:starEach [a] X.env=(false,eval a X.env)::starEach [] X.env:=by rfl) (P0:(backTo M8 (starEach [] X.env)).any (·.1)=false:=by rfl) :
  PI X (.Tuple es k pos) (.Call (.Name "enumerate" p2) [a] [] M8) (iEnumL X.K t):=by
 intro pins s σ H R I h;refine wpAny_Call_Name_kw (Ld I hgz hmz (by decide +kernel:bootBuiltins "enumerate" = some (.type "enumerate")) ?_ (by decide) (by decide));refine callWith_type1 (V0 (ha M8 pins s σ H _ I h) fun us s1 ⟨vs,H1,I1,r1,q1⟩=>?_) he2 P0;obtain⟨l,xs,rfl,hx,q⟩:=q1;obtain⟨u1,rfl,e1⟩:=Tu r1;cases e1;obtain⟨its,rv,pl,z⟩:=I1.list hx;have nl:l<s1.heap.objs.size:=by obtain⟨_,e,_⟩:=pl.isList;exact Du e
 refine call_enumerate_list pl.isList fun h2 b1 b2 _ k2=>?_;refine wpAny_pyIter_enum (s:={ s1 with heap:=h2 }) b1 ?_;have J:Zi X pins σ H1 { s1 with heap:=h2,toks:=s1.toks }:=I1.kept k2;refine⟨_,[s1.heap.objs.size+1,s1.heap.objs.size],_,_,H1,rfl,J,bc _ _ l xs (Nat.succ_ne_self _) (Oj (Nat.lt_succ_of_lt nl)) (Oj nl),⟨Wl _,⟨_,b1⟩,b2⟩,fun c hc=>?_,q⟩
 have ge:s1.heap.objs.size<=c:=by
  simp only[G2,U6,or_false]at hc;rcases hc with q | q<;>rw[q]<;>first | exact Vj _ | exact Nat.le_add_right _ _
 exact I1.fpOk ge (I1.hok.fresh ge)
end
theorem Zq0{K:PySem.W.Frag}{a:Addr}{xs:List V}{g:TG}{tb:TS}{D:Fx}{σ:St}{H:Hp}(Pv:Nat->St->Hp->Prop)(h0:Pv 0 σ H)(hl:∀i σ H,i<=xs.length->Pv i σ H->Z0 K H a xs)
  (hs:∀i x p σ H,xs[i]?=some x->Pv i σ H->H p=none->g (.ref p) σ (Yq H p (.tup [.int i,x])) fun σ2 H2=>tb { D with nx:=Pv (i+1),ct:=Pv (i+1),bk:=D.nx } σ2 H2) (hd:∀σ H,Pv xs.length σ H->D.nx σ H) :
  ∃W:Nat->Nat->St->Hp->Prop,(∃m,W 0 m σ H)/\∀i m σ H,W i m σ H ->
   ((Zgy K a xs).stop i H/\D.nx σ H)\/((Zgy K a xs).go i H/\∃N:St->Hp->Prop,(∀σ' H',N σ' H'->∃m',m'<m/\W (i+1) m' σ' H')/\∀x H',(Zgy K a xs).yld i H x H'->g x σ H' fun σ2 H2=>tb { D with nx:=N,ct:=N,bk:=D.nx } σ2 H2):=by
 refine⟨fun i m σ H=>m=xs.length - i/\i<=xs.length/\Pv i σ H,⟨xs.length,by simp,Wl _,h0⟩, ?_⟩;rintro i m σ H ⟨rfl,hi,p⟩;have q:=hl i σ H hi p;by_cases Nc:i<xs.length
 ·refine .inr ⟨⟨Nc,q⟩,Pv (i+1),fun σ' H' p'=>⟨xs.length - (i+1),by omega,rfl,Nc,p'⟩,fun x H' y=>?_⟩;obtain⟨r,z,rfl,hr,rfl,hz⟩:=y;exact hs i z r σ H hz p hr
 ·have e:i=xs.length:=by omega
  subst e;exact .inl ⟨⟨Vj _,q⟩,hd σ H p⟩
mutual
def rpD:D->Str
 | .non=>Str.ofString "None"
 | .bl b=>if b=true then Str.ofString "True" else Str.ofString "False"
 | .int i=>Str.ofString (toString i)
 | .str x=>reprText x
 | .tup ds=>tupleText (Zfr ds)
 | .lst _=>Str.ofString "[]"
def Zfr:List D->List Str
 | []=>[]
 | d::ds=>rpD d::Zfr ds
end
mutual
def rpOk:D->Prop
 | .int i=>i.natAbs.log2<1920
 | .str x=>(reprText x).length<=sizeLine
 | .tup ds=>je ds
 | .lst _=>False
 | _=>True
def je:List D->Prop
 | []=>True
 | d::ds=>rpOk d/\je ds
end
mutual
def lvD:D->Nat
 | .tup ds=>vp ds+1
 | _=>0
def vp:List D->Nat
 | []=>0
 | d::ds=>max (lvD d) (vp ds)
end
theorem Zvl{P:Program}{w:World}{as as':List Addr}{h:Heap}{d d':Nat}(ha:∀b∈as,b∈as')(hd:d<=d'):∀{l:List Value} {ts:List Str},ReprAllK P w as h d l ts->ReprAllK P w as' h d' l ts
 | _,_,.nil=>.nil
 | _,_,.cons r t=>.cons ((r.more ha).level_le hd) (Zvl ha hd t)
section
variable{X:Cx}{pins:Uv}{σ:St}{H:Hp}{s:Shared}
mutual
theorem Zfh(I:Zi X pins σ H s):∀(d:D) (v:V) (u:Value),Gp X.K H d v->Z9 v u->rpOk d->∃as,ReprK X.prog X.w as s.heap (lvD d) u (rpD d)/\∀b∈as,∃e,Gp X.K H e (.ref b)/\lvD e<=lvD d
 | .non,v,u,h,r,_=>by
  cases Zr h;cases Zr r;exact⟨[],.of_is .none _ _ _,fun b m=>absurd m U6⟩
 | .bl b,v,u,h,r,_=>by
  cases Zr h;cases Zr r;exact⟨[],.of_is (.bool b) _ _ _,fun b m=>absurd m U6⟩
 | .int i,v,u,h,r,k=>by
  cases Zr h;obtain⟨t,rfl⟩:=(show ∃t,u=Value.int i t from r);exact⟨[],.of_is (.int t k) _ _ _,fun b m=>absurd m U6⟩
 | .str x,v,u,h,r,k=>by
  cases Zr h;obtain⟨t,rfl⟩:=(show ∃t,u=Value.str x t from r);exact⟨[],.of_is (.str x t k) _ _ _,fun b m=>absurd m U6⟩
 | .tup ds,v,u,h,r,k=>by
  obtain⟨a,vs,rfl,q,ar⟩:=(show ∃a vs,v=.ref a/\Yv X.K H a vs/\Vy X.K H ds vs from h);cases Zr r;obtain⟨its,rv,tp,_⟩:=I.tuple q;obtain⟨as,ra,ea⟩:=E6 I ds vs its ar rv k
  have na:a ∉ as:=fun m=>by
   obtain⟨e,ie,le⟩:=ea a m;have z:=Gp.inj I e (.tup ds) (.ref a) ie h;rw[z]at le;simp only[lvD]at le;omega
  obtain⟨o,n,ho,hc,hd⟩:∃o n,s.heap.get? a=some o/\o.cls=.type "tuple" /\ o.data=.seq its.toArray n:=by
   obtain⟨o,h1,h2,n,h3⟩:=tp;exact⟨o,n,h1,h2,h3⟩
  refine⟨a::as, ?_,fun b m=>?_⟩
  ·simp only[lvD,rpD];exact ReprK.tuple ho hc hd na (by simpa using ra)
  ·rcases G2.mp m with rfl | m
   ·exact⟨_,h,Vj _⟩
   ·obtain⟨e,ie,le⟩:=ea b m;exact⟨e,ie,by simp only[lvD];omega⟩
 | .lst _,_,_,_,_,k=>False.elim k
theorem E6(I:Zi X pins σ H s):∀(ds:List D) (vs:List V) (us:List Value),Vy X.K H ds vs->Yb vs us->je ds->∃as,ReprAllK X.prog X.w as s.heap (vp ds) us (Zfr ds)/\∀b∈as,∃e,Gp X.K H e (.ref b)/\lvD e<=vp ds
 | [],vs,us,h,r,_=>by
  cases Zr h;cases r;exact⟨[],.nil,fun b m=>absurd m U6⟩
 | d::ds,vs,us,h,r,k=>by
  obtain⟨v,vr,rfl,h1,h2⟩:=(show ∃v r,vs=v::r/\Gp X.K H d v/\Vy X.K H ds r from h);cases r with
  | cons r1 r2 =>
   obtain⟨as,a1,a2⟩:=Zfh I d v _ h1 r1 k.1;obtain⟨bs,b1,b2⟩:=E6 I ds vr _ h2 r2 k.2;refine⟨as++bs, ?_,fun b m=>?_⟩
   ·simp only[vp,Zfr];exact .cons ((a1.more fun b m=>List.mem_append_left _ m).level_le (Nat.le_max_left _ _)) (Zvl (fun b m=>M0r _ m) (Nat.le_max_right _ _) b1)
   ·simp only[vp];rcases T6.mp m with m | m
    ·obtain⟨e,ie,le⟩:=a2 b m;exact⟨e,ie,Gw le (Nat.le_max_left _ _)⟩
    ·obtain⟨e,ie,le⟩:=b2 b m;exact⟨e,ie,Gw le (Nat.le_max_right _ _)⟩
end
end
section
variable{X:Cx}
inductive qv(K:W.Frag)(xs:List V)(H:Hp)(Q:VK):Prop
 | mk(x:V)(ds:List D)(Vg:xs=[x])(Vk:Gp K H (.tup ds) x)(V1:je ds)(Jk:vp ds<=100)(Mn:(rpD (.tup ds)).length<=sizeLine)(Wb:Q (.str (rpD (.tup ds))) H)
theorem Tv{k:Nat}(hr:Ur k X.A):D9 X (.builtin "repr") (fun xs H Q=>qv X.K xs H Q):=by
 intro pins s σ H xs us Q I r h;obtain⟨x,ds,rfl,ix,k,lv,ln,q⟩:=h;obtain⟨a,vs,rfl,sq,ar⟩:=(show ∃a vs,x=.ref a/\Yv X.K H a vs/\Vy X.K H ds vs from ix);cases r with
 | cons r1 r2 =>
  cases r2;cases Zr r1;obtain⟨its,rv,tp,_⟩:=I.tuple sq;obtain⟨as,ra,ea⟩:=E6 I ds vs its ar rv k
  have na:a ∉ as:=fun m=>by
   obtain⟨e,ie,le⟩:=ea a m;have z:=Gp.inj I e (.tup ds) (.ref a) ie ix;rw[z]at le;simp only[lvD]at le;omega
  obtain⟨o,n,ho,hc,hd⟩:∃o n,s.heap.get? a=some o/\o.cls=.type "tuple" /\ o.data=.seq its.toArray n:=by
   obtain⟨o,h1,h2,n,h3⟩:=tp;exact⟨o,n,h1,h2,h3⟩
  have un:=hr.un;refine call_repr_slot (by omega) ⟨o,ho,hc⟩ PySem.F.slot_tuple_repr ?_;refine call_tuple_reprK ho hc hd na (by simpa using ra) (g:=[]) hr.gd (fun b _=>Clear.nil b) (by show X.A.units+1+_<_;omega) (fun _ _ e=>e) (fun h' u tk k'=>?_) ln;exact⟨_,u,rfl,.str _,H,I.kept k',⟨u,rfl⟩,q⟩
end
def jj(c:Addr)(q:Str):HO:=.ext fun h=>h.CodeRec (.ref c) q
structure LamAt(X:Cx)(P:Addr):Prop where
 c:∃c,X.env.code=.ref c/\∀h,X.K.In h->W.CodeHd h c P
 bi:∀h,X.K.In h->h.BuiltinsAt X.mg P
 ne:mainGlobals≠P
section
variable{X:Cx}{pins:Uv}{σ:St}{H:Hp}{s:Shared}
theorem jj.ok{P:Program}{w:World}{H':Hp}{h:Heap}{c:Addr}{q:Str}(k:h.CodeRec (.ref c) q):Vq P w H' h c (jj c q):=by
 refine⟨k, ?_,fun h1 h2 k1 e=>?_⟩
 ·obtain⟨c1,o,vs,t,e,ho,_⟩:=k;cases e;exact⟨o,ho⟩
 ·obtain⟨c1,o,vs,t,ec,ho,r⟩:=k1;cases ec;exact⟨c,o,vs,t,rfl,e o ho,r⟩
theorem jj.code{P:Program}{w:World}{H':Hp}{h:Heap}{c:Addr}{q:Str}(x:R6 P w H' h)(e:H' c=some (jj c q)):h.CodeRec (.ref c) q:=(x c _ e).1
end
theorem Vq.has{P:Program}{w:World}{H:Hp}{h:Heap}{a:Addr}{o:HO}(x:Vq P w H h a o):∃u,h.get? a=some u:=by
 cases o with
 | lst xs=>obtain⟨_,_,_,_,e⟩:=x;exact⟨_,e⟩
 | tup xs=>obtain⟨_,_,_,o,e,_⟩:=x;exact⟨_,e⟩
 | dK kvs=>obtain⟨_,_,_,_,o,_,_,e,_⟩:=x;exact⟨_,e⟩
 | dT kvs=>obtain⟨_,_,_,_,o,_,_,e,_⟩:=x;exact⟨_,e⟩
 | set S n=>obtain⟨o,_,_,_,e,_⟩:=x;exact⟨_,e⟩
 | ins C dx fs=>obtain⟨_,_,_,e,_⟩:=x;exact⟨_,e⟩
 | own y=>exact x
 | xd fs=>obtain⟨_,⟨_,_,_,e,_⟩,_⟩:=x;exact⟨_,e⟩
 | rng lo hi=>obtain⟨_,_,_,e⟩:=x;exact⟨_,e⟩
 | frz ob u=>obtain⟨e,_⟩:=x;exact⟨_,e⟩
 | tbl ps=>exact⟨_,(show h.get? a=some _ from x)⟩
 | met f y=>exact⟨_,(show h.get? a=some _ from x)⟩
 | ext φ=>obtain⟨_,e,_⟩:=x;exact e
section
variable{X:Cx}{e:Expr}{te:TA}{p pos lp kp p0 p1 p2 p3:Pos}
end
end L2
namespace PySem.Heap
theorem IsTupleIter.aT{h h':Heap}{i t:Addr}{k:Nat}(st:h.IsTupleIter i t k)(e:∀o,h.get? i=some o->h'.get? i=some o):h'.IsTupleIter i t k:=let ⟨o,ho,r⟩:=st;⟨o,e _ ho,r⟩
theorem IsTuple.aT{h h':Heap}{t:Addr}{xs:Array Value}(st:h.IsTuple t xs)(e:∀o,h.get? t=some o->h'.get? t=some o):h'.IsTuple t xs:=let ⟨o,ho,r⟩:=st;⟨o,e _ ho,r⟩
end PySem.Heap
namespace ZipLT
open PySem PySem.Calls PyProof.Rows PyProof.V PySem.Spec
abbrev ZAt(h:Heap)(z TI TO:Addr)(f0 f1:Value):Prop :=
 h.get? z=some { cls:=.type "zip",dict:=none,data:=.fields #[f0,f1,.bool false,.ref TI,.ref TO],slots:=#[] }
section
variable{prog:Program}{w:World}{A:Around}{E:Vt}{s:Shared}{z TI TO T i1 i2 l1 l2:Addr}{f:Bool}{oT:Obj}{k1 k2:Nat}{xs ys:Array Value}{x y:Value}
structure ZSt(h:Heap)(z TI TO i1 i2 l1 l2 S:Addr)(xs ys:Array Value)(i:Nat):Prop where
 at0:ZAt h z TI TO .none (.bool false)\/∃(T:Addr) (f:Bool) (oT:Obj),ZAt h z TI TO (rawInt T) (.bool f)/\h.get? T=some oT/\T≠z/\T≠TO/\T≠i1/\T≠i2/\T≠S
 ti:IsPair h TI (.ref i1) (.ref i2)
 to:∃a b,IsPair h TO a b
 it1:h.IsTupleIter i1 l1 i
 it2:h.IsTupleIter i2 l2 i
 ls1:h.IsTuple l1 xs
 ls2:h.IsTuple l2 ys
theorem ZSt.keep{h h':Heap}{S:Addr}{i:Nat}(q:ZSt h z TI TO i1 i2 l1 l2 S xs ys i)(k:∀c o,c≠S->h.get? c=some o->h'.get? c=some o)(hS:∀c∈[z,TI,TO,i1,i2,l1,l2],c≠S):ZSt h' z TI TO i1 i2 l1 l2 S xs ys i where
 at0:=by
  have e:=hS z (by simp);rcases q.at0 with a | ⟨T,f,oT,a,b,c⟩
  ·exact .inl (k _ _ e a)
  ·exact .inr ⟨T,f,oT,k _ _ e a,k _ _ c.2.2.2.2 b,c⟩
 ti:=k _ _ (hS TI (by simp)) q.ti
 to:=let ⟨a,b,e⟩:=q.to;⟨a,b,k _ _ (hS TO (by simp)) e⟩
 it1:=q.it1.aT fun o e=>k _ o (hS i1 (by simp)) e
 it2:=q.it2.aT fun o e=>k _ o (hS i2 (by simp)) e
 ls1:=q.ls1.aT fun o e=>k _ o (hS l1 (by simp)) e
 ls2:=q.ls2.aT fun o e=>k _ o (hS l2 (by simp)) e
end
section
variable{prog:Program}{w:World}{A:Around}{R:Result->Shared->Prop}{E:Vt}{s:Shared}{z TI TO i1 i2 l1 l2 S:Addr}{xs ys:Array Value}
structure Made(h:Heap)(lo:Addr)(xs ys:Array Value)(as:List Addr):Prop where
 rise:as.Pairwise (· < ·)
 above:∀a∈as,lo<=a
 pairs:∀(j:Nat) (a:Addr),as[j]?=some a->∃x y,xs[j]?=some x/\ys[j]?=some y/\IsPair h a x y
theorem Made.there{h:Heap}{lo:Addr}{as:List Addr}(g:Made h lo xs ys as){a:Addr}(ha:a∈as):a<h.objs.size:=by
 obtain⟨j,hj⟩:=List.mem_iff_getElem?.mp ha;obtain⟨_,_,_,_,e⟩:=g.pairs j a hj;exact Du e
theorem Made.keep{h h':Heap}{lo:Addr}{as:List Addr}(g:Made h lo xs ys as)(k:∀c o,lo<=c->h.get? c=some o->h'.get? c=some o):Made h' lo xs ys as :=
 ⟨g.rise,g.above,fun j a e=>by
  obtain⟨x,y,e1,e2,e3⟩:=g.pairs j a e;exact⟨x,y,e1,e2,k a _ (g.above a (Ow e)) e3⟩⟩
end
end ZipLT
namespace L2
open PySem PySem.Spec PyProof.Rows
section
variable{X:Cx}{x y:Str}{p p2 pos M8:Pos}{a b:Expr}{t:TA}
end
end L2
namespace DicP2
open PySem PySem.Spec PyProof.Rows
theorem hb0:hookBefore (.type "tuple")=pure none:=rfl
section
variable{prog:Program}{w:World}{K:Type}[DecidableEq K]{knd:PySem.KeyKind prog w K}
variable{A:Around}{R:Result->Shared->Prop}{E:Vt}{s:Shared}{d it t:Addr}{its:Array Value}{rs:List (K×Value)}
end
end DicP2
namespace L2
open PySem PySem.Spec PyProof.Rows
section
variable{X:Cx}{pins:Uv}{σ:St}{H:Hp}{s:Shared}
end
section
variable{X:Cx}
end
section
variable{X:Cx}{pins:Uv}{σ:St}{H:Hp}{s:Shared}
inductive rInD_I(K:W.Frag)(A:Around)(x:V)(y:V)(H:Hp)(Q:VK):Prop
 | mk(p xs d ds)(Vg:y=.ref p)(Vk:Z0 K H p xs)(V1:Gp K H d x)(Jk:Vy K H ds xs)(Mn:(∀e∈ds,A.units+N2 e+10<cLine))(Wb:Q (.bl (ds.any fun e=>Ml e d)) H)
def rInD(K:W.Frag)(A:Around):R2:=fun x y H Q=>rInD_I K A x y H Q
theorem op_inD:Nd X (compareOp .In) (rInD X.K X.A):=by
 intro pins s σ H x y v u Q I rx ry h;obtain⟨p,xs,d,ds,rfl,hq,hd,ar,hu,q⟩:=h;cases ry;obtain⟨its,r,pl,hz⟩:=I.list hq;have l1:=ar.length;have l2:=r.length
 classical
 have at_:∀{i:Nat} {w:Value},its[i]?=some w->∃dy xi,ds[i]?=some dy/\xs[i]?=some xi/\Gp X.K H dy xi/\Z9 xi w:=fun {i w} hw=>by
  have hi:=(Q8.mp hw).1;obtain⟨dy,hdy⟩:∃dy,ds[i]?=some dy:=⟨_,Nn (by omega)⟩;obtain⟨xi,hxi,dd⟩:=ar.get hdy;obtain⟨w',hw',rr⟩:=r.get hxi;rw[hw]at hw';cases hw';exact⟨dy,xi,hdy,hxi,dd,rr⟩
 have key:∀{i:Nat} {w:Value} {dy:D},its[i]?=some w->ds[i]?=some dy->decide (∃(j:Nat) (dj:D),its[j]?=some w/\ds[j]?=some dj/\Ml dj d=true)=Ml dy d:=fun {i w dy} hw hdy=>by
  cases e:Ml dy d with
  | true=>exact Gq ⟨i,dy,hw,hdy,e⟩
  | false =>
   refine My fun⟨j,dj,h1,h2,h3⟩=>?_;obtain⟨da,xa,a1,a2,a3,a4⟩:=at_ hw;obtain⟨db,xb,b1,b2,b3,b4⟩:=at_ h1;rw[hdy]at a1;rw[h2]at b1;cases a1;cases b1;have:=a4.inj b4;subst this;rw[Gp.inj I _ _ _ a3 b3,h3]at e;cases e
 refine SeqAt.in_listAt (fun w=>decide (∃(j:Nat) (dj:D),its[j]?=some w/\ds[j]?=some dj/\Ml dj d=true)) pl.isList (fun w hw=>?_) ⟨.bl _,H,I,rfl, ?_⟩
 ·obtain⟨i,hi⟩:=List.getElem?_of_mem (show w∈its by simpa using hw);obtain⟨dy,xi,a1,a2,a3,a4⟩:=at_ hi;have:=hu dy (Ow a1);show SeqAt.EqAt X.A.in1 s w v (decide _);rw[key hi a1];exact Hq I dy d xi x w v X.A.in1 a3 hd a4 rx (by show X.A.units+1+N2 dy<cLine;omega) (by show X.A.units+1<cLine;omega)
 ·have e:(its.toArray.any fun w=>decide (∃(j:Nat) (dj:D),its[j]?=some w/\ds[j]?=some dj/\Ml dj d=true))=ds.any fun e=>Ml e d:=by
   rw[Bool.eq_iff_iff];simp only[List.any_toArray,List.any_eq_true,decide_eq_true_eq];constructor
   ·rintro⟨w,hw,j,dj,h1,h2,h3⟩;exact⟨dj,Ow h2,h3⟩
   ·rintro⟨dj,hm,h3⟩;obtain⟨j,hj⟩:=List.getElem?_of_mem hm;have hl:=(Q8.mp hj).1;obtain⟨w,hw⟩:∃w,its[j]?=some w:=⟨_,Nn (by omega)⟩;exact⟨w,Ow hw,j,dj,hw,hj,h3⟩
  rw[e];exact q
end
end L2
namespace DctT
open PySem PySem.SeqAt PySem.MeetsSeq
open PySem.AutoSeq1 (wpAny_loadPart')
theorem dict_declines(l b:Addr)(es:Array DictEntry)(ep:Nat)(dd:Option Addr)(sl:Array (Option Value))(it:Array Value)(n:Nat)(dd2:Option Addr)(sl2:Array (Option Value)) :
  Meets (Builtin.«dict.__eq__» ⟨[.ref l,.ref b],[]⟩) (fun _ R s=>s.heap.get? l=some { cls:=.type "dict",dict:=dd,data:=.dict es ep,slots:=sl }/\s.heap.get? b=some { cls:=.type "tuple",dict:=dd2,data:=.seq it n,slots:=sl2 }/\R (.ok (.ret .notImplemented)) s) :=
 .of_wp fun prog w A R s h=>by obtain⟨hp,g,d,tk,os⟩:=s;obtain⟨hl,hb,h⟩:=h;have f1:=F.sub_tuple_dict;wp_walk using wpAny_loadPart' hl,wpAny_load hb,wpAny_loadPart' hb;exact⟨_,rfl,h⟩
theorem En(l b:Addr)(es:Array DictEntry)(ep:Nat)(dd:Option Addr)(sl:Array (Option Value))(it:Array Value)(n:Nat)(dd2:Option Addr)(sl2:Array (Option Value)) :
  Meets (Builtin.«tuple.__eq__» ⟨[.ref b,.ref l],[]⟩) (fun _ R s=>s.heap.get? l=some { cls:=.type "dict",dict:=dd,data:=.dict es ep,slots:=sl }/\s.heap.get? b=some { cls:=.type "tuple",dict:=dd2,data:=.seq it n,slots:=sl2 }/\R (.ok (.ret .notImplemented)) s) :=
 .of_wp fun prog w A R s h=>by obtain⟨hp,g,d,tk,os⟩:=s;obtain⟨hl,hb,h⟩:=h;have f1:=F.sub_dict_tuple;wp_walk using wpAny_loadPart' hl,wpAny_load hl,wpAny_loadPart' hb;exact⟨_,rfl,h⟩
theorem Am{A:Around}{s:Shared}{l b:Addr}{es:Array DictEntry}{ep:Nat}{dd:Option Addr}{sl:Array (Option Value)}{it:Array Value}(ho:s.heap.get? l=some { cls:=.type "dict",dict:=dd,data:=.dict es ep,slots:=sl })(hb:s.heap.IsTuple b it)(hu:A.units<cLine) :
  RcAt A s (.ref l) (.ref b) false:=fun prog w E Q h=>by
 have hne:l≠b:=fun e=>by
  subst e;obtain⟨o2,ho2,hc2,_⟩:=hb;rw[ho]at ho2;cases ho2;exact absurd hc2 (by simp)
 obtain⟨⟨cls2,dd2,data2,sl2⟩,ho2,hc2,n2,hd2⟩:=id hb;simp only at hc2 hd2;subst hc2 hd2
 exact rc_eq_decline_or (k:=false) ⟨_,ho,rfl⟩ ⟨_,ho2,rfl⟩ (by decide) F.sub_tuple_dict F.slot_dict_eq F.slot_tuple_eq_refl
  (fun _ hq=>call_meets F.slot_dict_eq ⟨_,ho,rfl⟩ F.entry_dict_eq (F.args_dict_eq_2 _ _) (dict_declines l b es ep dd sl it n2 dd2 sl2) ⟨ho,ho2,hq⟩)
  (fun _ hq=>call_meets F.slot_tuple_eq_refl ⟨_,ho2,rfl⟩ F.entry_tuple_eq (F.args_tuple_eq_2 _ _) (En l b es ep dd sl it n2 dd2 sl2) ⟨ho,ho2,hq⟩)
  (fun _ hq=>wpAny_isSame_ref_other hne ho ho2 (by simp) hq) (.inr hu) h
end DctT
namespace L2
open PySem PySem.Spec PyProof.Rows
def Zyf:Th->Bool
 | .tup ts=>ts.isEmpty
 | _=>false
section
variable{X:Cx}
inductive dc(K:W.Frag)(A:Around)(x:V)(y:V)(H:Hp)(Q:VK):Prop
 | mk(t b)(Vg:Zb K H t x)(Vk:y=.ref b)(V1:Yv K H b [])(Jk:A.units<cLine)(Mn:Q (.bl (Zyf t)) H)
def Zvr(K:W.Frag)(A:Around):R2:=fun x y H Q=>dc K A x y H Q
theorem tj:Nd X (compareOp .Eq) (Zvr X.K X.A):=by
 intro pins s σ H x y v u Q I rx ry h;obtain⟨t,b,ht,rfl,hb,hu,q⟩:=h;cases t with
 | tup ts =>
  obtain⟨a,vs,rfl,hq,at'⟩:=ht;refine Io pins s σ H _ _ v u Q I rx ry ⟨a,b,vs,rfl,rfl,hq,hb,hu, ?_⟩
  have e:vs.isEmpty=ts.isEmpty:=by
   cases ts with
   | nil=>cases Zr at';rfl
   | cons t ts=>obtain⟨_,_,rfl,_⟩:=at';rfl
  rw[e];exact q
 | opq =>
  cases ry;obtain⟨i2,r2,p2,z2⟩:=I.tuple hb;have fin:EP X pins σ Q (.bool false) s:=⟨.bl _,H,I,rfl,q⟩;obtain⟨a,rfl,⟨xs,hq⟩ | ⟨k,hq⟩⟩:=ht
  ·cases rx;obtain⟨its,_,hp,_⟩:=I.list (Z0.of hq);exact SeqAt.RcAt.list_tuple hp.isList (show s.heap.IsTuple b i2.toArray from p2) hu X.prog X.w X.xe _ fin
  ·cases rx;obtain⟨_,_,vs,_,⟨cls,dd,data,sl⟩,es,ep,e,hx,hd,_⟩:=(show Vq X.prog X.w H s.heap a (.dK k) from I.hok a _ hq);obtain⟨c1,_⟩:=hx;simp only at c1 hd;subst c1 hd;exact DctT.Am e (show s.heap.IsTuple b i2.toArray from p2) hu X.prog X.w X.xe _ fin
 | non=>cases Zr ht;exact Lj pins s σ H _ _ v u Q I rx ry ⟨.non,.tup [],rfl,⟨b,[],rfl,hb,rfl⟩,hu,q⟩
 | bl i=>cases Zr ht;exact Lj pins s σ H _ _ v u Q I rx ry ⟨.bl i,.tup [],rfl,⟨b,[],rfl,hb,rfl⟩,hu,q⟩
 | int i=>cases Zr ht;exact Lj pins s σ H _ _ v u Q I rx ry ⟨.int i,.tup [],rfl,⟨b,[],rfl,hb,rfl⟩,hu,q⟩
 | str i=>cases Zr ht;exact Lj pins s σ H _ _ v u Q I rx ry ⟨.str i,.tup [],rfl,⟨b,[],rfl,hb,rfl⟩,hu,q⟩
end
section
variable{X:Cx}
inductive wq(K:W.Frag)(A:Around)(x:V)(y:V)(H:Hp)(Q:VK):Prop
 | mk(a b xs)(Vg:x=.ref a)(Vk:y=.ref b)(V1:Yv K H a xs)(Jk:Yv K H b [])(Mn:A.units<cLine)(Wb:Q (.bl (!xs.isEmpty)) H)
theorem Zx9:Nd X (compareOp .NotEq) (fun x y H Q=>wq X.K X.A x y H Q):=by
 intro pins s σ H x y v u Q I rx ry h;obtain⟨a,b,xs,rfl,rfl,ha,hb,hu,q⟩:=h;cases rx;cases ry;obtain⟨i1,r1,p1,z1⟩:=I.tuple ha;obtain⟨i2,r2,p2,z2⟩:=I.tuple hb;have e2:i2=[]:=by cases r2;rfl
 subst e2;have:=SeqAt.RcNeAt.tuples (A:=X.A) (e:=fun _=>true) (show s.heap.IsTuple a i1.toArray from p1) (show s.heap.IsTuple b #[] from p2) hu (fun j h1 h2=>absurd h2 (by simp))
 have e:((List.range (min i1.toArray.size (#[]:Array Value).size)).all (fun _=>true) && i1.toArray.size == (#[]:Array Value).size)=xs.isEmpty:=by
  have hl:=r1.length;cases xs with
  | nil =>
   have e1:i1=[]:=by cases r1;rfl
   subst e1;rfl
  | cons x xs =>
   rw[Dy, <-hl];simp
 rw[e]at this;exact this X.prog X.w X.xe _ ⟨.bl _,H,I,rfl,q⟩
end
end L2
namespace K23
open PySem PySem.Spec PyProof.Rows L2 K01
section
variable{P:Program}{w:World}{K:W.Frag}{mg:Bw}{base:Heap}{f:Addr}{fd:FuncData}
theorem Vv:bootBuiltins "len" = some (.builtin "len"):=by decide +kernel
theorem G3:bootBuiltins "all" = some (.builtin "all"):=by decide +kernel
theorem Zdp:bootBuiltins "min" = some (.builtin "min"):=by decide +kernel
theorem Zh:bootBuiltins "isinstance" = some (.builtin "isinstance"):=by decide +kernel
theorem Yr:bootBuiltins "tuple" = some (.type "tuple"):=by decide +kernel
theorem qg:bootBuiltins "list" = some (.type "list"):=by decide +kernel
theorem b_set:bootBuiltins "set" = some (.type "set"):=by decide +kernel
theorem kc:bootBuiltins "int" = some (.type "int"):=by decide +kernel
theorem Xm:bootBuiltins "str" = some (.type "str"):=by decide +kernel
theorem qb:bootBuiltins "bool" = some (.type "bool"):=by decide +kernel
theorem b_dict:bootBuiltins "dict" = some (.type "dict"):=by decide +kernel
theorem Zk4:bootBuiltins "sorted" = some (.builtin "sorted"):=by decide +kernel
theorem qk:bootBuiltins "repr" = some (.builtin "repr"):=by decide +kernel
theorem b_ord:bootBuiltins "ord" = some (.builtin "ord"):=by decide +kernel
structure Bn(mg:Bw):Prop where
 len:mg "len" = none
 all:mg "all" = none
 any:mg "any" = none
 max:mg "max" = none
 min:mg "min" = none
 isinstance:mg "isinstance" = none
 tuple:mg "tuple" = none
 list:mg "list" = none
 set:mg "set" = none
 int:mg "int" = none
 str:mg "str" = none
 bool:mg "bool" = none
 dict:mg "dict" = none
 range:mg "range" = none
 zip:mg "zip" = none
 enumerate:mg "enumerate" = none
 sorted:mg "sorted" = none
 repr:mg "repr" = none
 ord:mg "ord" = none
structure Cn(mg:Bw):Prop where
 LETTERS:∃t,mg "LETTERS" = some (.str LET t)
 SIGNS:∃t,mg "SIGNS" = some (.str SGN t)
 GREATEST_WHOLE:∃t,mg "GREATEST_WHOLE" = some (.int 1000000000000000000 t)
 GREATEST_NUMBER:∃t,mg "GREATEST_NUMBER" = some (.int 999 t)
 LONGEST_TEXT:∃t,mg "LONGEST_TEXT" = some (.int 200 t)
 LONGEST_NAME:∃t,mg "LONGEST_NAME" = some (.int 8 t)
 DEEPEST:∃t,mg "DEEPEST" = some (.int 100 t)
theorem Zg{X:Cx}{e:Expr}{es:List Expr}{te:TE}{t:TA}(ha:PE X e te)(hr:PA X es t)(hs:starEach (e::es) X.env=(false,eval e X.env)::starEach es X.env:=by exact rfl):PA X (e::es) (Zwd te t):=Zj ha hr hs
theorem cF{X:Cx}{k j:Nat}{x:Str}{ps:List Str}{sp:Sp}{p pos:Pos}{e:Expr}{es:List Expr}{t:TA}(G:Fn X.prog X.w X.K X.mg X.base k x ps sp)(hr:Ur j X.A)(ha:PA X (e::es) t)(hj:k<=j:=by omega)(hg:Gl X x:=by exact rfl)(hdb:(x == ("__debug__" : Str))=false:=by decide)(he:starEach (e::es) X.env=(false,eval e X.env)::starEach es X.env:=by exact rfl)(P0:(backTo pos (starEach es X.env)).any (·.1)=false:=by exact rfl):PE X (.Call (.Name x p) (e::es) [] pos) (Zwl sp [] E0 t):=wz G (hr.mono hj) hg ha hdb he P0
theorem cB{X:Cx}{id:String}{r:List V->Hp->VK->Prop}{x:Str}{p pos:Pos}{e:Expr}{es:List Expr}{t:TA}(hc:D9 X (.builtin id) r)(hm:X.mg x=none)(hv:bootBuiltins x=some (.builtin id))(ha:PA X (e::es) t)(hg:Gl X x:=by exact rfl)(hn:x ≠ "__name__" := by decide)(hdb:(x == ("__debug__" : Str))=false:=by decide)(he:starEach (e::es) X.env=(false,eval e X.env)::starEach es X.env:=by exact rfl)(P0:(backTo pos (starEach es X.env)).any (·.1)=false:=by exact rfl):PE X (.Call (.Name x p) (e::es) [] pos) (tCB r t):=Fe hc hg hm hv ha hn hdb he P0
theorem cT{X:Cx}{T:String}{r:List V->Hp->VK->Prop}{x:Str}{p pos:Pos}{e:Expr}{es:List Expr}{t:TA}(hc:D9 X (.type T) r)(hm:X.mg x=none)(hv:bootBuiltins x=some (.type T))(ha:PA X (e::es) t)(hg:Gl X x:=by exact rfl)(hn:x ≠ "__name__" := by decide)(hdb:(x == ("__debug__" : Str))=false:=by decide)(he:starEach (e::es) X.env=(false,eval e X.env)::starEach es X.env:=by exact rfl)(P0:(backTo pos (starEach es X.env)).any (·.1)=false:=by exact rfl):PE X (.Call (.Name x p) (e::es) [] pos) (tCB r t):=Ui hc hg hm hv ha hn hdb he P0
theorem iX{X:Cx}{a b:Expr}{ta tb:TE}{pos:Pos}{r:R2}(hr:IxR X r)(ha:PE X a ta)(hb:PE X b tb)(hs:Zz4 b:=by exact fun _ _=>rfl):PE X (.Subscript a b pos) (tOp r ta tb):=Ut hr ha hb hs
theorem tQ{X:Cx}{a b:Expr}{ta tb:TE}{pos:Pos}{op:CmpOp}{r:R2}(ho:Nd X (compareOp op) r)(ha:PE X a ta)(hb:PE X b tb)(hm:behindInMarks op b=false:=by exact cn _):PT X (.Compare a [op] [b] pos) (Zwf (tOp r ta tb)):=Md ho ha hb hm
theorem eQ{X:Cx}{a b:Expr}{ta tb:TE}{pos:Pos}{op:CmpOp}{r:R2}(ho:Nd X (compareOp op) r)(ha:PE X a ta)(hb:PE X b tb)(hm:behindInMarks op b=false:=by exact cn _):PE X (.Compare a [op] [b] pos) (tOp r ta tb):=Ru ho ha hb hm
theorem sI{X:Cx}(i:Nat){x:Str}{e:Expr}{te:TE}{pos pos':Pos}(hN:X.N.Nodup)(he:PE X e te)(hi:X.N[i]?=some x:=by exact rfl)(hx:Loc X.env.scope x:=by first | exact .inl rfl | exact .inr rfl)(hs:swapsWith e (some (.Name x pos')) pos.line X.env=pure false:=by exact rfl)(hf:X.fn x=true\/X.env.scope.names.lookup x=some .local:=by first | exact .inl rfl | exact .inr rfl):PS X (.Assign [.Name x pos'] e pos) (Zxk te (Jv i)):=Dc i hN hi hx he hs hf
theorem nI{X:Cx}{scope:Scope}{N:List Str}{fp:List Addr}{s:Shared}{H:Hp}(i:Nat){x:Str}{pos:Pos}(hN:N.Nodup:=by decide +kernel)(hi:N[i]?=some x:=by exact rfl)(hx:Loc (Y1 X scope N fp s H).env.scope x:=by exact .inl rfl)(hf:(Y1 X scope N fp s H).fn x=true\/(Y1 X scope N fp s H).env.scope.names.lookup x=some .local:=by first | exact .inl rfl | exact .inr rfl):PG (Y1 X scope N fp s H) (.Name x pos) (Jv i):=Fp i hN hi hx hf
theorem qs{X:Cx}{st:Stmt}{Mm:List Stmt}{t u:TS}(h1:PS X st t)(h2:jy X Mm u)(_u:True:=trivial):jy X (st::Mm) (bh t u):=Zf h1 h2
theorem q1{X:Cx}{st:Stmt}{t:TS}(h1:PS X st t)(_u:True:=trivial):jy X [st] t:=Yx h1
theorem qr{X:Cx}{e:Expr}{te:TE}{pos:Pos}(he:PE X e te)(_u:True:=trivial):PS X (.Return (some e) pos) (tRet te):=Ux he
theorem qi{X:Cx}{c:Expr}{a b:List Stmt}{tc:TT}{t u:TS}{pos:Pos}(hc:PT X c tc)(ha:jy X a t)(hb:jy X b u)(_u:True:=trivial):PS X (.If c a b pos) (tIfS tc t u):=J3 hc ha hb
theorem qt{X:Cx}{es:List Expr}{t:TA}{x1}{pos:Pos}(h:PA X es t)(_u:True:=trivial):PE X (.Tuple es x1 pos) (tTup t):=Ya h
theorem qo{X:Cx}{op:Operator}{r:R2}{a b:Expr}{ta tb:TE}{pos:Pos}(ho:Nd X (binaryOp op) r)(ha:PE X a ta)(hb:PE X b tb)(_u:True:=trivial):PE X (.BinOp a op b pos) (tOp r ta tb):=Di ho ha hb
theorem ql{X:Cx}{es:List Expr}{t:TA}{pos:Pos}(h:PA X es t)(_u:True:=trivial):PE X (.List es pos) (tLst t):=Yt h
theorem qn{X:Cx}{a:Expr}{tA:TT}{pos:Pos}(ha:PT X a tA)(_u:True:=trivial):PT X (.UnaryOp .Not a pos) (tNot tA):=pt_not ha
theorem qp{X:Cx}{e:Expr}{t:TT}(h:PW X e t)(_u:True:=trivial):PT X e t:=h.pt
theorem qO{X:Cx}{a b:Expr}{Mm:List Expr}{tA tB':TT}{pos:Pos}(ha:PT X a tA)(hb:PW X (.BoolOp .Or (b::Mm) pos) tB')(_u:True:=trivial):PW X (.BoolOp .Or (a::b::Mm) pos) (tOr tA tB'):=pw_or ha hb
theorem qQ{X:Cx}{a:Expr}{tA:TT}{pos:Pos}(ha:PT X a tA)(_u:True:=trivial):PW X (.BoolOp .Or [a] pos) tA:=pw_or1 ha
theorem qa{X:Cx}{a b:Expr}{Mm:List Expr}{ta tb:TE}{pos:Pos}(ha:PE X a ta)(hb:PE X (.BoolOp .And (b::Mm) pos) tb)(_u:True:=trivial):PE X (.BoolOp .And (a::b::Mm) pos) (Zm7 ta tb):=pe_and ha hb
theorem qe{X:Cx}{op}{a:Expr}{t:TE}{pos:Pos}(h:PE X a t)(_u:True:=trivial):PE X (.BoolOp op [a] pos) t:=pe_one h
theorem qI{X:Cx}{tg l:Expr}{tl:TE}(hl:PE X l tl)(_u:True:=trivial):PI X tg l (iTup X.K tl):=pi_tup hl
theorem qL{X:Cx}{tg l:Expr}{tl:TE}(hl:PE X l tl)(_u:True:=trivial):PI X tg l (Zdy X.K tl):=Ni hl
theorem nJ{X:Cx}(i:Nat){x:Str}{pos:Pos}(hN:X.N.Nodup)(hi:X.N[i]?=some x:=by exact rfl)(hx:Loc X.env.scope x:=by first | exact .inl rfl | exact .inr rfl)(hf:X.fn x=true\/X.env.scope.names.lookup x=some .local:=by first | exact .inl rfl | exact .inr rfl):PG X (.Name x pos) (Jv i):=Fp i hN hi hx hf
theorem pC{X:Cx}(NX:List Str)(outer:Scope)(N:List Str)(fr:List (Option Nat)){scope:Scope}{tg elt iter:Expr}{ifs:List Expr}{pos:Pos}{wi:TI}{g:DG}{tt:DT}{te:DE}(hi:PI X tg iter wi)(hg:∀fp s H,PG (Y1 X scope N fp s H) tg (g fp s H))(ht:∀fp s H,PTs (Y1 X scope N fp s H) ifs (tt fp s H))(he:∀fp s H,PE (Y1 X scope N fp s H) elt (te fp s H))(hc:X.calm=true:=by exact rfl)(C:Fq X NX outer scope N fr:=by exact⟨rfl,rfl,by decide +kernel,by decide +kernel⟩)(hs:∀x,foldedSetIterable iter X.env x=pure x:=by intro _;rfl):PE X (.ListComp elt [⟨tg,iter,ifs,0⟩] scope pos) (Iy wi fr g tt te):=Ba NX outer N fr hc hi C hg ht he hs
theorem Zc{G:Prop}(h:∀X:Prop,(G->X)->X):G:=h G id
theorem Z5{b:Bool}{A B:Prop}(h:b=false)(q:B):if b=true then A else B:=by subst h;exact Y6 q
theorem Yj{b:Bool}{A B:Prop}(h:b=true)(q:A):if b=true then A else B:=by subst h;exact Zu q
theorem iN{b:Bool}{A B:Prop}(q:B)(h:b=false:=by decide +kernel):if b=true then A else B:=Z5 h q
theorem iY{b:Bool}{A B:Prop}(q:A)(h:b=true:=by decide +kernel):if b=true then A else B:=Yj h q
theorem _root_.L2.Fun.b1{K:W.Frag}{x qual:Str}{st:Stmt}{f:Addr}{fd:FuncData}{ps:List Str}(F:Fun K x qual st f fd)(l:ps.length=1)(h:∀(kV doc pm:Value) (an:Option Addr) (cdv ct:Value) a,bindArgs (W.fnOf x qual (Dh st) (Gs st) (Zv st) .none kV doc pm an cdv ct) ⟨[a],[]⟩=pure (ps.zip [a]):=by intros;rfl):G5 K fd ps []:=F.binds fun _ _ _ _ _ _ us hl=>by obtain⟨_,rfl⟩:=List.length_eq_one_iff.mp (hl.trans l);exact h ..
theorem _root_.L2.Fun.b2{K:W.Frag}{x qual:Str}{st:Stmt}{f:Addr}{fd:FuncData}{ps:List Str}(F:Fun K x qual st f fd)(l:ps.length=2)(h:∀(kV doc pm:Value) (an:Option Addr) (cdv ct:Value) a b,bindArgs (W.fnOf x qual (Dh st) (Gs st) (Zv st) .none kV doc pm an cdv ct) ⟨[a,b],[]⟩=pure (ps.zip [a,b]):=by intros;rfl):G5 K fd ps []:=F.binds fun _ _ _ _ _ _ us hl=>by
 rcases us with _ | ⟨_,r⟩
 ·cases hl.trans l
 obtain⟨_,rfl⟩:=List.length_eq_one_iff.mp (Nat.succ.inj (hl.trans l));exact h ..
theorem _root_.L2.Fun.b3{K:W.Frag}{x qual:Str}{st:Stmt}{f:Addr}{fd:FuncData}{ps:List Str}(F:Fun K x qual st f fd)(l:ps.length=3)(h:∀(kV doc pm:Value) (an:Option Addr) (cdv ct:Value) a b c,bindArgs (W.fnOf x qual (Dh st) (Gs st) (Zv st) .none kV doc pm an cdv ct) ⟨[a,b,c],[]⟩=pure (ps.zip [a,b,c]):=by intros;rfl):G5 K fd ps []:=F.binds fun _ _ _ _ _ _ us hl=>by
 rcases us with _ | ⟨_,_ | ⟨_,r⟩⟩
 ·cases hl.trans l
 ·cases hl.trans l
 obtain⟨_,rfl⟩:=List.length_eq_one_iff.mp (Nat.succ.inj (Nat.succ.inj (hl.trans l)));exact h ..
theorem _root_.L2.Fun.b4{K:W.Frag}{x qual:Str}{st:Stmt}{f:Addr}{fd:FuncData}{ps:List Str}(F:Fun K x qual st f fd)(l:ps.length=4)(h:∀(kV doc pm:Value) (an:Option Addr) (cdv ct:Value) a b c d,bindArgs (W.fnOf x qual (Dh st) (Gs st) (Zv st) .none kV doc pm an cdv ct) ⟨[a,b,c,d],[]⟩=pure (ps.zip [a,b,c,d]):=by intros;rfl):G5 K fd ps []:=F.binds fun _ _ _ _ _ _ us hl=>by
 rcases us with _ | ⟨_,_ | ⟨_,_ | ⟨_,r⟩⟩⟩
 ·cases hl.trans l
 ·cases hl.trans l
 ·cases hl.trans l
 obtain⟨_,rfl⟩:=List.length_eq_one_iff.mp (Nat.succ.inj (Nat.succ.inj (Nat.succ.inj (hl.trans l))));exact h ..
theorem Ap{a i v:Nat}(h:i<a):(a - i) * v=(a - (i+1)) * v+v:=by rw[show a - i=(a - (i+1))+1 by omega,Nat.add_mul,Nat.one_mul]
abbrev Fu(K:W.Frag)(x:Str):=Fun K x x
abbrev W0:Stmt:=top 37
abbrev uq:List Str:=["_law_script"]
theorem ju:Zp uq ["_law_script"] (Zv W0):=by trivial
abbrev W1:Stmt:=top 38
abbrev uy:List Str:=["_law_feed_here","_law_many","_law_turn","_law_cell","_law_mixed","_law_digit"]
theorem J0:Zp uy ["_law_feed_here","_law_many"] (Zv W1):=by trivial
inductive Zw9(K:W.Frag)(vs:List V)(H:Hp)(Q:VK):Prop
 | mk(a:Addr)(ns:List Int)(Vg:vs=[.ref a])(Vk:Z0 K H a (ns.map V.int))(V1:ns.length<=63)(Jk:∀(l:Addr) (H':Hp),Zw H H'->H l=none->Fd 1000000000000 H' l->Q (.ref l) H')
def m9(K:W.Frag):Sp:=fun vs H Q _=>Zw9 K vs H Q
inductive Zvz(vs:List V)(H:Hp)(Q:VK):Prop
 | mk(l:Addr)(m:Int)(r:Nat)(Vg:vs=[.ref l,.int m])(Vk:Fd (r+1) H l)(V1:0<m)(Jk:m<1073741824)(Mn:∀(x:Int) (H':Hp),0<=x->x<m->Ve l r H H'->Q (.int x) H')
def dz:Sp:=fun vs H Q _=>Zvz vs H Q
theorem Ih(ss:List Str){r:Int}(h0:0<=r)(h1:r<ss.length):∃x,x∈ss/\Pz (ss.map V.str) r=some (.str x):=by
 have hj:r.toNat<ss.length:=by omega
 refine⟨ss[r.toNat],G0e hj, ?_⟩;have z:Pz (ss.map V.str) ((r.toNat:Nat):Int)=some (.str ss[r.toNat]):=V4 (by rw[Ma,Nn hj];rfl);rw[show ((r.toNat:Nat):Int)=r by omega]at z;exact z
theorem Cb(ns:List Int){r:Int}(h0:0<=r)(h1:r<ns.length):∃n,n∈ns/\Pz (ns.map V.int) r=some (.int n):=by
 have hj:r.toNat<ns.length:=by omega
 refine⟨ns[r.toNat],G0e hj, ?_⟩;have z:Pz (ns.map V.int) ((r.toNat:Nat):Int)=some (.int ns[r.toNat]):=V4 (by rw[Ma,Nn hj];rfl);rw[show ((r.toNat:Nat):Int)=r by omega]at z;exact z
theorem Zms(ws:List V){k:Nat}(h:ws.length<=k):Dj ws none (some (k:Int))=ws:=by
 unfold Dj;rw[HT.oj,HT.Cf,List.drop_zero,Nat.sub_zero,Nat.min_eq_right h,fc]
theorem Zbv(F:Fu K "_law_feed" W0 f fd)(m:Bn mg):Yn P w K mg base Je 1 f fd ["_law_script"] (m9 K):=by
 refine F.ok ju (fun vs H Q E h=>?_) fun _ A _ s H vs Q E hr h=>?_
 ·obtain⟨a,ns,rfl,_⟩:=h
  rfl
 obtain⟨a,ns,rfl,hS,h63,q⟩:=h;refine⟨_,(@Yx _ _ _ (@Ux _ _ _ _ (@Yt _ _ _ _ (@Zj _ _ _ _ _ (@Di _ _ _ _ _ _ _ _ Zv9 (@Ui _ _ _ _ _ _ _ _ _ Ms rfl m.list qg (@Zj _ _ _ _ _ (@Uy _ _ _ _ _ _ _ _ _ _ Ft (pv 0) (@U8 _) (@U7 _ _ _ Zq)) Zx rfl) (by trivial) (by trivial) (by trivial) (by trivial)) (@Di _ _ _ _ _ _ _ _ Zbx (@Yt _ _ _ _ (@Zj _ _ _ _ _ Zq Zx rfl)) (@Ui _ _ _ _ _ _ _ _ _ P8 rfl m.int kc (@Zj _ _ _ _ _ (@Ru _ _ _ _ _ _ _ _ Zv7 (pv 0) (@Yt _ _ _ _ Zx) (cn _)) Zx rfl) (by trivial) (by trivial) (by trivial) (by trivial)))) (@Zj _ _ _ _ _ Zq (@Zj _ _ _ _ _ Zq (@Zj _ _ _ _ _ Zq Zx rfl) rfl) rfl) rfl)))), ?_⟩;refine⟨_,rfl,_,rfl,a,_,rfl,hS,fun p1 h1=>?_⟩;have e63:Dj (ns.map V.int) none (some 63)=ns.map V.int:=Zms (k:=63) _ (by rw[Yp];exact h63);rw[e63];have s1:=Zw.lay (o:=.lst (ns.map V.int)) h1;refine⟨p1,_,rfl,.inl (Z0.of Zz),fun p2 h2=>⟨(sz 1),fun p3 h3=>?_⟩⟩;have s2:=Zw.lay (o:=.lst (ns.map V.int)) h2;have s3:=Zw.lay (o:=.lst [.int 0]) h3;refine⟨_,rfl,(sz 0),fun p4 h4=>?_⟩;have s4:=Zw.lay (o:=.lst []) h4;have Hi:=s1.trans (s2.trans (s3.trans s4));refine⟨a,p4,_,rfl,rfl,Hi.seq hS,Z0.of Zz,Iz (Nat.le_add_right _ 1) (To hr),.inr ⟨_,rfl, ?_⟩⟩;have m2:Z0 K _ p2 (ns.map V.int):=Z0.of ((s3.trans s4) _ _ Zz);refine⟨p3,_,_,rfl,rfl,s4 _ _ Zz,(by split<;>simp),fun p5 h5=>?_⟩;have s5:=Zw.lay (o:=.lst (List.replicate ((if (ns.map V.int).isEmpty=true then (1:Int) else 0)).toNat (V.int 0))) h5;refine⟨p2,p5,_,_,rfl,rfl,(s3.trans (s4.trans s5)) _ _ Zz,Zz, ?_,fun p6 h6=>⟨(sz 4),fun p7 h7=>?_⟩⟩
 ·rw[Yp,List.length_replicate];refine Gw (show _<=64 from ?_) (by decide)
  split<;>simp<;>omega
 have s6:=Zw.lay (o:=.lst (ns.map V.int++List.replicate ((if (ns.map V.int).isEmpty=true then (1:Int) else 0)).toNat (V.int 0))) h6;have s7:=Zw.lay (o:=.lst [.ref p6,.int 0,.int 0,.int 0]) h7;have ss:=Hi.trans (s5.trans (s6.trans s7));have hl7:H p7=none:=(Hi.trans (s5.trans s6)).free h7;refine q p7 _ ss hl7 ⟨p6,ns++List.replicate ((if (ns.map V.int).isEmpty=true then (1:Int) else 0)).toNat 0,0,0,0,Zz, ?_, ?_, ?_,by decide,by decide,by decide⟩
 ·rw[Gj,List.map_replicate];exact s7 _ _ Zz
 ·rw[Xs,List.length_replicate];cases ns<;>simp
 ·rw[Xs,List.length_replicate];cases ns with
  | nil=>simp
  | cons n ns=>simp at h63 ⊢;omega
theorem Zby(F:Fu K "_law_draw" W1 f fd)(m:Bn mg):Yn P w K mg base Je 1 f fd ["_law_feed_here","_law_many"] dz:=by
 refine F.ok J0 (fun vs H Q E h=>?_) fun _ A _ s H vs Q E hr h=>?_
 ·obtain⟨l,m,r,rfl,_⟩:=h
  rfl
 obtain⟨l,mm,r,rfl,⟨a,ns,b,c,d,hH,hA,n1,n64,b0,d0,dr⟩,hm,hm2,q⟩:=h;refine⟨_,(@Zf _ _ _ _ _ (E9 (qo Ju (iX Z2 (pv 0) Zq) Zq) (@zf _ _ _ _ _ _ _ (pv 0) Zq Fc (by trivial))) (qs (sI 2 J0.nd (iX Z2 (pv 0) Zq)) (qs (qi (tQ Ym (iX Z2 (pv 0) Zq) Zq) (qs (sI 3 J0.nd (iX Z2 (iX Z2 (pv 0) Zq) (qo Cp (iX Z2 (pv 0) Zq) (cB Zn m.len Vv (Zg (iX Z2 (pv 0) Zq) Zx))))) (qs (E9 (qo Ju (iX Z2 (pv 0) Zq) Zq) (@zf _ _ _ _ _ _ _ (pv 0) Zq Fc (by trivial))) (qs (qi (tQ F0 (pv 3) (qo Bz Zq Zq)) (qs (sI 4 J0.nd (qo Ju (qo Ju (qo Ju (qo Cp (pv 3) Zq) (qo Cs (qo Cs Zq (pv 2)) (pv 2))) (qo Cs Zq (pv 2))) Zq)) (qs (sI 4 J0.nd (qo Cs (qo zd (qo Cp (qo Cs (pv 4) Zq) Zq) Zq) Zq)) (q1 (qr (qo Cp (qo zd (qo Cp (pv 4) Zq) Zq) (pv 1)))))) Zd) (q1 (E9 (pv 3) (@zf _ _ _ _ _ _ _ (pv 0) Zq Fc (by trivial))))))) Zd) (qs (sI 5 J0.nd (qo Cp (iX Z2 (pv 0) Zq) (pv 1))) (qs (E9 (qo zd (iX Z2 (pv 0) Zq) (pv 1)) (@zf _ _ _ _ _ _ _ (pv 0) Zq Fc (by trivial))) (q1 (qr (pv 5)))))))), ?_⟩;have nal:=fd_ne hH hA;refine⟨_,rfl,l,_,_,_,rfl,rfl,Z0.of hH,rfl,_,_,rfl,rfl,_,rfl,l,_,_,_,rfl,rfl,hH,rfl, ?_⟩;have h2:(Yq H l (.lst [.ref a,.int b,.int c,.int (d+1)])) l=some (.lst [.ref a,.int b,.int c,.int (d+1)]):=Zz;have hA2:(Yq H l (.lst [.ref a,.int b,.int c,.int (d+1)])) a=some (.lst (ns.map V.int)):=by rw[Zl nal];exact hA
 have ok:∀b' c':Int,0<=b'->Ve l r H (Yq H l (.lst [.ref a,.int b',.int c',.int (d+1)])):=fun b' c' hb=>⟨fun x o n h=>by rw[Zl n];exact h,⟨a,ns,b',c',d+1,Zz,by rw[Zl nal];exact hA,n1,n64,hb,by omega,by omega⟩,by rw[Me hH,Me Zz]⟩;refine⟨_,rfl,l,_,_,_,rfl,rfl,Z0.of h2,rfl, ?_⟩;refine⟨_,rfl,l,_,_,_,rfl,rfl,Z0.of h2,rfl,rfl,_,rfl, ?_⟩;have pw:Zjt 10 18:=⟨by decide,by decide,by decide⟩;have hpos:(0:Int)<(((ns.map V.int).length:Nat):Int):=by rw[Yp];omega
 have hr0:=Int.emod_nonneg b (Int.ne_of_gt hpos);have hr1:=Int.emod_lt_of_pos b hpos;obtain⟨cell,_,hat⟩:=Cb ns (r:=b % (((ns.map V.int).length:Nat):Int)) hr0 (by rw[Yp]at hr1 ⊢;exact hr1);refine Vw (fun c1=>?_) (fun c1=>?_)
 ·refine⟨_,rfl,l,_,_,_,rfl,rfl,Z0.of h2,rfl,_,rfl,l,_,_,_,rfl,rfl,Z0.of h2,rfl,_,rfl,l,_,_,_,rfl,rfl,Z0.of h2,rfl,a,_,rfl,.inl (Z0.of hA2),_,_,rfl,rfl,hpos,a,_,_,_,rfl,rfl,Z0.of hA2,hat, ?_⟩;refine⟨_,rfl,l,_,_,_,rfl,rfl,Z0.of h2,rfl,_,_,rfl,rfl,_,rfl,l,_,_,_,rfl,rfl,h2,rfl, ?_⟩;rw[S8];refine⟨_,rfl,_,_,rfl,rfl,pw,_,_,rfl,rfl,_,rfl, ?_⟩;have h3:(Yq H l (.lst [.ref a,.int (b+1),.int c,.int (d+1)])) l=some (.lst [.ref a,.int (b+1),.int c,.int (d+1)]):=Zz;refine Vw (fun c2=>?_) (fun c2=>?_)
  ·refine⟨_,rfl,_,_,rfl,rfl,(show (0:Int)<2147483629 by decide),_,rfl,_,_,rfl,rfl,.inl ⟨by decide,by decide⟩,_,rfl,_,_,rfl,rfl,.inr ⟨by omega,by omega⟩,_,_,rfl,rfl,_,rfl,_,_,rfl,rfl,.inl ⟨by decide,by decide⟩,_,_,rfl,rfl,_,_,rfl,rfl, ?_⟩;refine⟨_,rfl,_,_,rfl,rfl,.inr ⟨by decide,by decide⟩,_,_,rfl,rfl,(show (0:Int)<2147483647 by decide),_,_,rfl,rfl,⟨by decide,by decide⟩,_,_,rfl,rfl,.inr ⟨by decide,by decide⟩, ?_⟩;refine⟨_,rfl,_,_,rfl,rfl,(show (0:Int)<2147483629 by decide),_,_,rfl,rfl,⟨by decide,by decide⟩,_,rfl,_,_,rfl,rfl,hm, ?_⟩;exact q _ _ (Int.emod_nonneg _ (by omega)) (Int.emod_lt_of_pos _ hm) (ok _ _ (by omega))
  ·refine⟨_,rfl,_,rfl,l,_,_,_,rfl,rfl,h3,rfl, ?_⟩;rw[S8];have h4:(Yq H l (.lst [.ref a,.int (b+1),.int cell,.int (d+1)])) l=some (.lst [.ref a,.int (b+1),.int cell,.int (d+1)]):=Zz;refine⟨_,rfl,l,_,_,_,rfl,rfl,Z0.of h4,rfl,_,rfl,_,_,rfl,rfl,hm, ?_⟩;refine⟨_,rfl,l,_,_,_,rfl,rfl,Z0.of h4,rfl,_,rfl,_,_,rfl,rfl,⟨hm,hm2⟩,_,rfl,l,_,_,_,rfl,rfl,h4,rfl,_,rfl, ?_⟩;rw[S8];exact q _ _ (Int.emod_nonneg _ (by omega)) (Int.emod_lt_of_pos _ hm) (ok _ _ (by omega))
 ·refine⟨_,rfl,l,_,_,_,rfl,rfl,Z0.of h2,rfl,_,rfl,_,_,rfl,rfl,hm, ?_⟩;refine⟨_,rfl,l,_,_,_,rfl,rfl,Z0.of h2,rfl,_,rfl,_,_,rfl,rfl,⟨hm,hm2⟩,_,rfl,l,_,_,_,rfl,rfl,h2,rfl,_,rfl, ?_⟩;rw[S8];exact q _ _ (Int.emod_nonneg _ (by omega)) (Int.emod_lt_of_pos _ hm) (ok _ _ b0)
abbrev Nu:Stmt:=top 43
abbrev O7:List Str:=["_law_feed_here","_law_many","_law_some","_law_first","_law_step"]
theorem Mg:Zp O7 ["_law_feed_here","_law_many"] (Zv Nu):=by trivial
def Gx:List Str:=["a","ab","abc","make","form","row","text","must","none","b","mak","abcdefgh"]
def nmL(f s:Nat)(m:Nat):List Str:=(List.range m).map fun k=>Gx.getD ((f+s * k) % 12) "a"
theorem Zyg(f s i:Nat):nmL f s (i+1)=nmL f s i++[Gx.getD ((f+s * i) % 12) "a"]:=by
 unfold nmL;rw[List.range_succ,Gj];rfl
theorem i9(f s m:Nat):(nmL f s m).length=m:=by unfold nmL;rw[Yp,List.length_range]
theorem Zbm{f s m:Nat}{x:Str}(h:x∈nmL f s m):x∈Gx:=by
 unfold nmL at h;obtain⟨k,_,rfl⟩:=Dp.mp h;have hk:(f+s * k) % 12<Gx.length:=Nat.mod_lt _ (by decide);rw[List.getD_eq_getElem?_getD,Nn hk];exact G0e hk
theorem Zbb(f s:Nat):∀{m:Nat},m<=8->nmL f s m=(nmL f s 8).take m:=fun {m} h=>by
 unfold nmL;rw[<-List.map_take,List.take_range,Nat.min_eq_left h]
theorem Zqy:∀f<12,∀s∈[1,5,7,11],(nmL f s 8).Nodup:=by decide +kernel
theorem Zqv{f s m:Nat}(hf:f<12)(hs:s∈[1,5,7,11])(hm:m<=8):(nmL f s m).Nodup:=by
 rw[Zbb f s hm];exact List.Sublist.nodup (List.take_sublist _ _) (Zqy f hf s hs)
structure Names(ss:List Str)(m:Nat):Prop where
 len:ss.length=m
 mem:∀x∈ss,x∈Gx
 nd:ss.Nodup
inductive Zxd(vs:List V)(H:Hp)(Q:VK):Prop
 | mk(l:Addr)(m r:Nat)(Vg:vs=[.ref l,.int m])(Vk:Fd (r+2) H l)(V1:m<=8)(Jk:∀(p:Addr) (ss:List Str) (H':Hp),H' p=some (.lst (ss.map V.str))->H p=none->Names ss m->Ve l r H H'->Q (.ref p) H')
def Fb:Sp:=fun vs H Q _=>Zxd vs H Q
set_option maxHeartbeats 0 in
abbrev gD(P:Program)(w:World)(K:W.Frag)(mg:Bw)(base:Heap):=Fn P w K mg base 1 "_law_draw" ["_law_feed_here","_law_many"] dz
theorem Zyq(F:Fu K "_law_names" Nu f fd)(m:Bn mg)(Zt:gD P w K mg base):Yn P w K mg base Je 2 f fd ["_law_feed_here","_law_many"] Fb:=by
 refine F.ok Mg (fun vs H Q E h=>?_) fun _ A _ s H vs Q E hr h=>?_
 ·obtain⟨l,m,r,rfl,_⟩:=h
  rfl
 obtain⟨l,mm,r,rfl,fe,h8,q⟩:=h;refine⟨_,(@Zf _ _ _ _ _ (@Dc _ 2 _ _ _ _ _ Mg.nd rfl (by trivial) (@Yt _ _ _ _ (@Zj _ _ _ _ _ Zm (@Zj _ _ _ _ _ Zm (@Zj _ _ _ _ _ Zm (@Zj _ _ _ _ _ Zm (@Zj _ _ _ _ _ Zm (@Zj _ _ _ _ _ Zm (@Zj _ _ _ _ _ Zm (@Zj _ _ _ _ _ Zm (@Zj _ _ _ _ _ Zm (@Zj _ _ _ _ _ Zm (@Zj _ _ _ _ _ Zm (@Zj _ _ _ _ _ Zm Zx rfl) rfl) rfl) rfl) rfl) rfl) rfl) rfl) rfl) rfl) rfl) rfl)) rfl (by trivial)) (@Zf _ _ _ _ _ (sI 3 Mg.nd (cF Zt hr (Zg (pv 0) (Zg Zq Zx)))) (@Zf _ _ _ _ _ (@Dc _ 4 _ _ _ _ _ Mg.nd rfl (by trivial) (@Ut _ _ _ _ _ _ _ Z2 (@Yt _ _ _ _ (@Mt _ _ [1,5,7,11] rfl)) (cF Zt hr (Zg (pv 0) (Zg Zq Zx))) (fun _ _=>rfl)) rfl (by trivial)) (q1 (qr (pC O7 (Zv Nu) ["_law_k","_law_some","_law_first","_law_step"] [none,some 2,some 3,some 4] (@U9 _ _ _ _ _ _ rfl m.range (Zg (pv 1) Zx) (by trivial)) (fun _ _ _=>(nI 0)) (fun _ _ _=>Z1) (fun _ _ _=>(iX Z2 (pv 1) (qo Cp (qo Ju (pv 2) (qo Cs (pv 3) (pv 0))) Zq))))))))), ?_⟩;refine⟨(sz 12),fun L hL=>?_⟩;have s1:=Zw.lay (o:=.lst (Gx.map V.str)) hL;have t1:Ve l (r+2) H _:=(Ve.refl fe).same s1;refine⟨_,rfl,l,12,r+1,rfl,t1.feed,by decide,by decide,fun x H2 x0 x1 t2=>?_⟩;have fj:=t1.trans t2;have nL:L≠l:=fe.ne hL;have hL2:H2 L=some (.lst (Gx.map V.str)):=t2.keep _ _ nL Zz;refine⟨(sz 4),fun L3 h3=>?_⟩;have s3:=Zw.lay (o:=.lst ([1,5,7,11].map V.int)) h3;have bp:=fj.same s3;refine⟨_,rfl,l,4,r,rfl,bp.feed,by decide,by decide,fun y H4 y0 y1 t4=>?_⟩;have t04:=bp.trans t4;have n3:L3≠l:=fj.feed.ne h3;obtain⟨st,mst,est⟩:=Cb [1,5,7,11] y0 y1;refine⟨L3,_,_,_,rfl,rfl,Z0.of (t4.keep _ _ n3 Zz),est, ?_⟩;have hL4:H4 L=some (.lst (Gx.map V.str)):=t4.keep _ _ nL (s3 _ _ hL2);obtain⟨fn,rfl⟩:∃n:Nat,x=n:=⟨x.toNat,by omega⟩
 obtain⟨sn,rfl,msn⟩:∃n:Nat,st=n/\n∈[1,5,7,11]:=by
  simp only[G2,U6,or_false]at mst;rcases mst with rfl | rfl | rfl | rfl
  ·exact⟨1,rfl,by decide⟩
  ·exact⟨5,rfl,by decide⟩
  ·exact⟨7,rfl,by decide⟩
  ·exact⟨11,rfl,by decide⟩
 refine⟨_,rfl,_,rfl,by omega,by omega,fun D fp sx hD=>?_⟩;refine Dw (fun i zs σ H5=>(∃o,σ=[o,some (.ref L),some (.int fn),some (.int sn)])/\zs=(nmL fn sn i).map V.str/\Zw H4 H5/\H5 D=some (.lst zs)) ⟨⟨_,rfl⟩,rfl,(Zw.refl H4).put hD,Zz⟩ ?_ ?_ ?_
 ·rintro i zs σ H5 hi ⟨_,_,s5,h5⟩;exact h5
 ·rintro i zs σ H5 hi ⟨⟨o,rfl⟩,rfl,s5,h5⟩;refine V2 ?_;have hk:(fn+sn * i) % 12<Gx.length:=Nat.mod_lt _ (by decide)
  have ev:Pz (Gx.map V.str) (((fn:Int)+(sn:Int) * (0+(i:Int))) % 12)=some (.str (Gx.getD ((fn+sn * i) % 12) "a")):=by
   rw[show ((fn:Int)+(sn:Int) * (0+(i:Int))) % 12=(((fn+sn * i) % 12:Nat):Int) by rw[Int.zero_add];omega];refine V4 ?_;rw[Ma,Nn hk,List.getD_eq_getElem?_getD,Nn hk];rfl
  have sb:sn<=11:=by
   simp only[G2,U6,or_false]at msn;omega
  refine⟨_,rfl,_,rfl,_,rfl,_,rfl,_,_,rfl,rfl,.inl ⟨by omega,by omega⟩,_,_,rfl,rfl,_,_,rfl,rfl,(show (0:Int)<12 by decide),L,_,_,_,rfl,rfl,Z0.of (s5 _ _ hL4),ev,h5, ?_,⟨_,rfl⟩, ?_,s5.put hD,Zz⟩
  ·rw[Yp,i9];exact Hh (show i<8 by have:i<((mm:Nat):Int).toNat:=hi;omega) (by decide)
  ·rw[Zyg,Gj];rfl
 ·rintro zs σ H5 ⟨_,rfl,s5,h5⟩;have e:((mm:Nat):Int).toNat=mm:=by omega
  have h5:H5 D=some (.lst ((nmL fn sn ((mm:Nat):Int).toNat).map V.str)):=h5;rw[e]at h5;exact q D _ H5 h5 (t04.free hD) ⟨i9 _ _ _,fun x h=>Zbm h,Zqv (by omega) msn h8⟩ (t04.same s5)
abbrev Dg:Stmt:=top 44
abbrev Wt:List Str:=["_law_feed_here","_law_most","_law_some"]
theorem Cq:Zp Wt ["_law_feed_here","_law_most"] (Zv Dg):=by trivial
abbrev Mf:Stmt:=top 47
abbrev Q2:List Str:=["_law_feed_here","_law_numbers_here"]
theorem Ak:Zp Q2 ["_law_feed_here","_law_numbers_here"] (Zv Mf):=by trivial
def S5:List Int:=[1,2,3,9,10,99,100,999]
def S0:List Int:=[4,11,99,998]
inductive jr(vs:List V)(H:Hp)(Q:VK):Prop
 | mk(l:Addr)(m r:Nat)(Vg:vs=[.ref l,.int m])(Vk:Fd (r+8) H l)(V1:∀(p:Addr) (ns:List Int) (H':Hp),H' p=some (.lst (ns.map V.int))->H p=none->ns.Sublist S5->ns.length<=m->Ve l r H H'->Q (.ref p) H')
def Pk:Sp:=fun vs H Q _=>jr vs H Q
inductive jc(K:W.Frag)(vs:List V)(H:Hp)(Q:VK):Prop
 | mk(l p:Addr)(ns:List Int)(r:Nat)(Vg:vs=[.ref l,.ref p])(Vk:H p=some (.lst (ns.map V.int)))(V1:Fd (r+4) H l)(Jk:∀(q:Addr) (us:List Int) (H':Hp),Yv K H' q (us.map V.int)->us.Sublist S0->(∀u∈us,u ∉ ns)->Ve l r H H'->Q (.ref q) H')
def Py(K:W.Frag):Sp:=fun vs H Q _=>jc K vs H Q
theorem Ro(ns:List Int):(ns.map V.int).all Nv=true:=by
 rw[Wv];intro x m;obtain⟨n,_,rfl⟩:=Dp.mp m
 rfl
theorem Qj(n:Int):∀ns:List Int,z9 (.int n) (ns.map V.int)=decide (n∈ns)
 | []=>by simp[z9]
 | k::ns=>by
  have ih:=Qj n ns;unfold z9 at ih ⊢;rw[R5,List.any_cons,ih];show (decide (k=n) || decide (n∈ns))=_;by_cases h:k=n
  ·subst h;simp
  ·have:¬ n=k:=fun z=>h z.symm;simp[h,this]
theorem cq(F:Fu K "_law_numbers" Dg f fd)(m:Bn mg)(Zt:gD P w K mg base):Yn P w K mg base Je 2 f fd ["_law_feed_here","_law_most"] Pk:=by
 refine F.ok Cq (fun vs H Q E h=>?_) fun _ A _ s H vs Q E hr h=>?_
 ·obtain⟨l,m,r,rfl,_⟩:=h
  rfl
 obtain⟨l,mm,r,rfl,fe,q⟩:=h;refine⟨_,(@Zf _ _ _ _ _ (@Ud _ 2 Wt (Zv Dg) ["_law_number","_law_feed_here"] [none,some 0] _ _ _ _ _ _ _ _ _ _ _ _ _ Cq.nd rfl (by trivial) rfl (@Ni _ _ _ _ (@Yt _ _ _ _ (@Mt _ _ [1,2,3,9,10,99,100,999] rfl))) ⟨rfl,rfl,by decide +kernel,by decide +kernel⟩ (fun _ _ _=>(nI 0)) (fun _ _ _=>(@Rp _ _ _ (tQ Ym (cF Zt hr (Zg (pv 1) (Zg Zq Zx))) Zq))) (fun _ _ _=>(pv 0)) (by trivial) (by trivial) (by trivial)) (q1 (qr (@Uy _ _ _ _ _ _ _ _ _ _ Ft (pv 2) (@U8 _) (@U7 _ _ _ (pv 1)))))), ?_⟩;refine⟨(sz 8),fun L hL=>⟨L,rfl,⟨_,Z0.of Zz⟩,fun D fp sx hD=>?_⟩⟩;have s1:=Zw.lay (o:=.lst (S5.map V.int)) hL;have f1:Fd (r+8) (Yq H L (.lst (S5.map V.int))) l:=fe.same s1;have nD:D≠l:=f1.ne hD;have nL:L≠l:=fe.ne hL;have nLD:L≠D:=fun e=>by rw[<-e,Zz]at hD;cases hD
 refine Jw (K:=K) (xs:=S5.map V.int) (fun i ys σ H5=>(∃o,σ=[o,some (.ref l)])/\(∃ns:List Int,ys=ns.map V.int/\ns.Sublist (S5.take i))/\Ve l (r+(8 - i)) (Yq H L (.lst (S5.map V.int))) H5/\H5 L=some (.lst (S5.map V.int))/\H5 D=some (.lst ys))
  ⟨⟨_,rfl⟩,⟨[],rfl,.slnil⟩,(Ve.refl f1).put hD (f1.far hD),by rw[Zl nLD];exact Zz,Zz⟩ ?_ ?_ ?_
 ·intro i ys σ H5 hi la;refine Zc fun _ Y5=>?_;obtain⟨_,_,t5,h5,h6⟩:=la;refine Y5 ?_;exact⟨Z0.of h5,h6⟩
 ·intro i x ys σ H5 hx K2;refine Zc fun _ Vm=>?_;obtain⟨⟨o,rfl⟩,⟨ns,rfl,sb⟩,t5,h5,h6⟩:=K2;rw[Ma]at hx;obtain⟨n,en,rfl⟩:=Qe.mp hx;refine Vm ?_;have hi:i<8:=(Q8.mp en).1;have tk:=Zs en;refine Zqa ?_;refine⟨_,rfl,l,3,r+(8 - (i+1)),rfl,t5.feed.m,by decide,by decide,fun z H6 z0 z1 t6=>?_⟩;have t56:=t5.trans t6;have h6D:=t6.keep _ _ nD h6;have h6L:=t6.keep _ _ nL h5;refine⟨rfl,_,rfl, ?_⟩;refine Vw (fun c=>?_) (fun c=>?_)
  ·refine⟨_,rfl,h6D, ?_,⟨_,rfl⟩,⟨ns++[n],by rw[Gj];rfl, ?_⟩,t56.put hD (f1.far hD),by rw[Zl nLD];exact h6L,Zz⟩
   ·have:=sb.length_le;rw[T1]at this;rw[Yp];exact Iz (show ns.length<=8 by omega) (by decide)
   ·rw[tk];exact sb.append (List.Sublist.refl _)
  ·exact⟨⟨_,rfl⟩,⟨ns,rfl,by rw[tk];exact sb.trans (List.sublist_append_left _ _)⟩,t56,h6L,h6D⟩
 ·intro ys σ H5 K1;refine Zc fun _ Vh=>?_;obtain⟨_,⟨ns,rfl,sb⟩,t5,h5,h6⟩:=K1;refine Vh ?_;refine⟨_,rfl,_,rfl,_,rfl,D,_,rfl,Z0.of h6,fun p hp=>?_⟩
  have e:Dj (ns.map V.int) none (some ((mm:Nat):Int))=(ns.take mm).map V.int:=by
   unfold Dj;rw[HT.oj,HT.Cf,List.drop_zero,Nat.sub_zero,List.map_take];by_cases h:mm<=(ns.map V.int).length
   ·rw[Nat.min_eq_left h]
   ·rw[Nat.min_eq_right (by omega),Xt (Vj _),Xt (by omega)]
  rw[e];have t7:=t5.lay (o:=.lst ((ns.take mm).map V.int)) hp;refine q p (ns.take mm) _ Zz (s1.free (t5.free hp)) ((List.take_sublist _ _).trans sb) (by rw[T1];omega) ?_;exact((Ve.refl fe).same s1).trans (t7.m)
theorem tu(F:Fu K "_law_struck" Mf f fd)(m:Bn mg)(Zt:gD P w K mg base):Yn P w K mg base Je 2 f fd ["_law_feed_here","_law_numbers_here"] (Py K):=by
 refine F.ok Ak (fun vs H Q E h=>?_) fun _ A _ s H vs Q E hr h=>?_
 ·obtain⟨l,p,ns,r,rfl,_⟩:=h
  rfl
 obtain⟨l,p,tk,r,rfl,hp,fe,q⟩:=h;refine⟨_,(@Yx _ _ _ (@Ux _ _ _ _ (@Ui _ _ _ _ _ _ _ _ _ Yl rfl m.tuple Yr (@Zj _ _ _ _ _ (@Ba _ Q2 (Zv Mf) ["_law_number","_law_numbers_here","_law_feed_here"] [none,some 1,some 0] _ _ _ _ _ _ _ _ _ _ rfl (@Ni _ _ _ _ (@Yt _ _ _ _ (@Mt _ _ [4,11,99,998] rfl))) ⟨rfl,rfl,by decide +kernel,by decide +kernel⟩ (fun _ _ _=>(nI 0)) (fun _ _ _=>(@Rp _ _ _ (qp (@pw_and _ _ _ _ _ _ _ (Md Jx (pv 0) (pv 1) rfl) (@pw_and1 _ _ _ _ (tQ Ym (cF Zt hr (Zg (pv 2) (Zg Zq Zx))) Zq)))))) (fun _ _ _=>(pv 0)) (by trivial)) Zx rfl) (by trivial) (by trivial) (by trivial) (by trivial)))), ?_⟩;refine⟨(sz 4),fun L hL=>⟨L,rfl,⟨_,Z0.of Zz⟩,fun D fp sx hD=>?_⟩⟩;have s1:=Zw.lay (o:=.lst (S0.map V.int)) hL;have f1:Fd (r+4) (Yq H L (.lst (S0.map V.int))) l:=fe.same s1;have nD:D≠l:=f1.ne hD;have nL:L≠l:=fe.ne hL;have nLD:L≠D:=fun e=>by rw[<-e,Zz]at hD;cases hD
 have np:p≠l:=fun e=>by
  refine Zc fun _ Vs=>?_;obtain⟨a,ks,b,c,d,e1,_⟩:=fe;refine Vs ?_;rw[e,e1]at hp
  injection hp with hp
  injection hp with hp
  cases tk with
  | nil=>cases hp
  | cons n ns=>injection hp with h3 _;cases h3
 have fb:=s1 _ _ hp;have npD:p≠D:=Yw fb hD
 refine Jw (K:=K) (xs:=S0.map V.int) (fun i ys σ H5=>(∃o,σ=[o,some (.ref p),some (.ref l)])/\(∃ns:List Int,ys=ns.map V.int/\ns.Sublist (S0.take i)/\∀u∈ns,u ∉ tk)/\Ve l (r+(4 - i)) (Yq H L (.lst (S0.map V.int))) H5/\H5 L=some (.lst (S0.map V.int))/\H5 D=some (.lst ys)/\H5 p=some (.lst (tk.map V.int)))
  ⟨⟨_,rfl⟩,⟨[],rfl,.slnil,fun u mu=>absurd mu U6⟩,(Ve.refl f1).put hD (f1.far hD),by rw[Zl nLD];exact Zz,Zz,by rw[Zl npD];exact fb⟩ ?_ ?_ ?_
 ·intro i ys σ H5 hi xm;refine Zc fun _ Vu=>?_;obtain⟨_,_,t5,h5,h6,_⟩:=xm;refine Vu ?_;exact⟨Z0.of h5,h6⟩
 ·intro i x ys σ H5 hx xf;refine Zc fun _ Ug=>?_;obtain⟨⟨o,rfl⟩,⟨ns,rfl,sb,no⟩,t5,h5,h6,h7⟩:=xf;rw[Ma]at hx;obtain⟨n,en,rfl⟩:=Qe.mp hx;refine Ug ?_;have hi:i<4:=(Q8.mp en).1;have tm:=Zs en
  have skip:∀{H6:Hp} {o':Option V},Ve l (r+(4 - (i+1))) (Yq H L (.lst (S0.map V.int))) H6->H6 L=some (.lst (S0.map V.int))->H6 D=some (.lst (ns.map V.int))->H6 p=some (.lst (tk.map V.int)) ->
    (∃o,([o',some (.ref p),some (.ref l)]:L2.St)=[o,some (.ref p),some (.ref l)])/\(∃ms:List Int,ns.map V.int=ms.map V.int/\ms.Sublist (S0.take (i+1))/\∀u∈ms,u ∉ tk)/\Ve l (r+(4 - (i+1))) (Yq H L (.lst (S0.map V.int))) H6/\H6 L=some (.lst (S0.map V.int))/\H6 D=some (.lst (ns.map V.int))/\H6 p=some (.lst (tk.map V.int)) :=
   fun a b c d=>⟨⟨_,rfl⟩,⟨ns,rfl,by rw[tm];exact sb.trans (List.sublist_append_left _ _),no⟩,a,b,c,d⟩
  refine Zqa ?_;refine⟨_,rfl,_,rfl,p,_,rfl,.inl (Z0.of h7),rfl,Ro tk,_,rfl, ?_⟩;show if (!z9 (.int n) (tk.map V.int))=true then _ else _
  rw[Qj];refine Vw (fun cm=>?_) (fun cm=>?_)
  ·have cm':n ∉ tk:=by simpa using cm
   refine⟨_,rfl,l,4,r+(4 - (i+1)),rfl,t5.feed.m,by decide,by decide,fun z H6 z0 z1 t6=>?_⟩;have t56:=t5.trans t6;have h6D:=t6.keep _ _ nD h6;have h6L:=t6.keep _ _ nL h5;have h6p:=t6.keep _ _ np h7;refine⟨rfl,_,rfl, ?_⟩;refine Vw (fun c=>?_) (fun c=>?_)
   ·refine⟨_,rfl,h6D, ?_,⟨_,rfl⟩,⟨ns++[n],by rw[Gj];rfl, ?_, ?_⟩,t56.put hD (f1.far hD),by rw[Zl nLD];exact h6L,Zz,by rw[Zl npD];exact h6p⟩
    ·have:=sb.length_le;rw[T1]at this;rw[Yp];exact Iz (show ns.length<=8 by omega) (by decide)
    ·rw[tm];exact sb.append (List.Sublist.refl _)
    ·intro u mu;rcases T6.mp mu with mu | mu
     ·exact no u mu
     ·rw[N6.mp mu];exact cm'
   ·exact skip t56 h6L h6D h6p
  ·exact skip (t5.m) h5 h6 h7
 ·intro ys σ H5 xg;refine Zc fun _ Uk=>?_;obtain⟨_,⟨ns,rfl,sb,no⟩,t5,h5,h6,h7⟩:=xg;refine Uk ?_;refine⟨D,_,rfl,.inl ⟨Z0.of h6,fun e he=>?_⟩⟩;exact q e ns _ (Yv.of Zz) sb no (((Ve.refl fe).same s1).trans ((t5.lay he).m))
abbrev Gf:Stmt:=top 45
abbrev Q4:List Str:=["_law_feed_here","_law_names_here","_law_way","_law_low","_law_word"]
theorem Ul:Zp Q4 ["_law_feed_here","_law_names_here"] (Zv Gf):=by trivial
structure V6 where
 n:Int
 x:Str
 y:Str
 d:Option Th
def V6.t(f:V6):Th:=.tup [.int f.n,.str f.x,.str f.y,.tup f.d.toList]
def V6.a(f:V6):Th:=.tup [.int f.n,.str f.x,.str f.y]
inductive Y3 where
 | whole(lo hi:Int) | truth | text(n:Int) | row(b:Bool)(y:Str)(n:Int) | rcd(fs:List V6)(us:List Int) | cho(fs:List V6)(us:List Int)(o:Bool)
def Y3.t:Y3->Th
 | .whole lo hi=>.tup [.str "whole",.int lo,.int hi]
 | .truth=>.tup [.str "truth"]
 | .text n=>.tup [.str "text",.int n]
 | .row b y n=>.tup [.str (if b=true then "row" else "map"),.str y,.int n]
 | .rcd fs us=>.tup [.str "record",.tup (fs.map V6.t),.tup (us.map Th.int)]
 | .cho fs us o=>.tup [.str "choice",.tup (fs.map V6.a),.tup (us.map Th.int),.bl o]
def ALL:Int:=1000000000000000000
def Pln(ss:List Str):Y3->Prop
 | .whole lo hi=>-ALL<=lo/\lo<=hi/\hi<=ALL
 | .truth=>True
 | .text n=>0<=n/\n<=200
 | .row _ y n=>y∈ss/\0<=n/\n<=20
 | _=>False
def LOWS:List Int:=[0, -3,1,5, -((10:Int) ^ (18:Int).toNat),0]
def ADDS:List Int:=[1,0,7,300,(10:Int) ^ (18:Int).toNat]
theorem Zbl:∀x∈LOWS, -ALL<=x/\x<=5:=by decide
theorem Zme:∀x∈ADDS,0<=x/\x<=ALL:=by decide
theorem e18:(10:Int) ^ (18:Int).toNat=ALL:=by decide
inductive b8(K:W.Frag)(vs:List V)(H:Hp)(Q:VK):Prop
 | mk(l p:Addr)(ss:List Str)(r:Nat)(Vg:vs=[.ref l,.ref p])(Vk:H p=some (.lst (ss.map V.str)))(V1:1<=ss.length)(Jk:ss.length<=12)(Mn:Fd (r+3) H l)(Wb:∀v s H',Zb K H' (Y3.t s) v->Pln ss s->Ve l r H H'->Q v H')
def Es(K:W.Frag):Sp:=fun vs H Q _=>b8 K vs H Q
theorem ag{H:Hp}{l p:Addr}{r:Nat}{ss:List Str}(fe:Fd r H l)(hp:H p=some (.lst (ss.map V.str))):p≠l:=fun e=>by
 obtain⟨a,ks,b,c,d,e1,_⟩:=fe;rw[e,e1]at hp
 injection hp with hp
 injection hp with hp
 cases ss with
 | nil=>cases hp
 | cons n ns=>injection hp with h3 _;cases h3
theorem Kf(F:Fu K "_law_plain_shape" Gf f fd)(m:Bn mg)(Zt:gD P w K mg base):Yn P w K mg base Je 2 f fd ["_law_feed_here","_law_names_here"] (Es K):=by
 refine F.ok Ul (fun vs H Q E h=>?_) fun _ A _ s H vs Q E hr h=>?_
 ·obtain⟨l,p,ss,r,rfl,_⟩:=h
  rfl
 obtain⟨l,p,ss,r,rfl,hp,l1,l2,fe,q⟩:=h;have mmin:=m.min;refine⟨_,(@Zf _ _ _ _ _ (sI 2 Ul.nd (cF Zt hr (Zg (pv 0) (Zg Zq Zx)))) (@Zf _ _ _ _ _ (@J3 _ _ _ _ _ _ _ _ (tQ F0 (pv 2) Zq) (@Zf _ _ _ _ _ (@Dc _ 3 _ _ _ _ _ Ul.nd rfl (by trivial) (@Ut _ _ _ _ _ _ _ Z2 (@Yt _ _ _ _ (@Zj _ _ _ _ _ Zq (@Zj _ _ _ _ _ (@Cm _ _ _ _ _ _ M4 Zq) (@Zj _ _ _ _ _ Zq (@Zj _ _ _ _ _ Zq (@Zj _ _ _ _ _ (@Cm _ _ _ _ _ _ M4 (@Di _ _ _ _ _ _ _ _ Bz Zq Zq)) (@Zj _ _ _ _ _ Zq Zx rfl) rfl) rfl) rfl) rfl) rfl)) (cF Zt hr (Zg (pv 0) (Zg Zq Zx))) (fun _ _=>rfl)) rfl (by trivial)) (@Yx _ _ _ (@Ux _ _ _ _ (@Ya _ _ _ _ _ (@Zj _ _ _ _ _ Zm (@Zj _ _ _ _ _ (pv 3) (@Zj _ _ _ _ _ (@Fe _ _ _ _ _ _ _ _ _ (Xy rfl) rfl mmin Zdp (@Zj _ _ _ _ _ (qo Bz Zq Zq) (@Zj _ _ _ _ _ (@Di _ _ _ _ _ _ _ _ Ju (pv 3) (@Ut _ _ _ _ _ _ _ Z2 (@Yt _ _ _ _ (@Zj _ _ _ _ _ Zq (@Zj _ _ _ _ _ Zq (@Zj _ _ _ _ _ Zq (@Zj _ _ _ _ _ Zq (@Zj _ _ _ _ _ (@Di _ _ _ _ _ _ _ _ Bz Zq Zq) Zx rfl) rfl) rfl) rfl) rfl)) (cF Zt hr (Zg (pv 0) (Zg Zq Zx))) (fun _ _=>rfl))) Zx rfl) rfl) (by decide) (by decide) rfl rfl) Zx rfl) rfl) rfl))))) Zd) (@Zf _ _ _ _ _ (qi (tQ Ym (pv 2) Zq) (q1 (qr (qt (Zg Zm Zx)))) Zd) (@Zf _ _ _ _ _ (@J3 _ _ _ _ _ _ _ _ (tQ F0 (pv 2) Zq) (@Yx _ _ _ (@Ux _ _ _ _ (@Ya _ _ _ _ _ (@Zj _ _ _ _ _ Zm (@Zj _ _ _ _ _ (@Ut _ _ _ _ _ _ _ Z2 (@Yt _ _ _ _ (@Mt _ _ [0,1,3,5,200] rfl)) (cF Zt hr (Zg (pv 0) (Zg Zq Zx))) (fun _ _=>rfl)) Zx rfl) rfl)))) Zd) (@Zf _ _ _ _ _ (@Dc _ 4 _ _ _ _ _ Ul.nd rfl (by trivial) (@Ut _ _ _ _ _ _ _ Z2 (@Yt _ _ _ _ (@Zj _ _ _ _ _ Zm (@Zj _ _ _ _ _ Zm (@Zj _ _ _ _ _ Zm Zx rfl) rfl) rfl)) (qo Lq (pv 2) Zq) (fun _ _=>rfl)) rfl (by trivial)) (@Yx _ _ _ (@Ux _ _ _ _ (@Ya _ _ _ _ _ (@Zj _ _ _ _ _ (pv 4) (@Zj _ _ _ _ _ (iX Z2 (pv 1) (cF Zt hr (Zg (pv 0) (Zg (cB Zn m.len Vv (Zg (pv 1) Zx)) Zx)))) (@Zj _ _ _ _ _ (@Ut _ _ _ _ _ _ _ Z2 (@Yt _ _ _ _ (@Mt _ _ [0,1,2,3,20] rfl)) (cF Zt hr (Zg (pv 0) (Zg Zq Zx))) (fun _ _=>rfl)) Zx rfl) rfl) rfl))))))))), ?_⟩;have pw:Zjt 10 18:=⟨by decide,by decide,by decide⟩;have np:=ag fe hp;refine⟨_,rfl,l,8,r+2,rfl,fe,by decide,by decide,fun x H1 x0 x1 t1=>?_⟩;refine⟨_,rfl,_,_,rfl,rfl,_,rfl, ?_⟩;refine Vw (fun c1=>?_) (fun c1=>?_)
 ·refine⟨_,rfl,_,_,rfl,rfl,pw,_,rfl,(sz 6),fun L hL=>?_⟩;have s2:=Zw.lay (o:=.lst (LOWS.map V.int)) hL;have t2:=t1.same s2;refine⟨_,rfl,l,6,r+1,rfl,t2.feed,by decide,by decide,fun y H3 y0 y1 t3=>?_⟩;obtain⟨lo,mlo,elo⟩:=Cb LOWS y0 y1;have bp:=t2.trans t3;refine⟨L,_,_,_,rfl,rfl,Z0.of (t3.keep _ _ (t1.feed.ne hL) Zz),elo, ?_⟩;refine⟨_,rfl,_,_,rfl,rfl,pw,_,rfl,_,_,rfl,rfl,pw,(sz 5),fun L4 h4=>?_⟩;have s4:=Zw.lay (o:=.lst (ADDS.map V.int)) h4;have t04:=bp.same s4;refine⟨_,rfl,l,5,r,rfl,t04.feed,by decide,by decide,fun z H5 z0 z1 t5=>?_⟩;obtain⟨ad,mad,ead⟩:=Cb ADDS z0 z1;have t05:=t04.trans t5;refine⟨L4,_,_,_,rfl,rfl,Z0.of (t5.keep _ _ (bp.feed.ne h4) Zz),ead,_,_,rfl,rfl,_,_,rfl,(sz 3),fun e he=>?_⟩;have b1:=Zbl lo mlo;have b2:=Zme ad mad;refine q _ (.whole lo _) _ ⟨e,_,rfl,Yv.of Zz,_,_,rfl,rfl,_,_,rfl,rfl,_,_,rfl,rfl,rfl⟩ ⟨b1.1, ?_, ?_⟩ ((t05.lay he).m)
  ·have a1:(1000000000000000000:Int)=ALL:=rfl;rw[e18];split<;>omega
  ·rw[e18];split<;>omega
 ·refine⟨_,rfl,rfl,_,rfl, ?_⟩;refine Vw (fun c2=>?_) (fun c2=>?_)
  ·refine⟨(sz 1),fun e he=>?_⟩;exact q _ .truth _ ⟨e,_,rfl,Yv.of Zz,_,_,rfl,rfl,rfl⟩ trivial ((t1.lay he).m)
  ·refine⟨_,rfl,_,_,rfl,rfl,_,rfl, ?_⟩;refine Vw (fun c3=>?_) (fun c3=>?_)
   ·refine⟨(sz 5),fun L hL=>?_⟩;have s2:=Zw.lay (o:=.lst ([0,1,3,5,200].map V.int)) hL;have t2:=t1.same s2;refine⟨_,rfl,l,5,r+1,rfl,t2.feed,by decide,by decide,fun y H3 y0 y1 t3=>?_⟩;obtain⟨n,mn,en⟩:=Cb [0,1,3,5,200] y0 y1;refine⟨L,_,_,_,rfl,rfl,Z0.of (t3.keep _ _ (t1.feed.ne hL) Zz),en,(sz 2),fun e he=>?_⟩;have bn:0<=n/\n<=200:=(by decide:∀x∈([0,1,3,5,200]:List Int),0<=x/\x<=200) n mn;exact q _ (.text n) _ ⟨e,_,rfl,Yv.of Zz,_,_,rfl,rfl,_,_,rfl,rfl,rfl⟩ bn (((t2.trans t3).lay he).m)
   ·refine⟨(sz 3),fun L hL=>?_⟩;have s2:=Zw.lay (o:=.lst ((["row","map","row"]:List Str).map V.str)) hL;have t2:=t1.same s2;have c3':¬ x<5:=fun z=>c3 (Gq z);obtain⟨wd,mw,ew⟩:=Ih ["row","map","row"] (r:=x - 5) (by omega) (by show x - 5<3;omega)
    obtain⟨b,rfl⟩:∃b:Bool,wd=(if b=true then ("row" : Str) else ("map" : Str)):=by
     simp only[G2,U6,or_false]at mw;rcases mw with rfl | rfl | rfl
     ·exact⟨true,rfl⟩
     ·exact⟨false,rfl⟩
     ·exact⟨true,rfl⟩
    refine⟨_,rfl,_,_,rfl,rfl,L,_,_,_,rfl,rfl,Z0.of Zz,ew, ?_⟩;have Az:=s2 _ _ (t1.keep _ _ np hp);refine⟨_,rfl,_,rfl,_,rfl,_,rfl,p,_,rfl,.inl (Z0.of Az),l,_,r+1,rfl,t2.feed, ?_, ?_,fun y H3 y0 y1 t3=>?_⟩
    ·rw[Yp];omega
    ·rw[Yp];omega
    obtain⟨nm,mn,en⟩:=Ih ss y0 (by rw[Yp]at y1;exact y1);have He:=t3.keep _ _ np Az;have bp:=t2.trans t3;refine⟨p,_,_,_,rfl,rfl,Z0.of He,en,(sz 5),fun L4 h4=>?_⟩;have s4:=Zw.lay (o:=.lst ([0,1,2,3,20].map V.int)) h4;have t04:=bp.same s4;refine⟨_,rfl,l,5,r,rfl,t04.feed,by decide,by decide,fun z H5 z0 z1 t5=>?_⟩;obtain⟨n,mn',en'⟩:=Cb [0,1,2,3,20] z0 z1;refine⟨L4,_,_,_,rfl,rfl,Z0.of (t5.keep _ _ (bp.feed.ne h4) Zz),en',(sz 3),fun e he=>?_⟩;have bn:0<=n/\n<=20:=(by decide:∀x∈([0,1,2,3,20]:List Int),0<=x/\x<=20) n mn';exact q _ (.row b nm n) _ ⟨e,_,rfl,Yv.of Zz,_,_,rfl,rfl,_,_,rfl,rfl,_,_,rfl,rfl,rfl⟩ ⟨mn,bn⟩ ((t04.trans t5).lay he)
abbrev Gg:Stmt:=top 46
abbrev Q3:List Str:=["_law_feed_here","_law_shape"]
theorem Wu:Zp Q3 ["_law_feed_here","_law_shape"] (Zv Gg):=by trivial
theorem at0{a:V}{l:List V}:Pz (a::l) 0=some a:=V4 (xs:=a::l) (j:=0) rfl
theorem Jy{a b:V}{l:List V}:Pz (a::b::l) 1=some b:=V4 (xs:=a::b::l) (j:=1) rfl
theorem Oz{a b c:V}{l:List V}:Pz (a::b::c::l) 2=some c:=V4 (xs:=a::b::c::l) (j:=2) rfl
theorem at3{a b c d:V}{l:List V}:Pz (a::b::c::d::l) 3=some d:=V4 (xs:=a::b::c::d::l) (j:=3) rfl
theorem A7{K:W.Frag}{H:Hp}{a:Th}{ws:List V}(h:Zy K H [a] ws):∃x,ws=[x]/\Zb K H a x:=by
 obtain⟨x,r,rfl,i1,e⟩:=h;cases Zr e;exact⟨x,rfl,i1⟩
theorem A6{K:W.Frag}{H:Hp}{a b:Th}{ws:List V}(h:Zy K H [a,b] ws):∃x y,ws=[x,y]/\Zb K H a x/\Zb K H b y:=by
 obtain⟨x,r,rfl,i1,y,r2,rfl,i2,e⟩:=h;cases Zr e;exact⟨x,y,rfl,i1,i2⟩
theorem Mu{K:W.Frag}{H:Hp}{a b c:Th}{ws:List V}(h:Zy K H [a,b,c] ws):∃x y z,ws=[x,y,z]/\Zb K H a x/\Zb K H b y/\Zb K H c z:=by
 obtain⟨x,r,rfl,i1,y,r2,rfl,i2,z,r3,rfl,i3,e⟩:=h;cases Zr e;exact⟨x,y,z,rfl,i1,i2,i3⟩
theorem A5{K:W.Frag}{H:Hp}{a b c d:Th}{ws:List V}(h:Zy K H [a,b,c,d] ws):∃x y z u,ws=[x,y,z,u]/\Zb K H a x/\Zb K H b y/\Zb K H c z/\Zb K H d u:=by
 obtain⟨x,r,rfl,i1,y,r2,rfl,i2,z,r3,rfl,i3,u,r4,rfl,i4,e⟩:=h;cases Zr e;exact⟨x,y,z,u,rfl,i1,i2,i3,i4⟩
theorem B0{K:W.Frag}{H:Hp}:∀{ns:List Int} {ws:List V},Zy K H (ns.map Th.int) ws->ws=ns.map V.int
 | [],_,h=>h
 | n::ns,_,h=>by
  obtain⟨v,r,rfl,e,a⟩:=h;cases Zr e;rw[B0 a];rfl
def iOf:Th->Int
 | .int i=>i
 | _=>0
def Kt:Th->Th
 | .tup (a::_)=>a
 | t=>t
def Zm0:List Str:=["","a"," b-c","must 1",df "~" (200:Int).toNat]
instance gdCdec (c:Nat):Decidable (gdC c):=by unfold gdC;infer_instance
def ke(x:Str):Prop:=gdS x/\x.length<=200
theorem Zgi:∀x∈Zm0,ke x:=fun x m=>by
 have h:∀x∈Zm0,(x.cps.toList.all fun c=>decide (gdC c))=true/\x.length<=200:=by decide +kernel
 exact⟨fun c mc=>ph (Wv.mp (h x m).1 c mc),(h x m).2⟩
mutual
def nqT:Th->Prop
 | .tup ts=>Zyv ts
 | .opq=>False
 | _=>True
def Zyv:List Th->Prop
 | []=>True
 | t::ts=>nqT t/\Zyv ts
end
theorem Ca:∀{ts:List Th},(∀t∈ts,nqT t)->Zyv ts
 | [],_=>trivial
 | t::ts,h=>⟨h t Te,Ca fun x m=>h x (Rq _ m)⟩
mutual
theorem Zzf{K:W.Frag}{H H':Hp}(u:Up K H H'):∀(t:Th) (v:V),nqT t->Zb K H t v->Zb K H' t v
 | .non,_,_,h=>h
 | .bl _,_,_,h=>h
 | .int _,_,_,h=>h
 | .str _,_,_,h=>h
 | .tup ts,v,n,h=>by
  obtain⟨a,vs,e,q,r⟩:=h;exact⟨a,vs,e,u a vs q,kh u ts vs n r⟩
 | .opq,v,n,h=>n.elim
theorem kh{K:W.Frag}{H H':Hp}(u:Up K H H'):∀(ts:List Th) (vs:List V),Zyv ts->Zy K H ts vs->Zy K H' ts vs
 | [],_,_,h=>h
 | t::ts,vs,n,h=>by
  obtain⟨v,r,e,q,w⟩:=h;exact⟨v,r,e,Zzf u t v n.1 q,kh u ts r n.2 w⟩
end
def Pv:Y3->Th->Prop
 | .whole lo hi,.int i=>lo<=i/\i<=hi
 | .truth,.bl _=>True
 | .text n,.str z=>ke z/\(z.length:Int)<=n
 | .row _ _ _,.tup []=>True
 | _,_=>False
inductive b7(K:W.Frag)(vs:List V)(H:Hp)(Q:VK):Prop
 | mk(l:Addr)(v:V)(s:Y3)(ss:List Str)(r:Nat)(Vg:vs=[.ref l,v])(Vk:Zb K H s.t v)(V1:Pln ss s)(Jk:Fd (r+1) H l)(Mn:∀x u H',Zb K H' u x->Pv s u->Ve l r H H'->Q x H')
def Fg(K:W.Frag):Sp:=fun vs H Q _=>b7 K vs H Q
theorem Kg(F:Fu K "_law_plain_value" Gg f fd)(m:Bn mg)(Zt:gD P w K mg base):Yn P w K mg base Je 2 f fd ["_law_feed_here","_law_shape"] (Fg K):=by
 refine F.ok Wu (fun vs H Q E h=>?_) fun _ A _ s H vs Q E hr h=>?_
 ·obtain⟨l,v,t,ss,r,rfl,_⟩:=h
  rfl
 obtain⟨l,v,s0,ss,r,rfl,ht,pl,fe,q⟩:=h;have mmin:=m.min;refine⟨_,(@Zf _ _ _ _ _ (@J3 _ _ _ _ _ _ _ _ (tQ Ym (iX Zk (pv 1) Zq) Zm) (@Yx _ _ _ (@Ux _ _ _ _ (@Ut _ _ _ _ _ _ _ Z2 (@Yt _ _ _ _ (@Zj _ _ _ _ _ (@Ut _ _ _ _ _ _ _ Zk (pv 1) Zq (fun _ _=>rfl)) (@Zj _ _ _ _ _ (@Ut _ _ _ _ _ _ _ Zk (pv 1) Zq (fun _ _=>rfl)) (@Zj _ _ _ _ _ (@Fe _ _ _ _ _ _ _ _ _ (Xy rfl) rfl mmin Zdp (@Zj _ _ _ _ _ (@Ut _ _ _ _ _ _ _ Zk (pv 1) Zq (fun _ _=>rfl)) (@Zj _ _ _ _ _ (@Di _ _ _ _ _ _ _ _ Ju (@Ut _ _ _ _ _ _ _ Zk (pv 1) Zq (fun _ _=>rfl)) Zq) Zx rfl) rfl) (by decide) (by decide) rfl rfl) Zx rfl) rfl) rfl)) (cF Zt hr (Zg (pv 0) (Zg Zq Zx))) (fun _ _=>rfl)))) Zd) (@Zf _ _ _ _ _ (qi (tQ Ym (iX Zk (pv 1) Zq) Zm) (q1 (qr (eQ Ym (cF Zt hr (Zg (pv 0) (Zg Zq Zx))) Zq))) Zd) (@Zf _ _ _ _ _ (@J3 _ _ _ _ _ _ _ _ (tQ Ym (iX Zk (pv 1) Zq) Zm) (@Yx _ _ _ (@Ux _ _ _ _ (@Uy _ _ _ _ _ _ _ _ _ _ Zfb (@Ut _ _ _ _ _ _ _ Z2 (@Yt _ _ _ _ (@Zj _ _ _ _ _ Zm (@Zj _ _ _ _ _ Zm (@Zj _ _ _ _ _ Zm (@Zj _ _ _ _ _ Zm (@Zj _ _ _ _ _ (@Di _ _ _ _ _ _ _ _ ij Zm Zq) Zx rfl) rfl) rfl) rfl) rfl)) (cF Zt hr (Zg (pv 0) (Zg Zq Zx))) (fun _ _=>rfl)) (@U8 _) (@U7 _ _ _ (iX Zk (pv 1) Zq))))) Zd) (q1 (qr (qt Zx)))))), ?_⟩;cases s0 with
 | rcd _ _=>exact pl.elim
 | cho _ _ _=>exact pl.elim
 | whole lo hi =>
  refine Zc fun _ Y5=>?_;obtain⟨a,ws,rfl,ha,at'⟩:=ht;obtain⟨w1,w2,w3,rfl,i1,i2,i3⟩:=Mu at';cases Zr i1;cases Zr i2;cases Zr i3;refine Y5 ?_;refine⟨_,rfl,a,_,_,_,rfl,rfl,ha,at0,rfl,_,rfl,iY ?_⟩;refine⟨_,rfl,a,_,_,_,rfl,rfl,ha,Jy,_,rfl,a,_,_,_,rfl,rfl,ha,Oz,_,rfl,a,_,_,_,rfl,rfl,ha,Oz,_,rfl,a,_,_,_,rfl,rfl,ha,Jy,_,_,rfl,rfl,_,_,rfl,(sz 3),fun L hL=>?_⟩;have t1:=(Ve.refl fe).lay (o:=.lst ([lo,hi,if lo+1<hi then lo+1 else hi].map V.int)) hL;refine⟨_,rfl,l,3,r,rfl,t1.feed,by decide,by decide,fun y H3 y0 y1 t3=>?_⟩;refine Zc fun _ Vm=>?_;obtain⟨k,mk,ek⟩:=Cb [lo,hi,if lo+1<hi then lo+1 else hi] y0 y1;refine Vm ?_;refine⟨L,_,_,_,rfl,rfl,Z0.of (t3.keep _ _ (fe.ne hL) Zz),ek, ?_⟩;refine q _ (.int k) H3 rfl ?_ (t1.trans t3);refine Zc fun _ Vh=>?_;obtain⟨p1,p2,p3⟩:=pl;refine Vh ?_;simp only[G2,U6,or_false]at mk;show lo<=k/\k<=hi;rcases mk with rfl | rfl | rfl
  ·omega
  ·omega
  ·split<;>omega
 | truth =>
  refine Zc fun _ Vs=>?_;obtain⟨a,ws,rfl,ha,at'⟩:=ht;obtain⟨w1,rfl,i1⟩:=A7 at';cases Zr i1;refine Vs ?_;refine⟨_,rfl,a,_,_,_,rfl,rfl,ha,at0,rfl,_,rfl,iN ?_⟩;refine⟨_,rfl,a,_,_,_,rfl,rfl,ha,at0,rfl,_,rfl,iY ?_⟩;refine⟨_,rfl,l,2,r,rfl,fe,by decide,by decide,fun y H3 y0 y1 t3=>?_⟩;exact⟨rfl,q _ (.bl _) H3 rfl trivial t3⟩
 | text n =>
  refine Zc fun _ Vu=>?_;obtain⟨n0,n1⟩:=pl;obtain⟨a,ws,rfl,ha,at'⟩:=ht;obtain⟨w1,w2,rfl,i1,i2⟩:=A6 at';cases Zr i1;cases Zr i2;refine Vu ?_
  iterate 2 refine⟨_,rfl,a,_,_,_,rfl,rfl,ha,at0,rfl,_,rfl,iN ?_⟩
  refine⟨_,rfl,a,_,_,_,rfl,rfl,ha,at0,rfl,_,rfl,iY ?_⟩;refine⟨_,_,rfl,rfl,by decide,by decide,by decide +kernel,by decide +kernel,(sz 5),fun L hL=>?_⟩;have t1:=(Ve.refl fe).lay (o:=.lst (Zm0.map V.str)) hL;refine⟨_,rfl,l,5,r,rfl,t1.feed,by decide,by decide,fun y H3 y0 y1 t3=>?_⟩;refine Zc fun _ Ug=>?_;obtain⟨x,mx,ex⟩:=Ih Zm0 y0 y1;refine Ug ?_;have gx:=Zgi x mx;have t13:=t1.trans t3;refine⟨L,_,_,_,rfl,rfl,Z0.of (t3.keep _ _ (fe.ne hL) Zz),ex,_,rfl,a,_,_,_,rfl,rfl,(t13.up (K:=K) fe) _ _ ha,Jy,_,rfl,x,rfl,Gw gx.2 (by decide),fun z h1 h2 h3=>?_⟩;have h2:=h2 n.toNat (by rw[show ((n.toNat:Nat):Int)=n by omega]);exact q _ (.str z) H3 rfl ⟨⟨fun c mc=>gx.1 c (h3 c mc),Gw h1 gx.2⟩,by omega⟩ t13
 | row b x n =>
  refine Zc fun _ Uk=>?_;obtain⟨a,ws,rfl,ha,at'⟩:=ht;obtain⟨w1,w2,w3,rfl,i1,i2,i3⟩:=Mu at';have e1:∀b:Bool,decide (V.str (if b=true then ("row" : Str) else "map")=V.str "whole")=false/\decide (V.str (if b=true then ("row" : Str) else "map")=V.str "truth")=false/\decide (V.str (if b=true then ("row" : Str) else "map")=V.str "text")=false:=by decide +kernel
  cases Zr i1;refine Uk ?_;refine⟨_,rfl,a,_,_,_,rfl,rfl,ha,at0,rfl,_,rfl,Z5 (e1 b).1 ?_⟩;refine⟨_,rfl,a,_,_,_,rfl,rfl,ha,at0,rfl,_,rfl,Z5 (e1 b).2.1 ?_⟩;refine⟨_,rfl,a,_,_,_,rfl,rfl,ha,at0,rfl,_,rfl,Z5 (e1 b).2.2 ?_⟩;refine⟨(sz 0),fun e he=>?_⟩;exact q _ (.tup []) _ ⟨e,_,rfl,Yv.of Zz,rfl⟩ trivial (((Ve.refl fe).lay he).m)
abbrev Cy:Stmt:=top 48
abbrev gm:List Str:=["_law_feed_here","_law_names_here","_law_shapes","_law_called","_law_found","_law_k","_law_number","_law_inner","_law_default"]
theorem V9:Zp gm ["_law_feed_here","_law_names_here","_law_shapes"] (Zv Cy):=by trivial
def PC(ss:List Str)(s:Y3):Prop:=Pln ss s\/∃fs us o,s=.cho fs us o
structure Xh(ss:List Str)(pl:Str->Option Y3)(f:V6):Prop where
 n:f.n∈S5
 y:f.y∈ss
 d:∀u,f.d=some u->∃s,pl f.y=some s/\Pv s u
structure R4(ss:List Str)(pl:Str->Option Y3)(fs:List V6):Prop where
 len:fs.length<=5
 form:∀f∈fs,Xh ss pl f
 nums:(fs.map V6.n).Sublist S5
def Zjd(K:W.Frag)(H:Hp)(ss:List Str)(pl:Str->Option Y3)(d:Addr):Prop:=∃kvs:List (Um×V),H d=some (.dK kvs)/\∀x v,Bt kvs (.inr x)=some v->∃s,pl x=some s/\Zb K H (Y3.t s) v/\PC ss s
theorem Zjd.up{K:W.Frag}{H H':Hp}{ss:List Str}{pl:Str->Option Y3}{d:Addr}(h:Zjd K H ss pl d)(u:Mz K H H'):Zjd K H' ss pl d:=by
 obtain⟨kvs,e,g⟩:=h;refine⟨kvs,u.dct _ _ e,fun k v ev=>?_⟩;obtain⟨s,es,i,c⟩:=g k v ev;exact⟨s,es,Zb.up u _ _ i,c⟩
inductive b9(K:W.Frag)(vs:List V)(H:Hp)(Q:VK):Prop
 | mk(l p d:Addr)(ss:List Str)(pl:Str->Option Y3)(r:Nat)(Vg:vs=[.ref l,.ref p,.ref d])(Vk:H p=some (.lst (ss.map V.str)))(V1:1<=ss.length)(Jk:ss.length<=12)(Mn:Zjd K H ss pl d)(Wb:Fd (r+25) H l)(fm:∀v fs H',Zb K H' (.tup (fs.map V6.t)) v->R4 ss pl fs->Ve l r H H'->Q v H')
def Eh(K:W.Frag):Sp:=fun vs H Q _=>b9 K vs H Q
theorem di{ss:List Str}{s:Y3}(h:Pln ss s):∃(w0:Str) (r0:List Th),s.t=.tup (.str w0::r0)/\z9 (.str w0) [.str "none",.str "choice"]=false:=by
 cases s with
 | whole lo hi=>exact⟨_,_,rfl,by decide +kernel⟩
 | truth=>exact⟨_,_,rfl,by decide +kernel⟩
 | text n=>exact⟨_,_,rfl,by decide +kernel⟩
 | row b y n =>
  have e:∀b:Bool,z9 (.str (if b=true then ("row" : Str) else "map")) [.str "none",.str "choice"]=false:=by decide +kernel
  exact⟨_,_,rfl,e b⟩
 | rcd _ _=>exact h.elim
 | cho _ _ _=>exact h.elim
structure Kq(K:W.Frag)(l C N D:Addr)(H:Hp)(cs:List Str)(ns:List Int)(ws:List V)(fs:List Th)(r:Nat)(Ha:Hp):Prop where
 st:Ve l r H Ha
 c:Ha C=some (.lst (cs.map V.str))
 n:Ha N=some (.lst (ns.map V.int))
 d:Ha D=some (.lst ws)
 a:Zy K Ha fs ws
theorem Kq.same{K:W.Frag}{l C N D:Addr}{H:Hp}{cs:List Str}{ns:List Int}{ws:List V}{fs:List Th}{r:Nat}{Ha Hb:Hp}(k:Kq K l C N D H cs ns ws fs r Ha)(s:Zw Ha Hb):Kq K l C N D H cs ns ws fs r Hb :=
 ⟨k.st.same s,s _ _ k.c,s _ _ k.n,s _ _ k.d,Zy.up s.upT _ _ k.a⟩
theorem Kq.step{K:W.Frag}{l C N D:Addr}{H:Hp}{cs:List Str}{ns:List Int}{ws:List V}{fs:List Th}{r r':Nat}{Ha Hb:Hp}(k:Kq K l C N D H cs ns ws fs r Ha)(t:Ve l r' Ha Hb)(c:C≠l)(n:N≠l)(d:D≠l):Kq K l C N D H cs ns ws fs r' Hb :=
 ⟨k.st.trans t,t.keep _ _ c k.c,t.keep _ _ n k.n,t.keep _ _ d k.d,Zy.up (t.upT k.st.feed) _ _ k.a⟩
theorem Zqx(F:Fu K "_law_parts" Cy f fd)(m:Bn mg)(Zt:gD P w K mg base)(D1:Fn P w K mg base 2 "_law_names" ["_law_feed_here","_law_many"] Fb)
  (Aa:Fn P w K mg base 2 "_law_numbers" ["_law_feed_here","_law_most"] Pk) (Gr:Fn P w K mg base 2 "_law_plain_value" ["_law_feed_here","_law_shape"] (Fg K)):Yn P w K mg base Je 3 f fd ["_law_feed_here","_law_names_here","_law_shapes"] (Eh K):=by
 refine F.ok V9 (fun vs H Q E h=>?_) fun _ A _ s H vs Q E hr h=>?_
 ·obtain⟨l,p,d,ss,pl,r,rfl,_⟩:=h
  rfl
 obtain⟨l,p,d,ss,pl,r,rfl,hp,l1,l2,dp,fe,q⟩:=h;refine⟨_,(@Zf _ _ _ _ _ (sI 3 V9.nd (cF D1 hr (Zg (pv 0) (Zg Zq Zx)))) (qs (sI 4 V9.nd (ql Zx)) (qs (Dz PassesOwn.never rfl (Zvi rfl m.enumerate (Zg (cF Aa hr (Zg (pv 0) (Zg Zq Zx))) Zx)) (N9 rfl (Ys (nJ 5 V9.nd) (Ys (nJ 6 V9.nd) Dn))) (qs (sI 7 V9.nd (iX Z2 (pv 1) (cF Zt hr (Zg (pv 0) (Zg (cB Zn m.len Vv (Zg (pv 1) Zx)) Zx))))) (qs (sI 8 V9.nd (qt Zx)) (qs (qi (qp (@pw_and _ _ _ _ _ _ _ (Md Jx (iX Zk (@Zve _ _ _ _ _ _ _ _ _ (To hr) (pv 2) (pv 7) (qt (Zg Zm Zx)) ⟨rfl,rfl,rfl,rfl⟩) Zq) (qt (Zg Zm (Zg Zm Zx))) rfl) (@pw_and1 _ _ _ _ (tQ Ym (cF Zt hr (Zg (pv 0) (Zg Zq Zx))) Zq)))) (q1 (sI 8 V9.nd (qt (Zg (cF Gr hr (Zg (pv 0) (Zg (@Fi _ _ _ _ _ _ (To hr) (pv 2) (pv 7) (fun _ _=>rfl)) Zx))) Zx)))) Zd) (q1 (@Ez _ _ _ _ (@oi _ _ _ _ _ _ _ _ _ _ _ _ PySem.F.plainAttrs_list PySem.F.slot_list_append PySem.F.type_list_append Pu (pv 4) (Zg (qt (Zg (pv 6) (Zg (iX Z2 (pv 3) (pv 5)) (Zg (pv 7) (Zg (pv 8) Zx))))) Zx) (by trivial) (by trivial) (by trivial) (by trivial) (by trivial)) rfl)))))) (q1 (qr (cT Yl m.tuple Yr (Zg (pv 4) Zx))))))), ?_⟩;have np:=ag fe hp;refine⟨_,rfl,l,8,r+23,rfl,fe,by decide,fun C cs H1 hC nC okC t1=>?_⟩;have nCl:C≠l:=fe.ne nC;refine⟨(sz 0),fun D hD=>?_⟩;have t2:=t1.lay (o:=.lst []) hD;have nD:H D=none:=t1.free hD;have nDl:D≠l:=fe.ne nD;have hC2:=(Zw.lay (o:=.lst []) hD) _ _ hC;have nDC:D≠C:=fun e=>by rw[e,hC]at hD;cases hD
 refine⟨_,rfl,l,5,r+15,rfl,t2.feed.m,fun N ns H3 hN nN sbN lnN t3=>?_⟩;have bp:=t2.trans t3;have nNl:N≠l:=t2.feed.ne nN;have hC3:=t3.keep _ _ nCl hC2;have hD3:H3 D=some (.lst []):=t3.keep _ _ nDl Zz;have nDN:D≠N:=fun e=>by rw[<-e,Zz]at nN;cases nN
 have He:=bp.keep _ _ np hp;have npD:p≠D:=Yw hp nD;refine⟨N,_,rfl,Z0.of hN, ?_⟩
 refine Zq0 (xs:=ns.map V.int) (fun i σ H5=>(∃o5 o6 o7 o8,σ=[some (.ref l),some (.ref p),some (.ref d),some (.ref C),some (.ref D),o5,o6,o7,o8])/\Ve l (r+3 * (5 - i)) H H5/\H5 C=some (.lst (cs.map V.str))/\H5 N=some (.lst (ns.map V.int)) /\
   ∃(fs:List V6) (ws:List V),H5 D=some (.lst ws)/\Zy K H5 (fs.map V6.t) ws/\(∀f∈fs,Xh ss pl f)/\fs.map V6.n=ns.take i)
  ⟨⟨_,_,_,_,rfl⟩,bp.m,hC3,hN,[],[],hD3,rfl,fun f m=>absurd m U6,rfl⟩ ?_ ?_ ?_
 ·intro i σ H5 hi la;refine Zc fun _ Y5=>?_;obtain⟨_,_,_,h5,_⟩:=la;refine Y5 ?_;exact Z0.of h5
 ·intro i x e σ H5 hx K2 he;refine Zc fun _ Vm=>?_;obtain⟨⟨o5,o6,o7,o8,rfl⟩,t5,h5C,h5N,fs,ws,h5D,af,ff,fn⟩:=K2;rw[Ma]at hx;obtain⟨n,en,rfl⟩:=Qe.mp hx;refine Vm ?_;have hi:i<ns.length:=(Q8.mp en).1;have nN:n∈S5:=sbN.subset (Ow en);have ic:i<cs.length:=by rw[okC.len];omega
  have ec:cs[i]?=some cs[i]:=Nn ic;have mC:cs[i]∈cs:=G0e ic;have eC:Pz (cs.map V.str) (i:Int)=some (.str cs[i]):=V4 (by rw[Ma,ec];rfl);generalize cs[i]=cx at ec mC eC
  have wl:ws.length<sizeLine:=by
   have:fs.length=i:=by
    have z:=congrArg List.length fn;rw[Yp,T1]at z;omega
   rw[<-af.length,Yp];exact Iz (show fs.length<=8 by omega) (by decide)
  have k5:Kq K l C N D H cs ns ws (fs.map V6.t) (r+3 * (5 - i)) H5:=⟨t5,h5C,h5N,h5D,af⟩;have k6:=k5.same (Zw.lay (o:=.tup [.int i,.int n]) he);refine⟨e,_,rfl,Yv.of Zz,rfl,_,_,rfl,_,_,rfl,rfl, ?_⟩;have hp6:=k6.st.keep _ _ np hp;refine⟨_,rfl,_,rfl,_,rfl,p,_,rfl,.inl (Z0.of hp6),l,_,r+3 * (5 - (i+1))+2,rfl,k6.st.feed.m, ?_, ?_,fun y H7 y0 y1 t7=>?_⟩
  ·rw[Yp];omega
  ·rw[Yp];omega
  refine Zc fun _ Vh=>?_;obtain⟨nm,mn,enm⟩:=Ih ss y0 (by rw[Yp]at y1;exact y1);refine Vh ?_;have k7:=k6.step t7 nCl nNl nDl;refine⟨p,_,_,_,rfl,rfl,Z0.of (k7.st.keep _ _ np hp),enm,(sz 0),fun ed hed=>?_⟩;have k8:=k7.same (Zw.lay (o:=.tup []) hed);have i8:Zb K (Yq H7 ed (.tup [])) (.tup []) (.ref ed):=⟨ed,[],rfl,Yv.of Zz,rfl⟩;refine Zc fun _ Vs=>?_;obtain⟨kvs,hd8,g8⟩:=dp.up (k8.st.upT fe);refine Vs ?_;refine⟨_,rfl,d,rfl,.inl ⟨_,.inl hd8⟩,_,rfl,(sz 1),fun e9 h9=>?_⟩;have s9:=Zw.lay (o:=.tup [.str "none"]) h9;have k9:=k8.same s9;refine⟨_,Nl.k (k:=.inr nm) (s9 _ _ hd8), ?_⟩;cases hv:Bt kvs (.inr nm) with
  | none =>
   refine⟨e9,_,_,_,rfl,rfl,Yv.of Zz,at0,(sz 2),fun e10 Eg=>?_⟩;have W7:=Zw.lay (o:=.tup [.str "none",.str "choice"]) Eg;refine⟨e10,_,rfl,.inr (Yv.of Zz),rfl,rfl,_,rfl,Z5 (by decide +kernel) (Y6 ?_)⟩;have kT:=(k9.same W7);refine Zc fun _ Vu=>?_;obtain⟨od,iD,okD⟩:∃od:Option Th,Zb K _ (.tup od.toList) (.ref ed)/\(∀u,od=some u->∃s,pl nm=some s/\Pv s u):=⟨none,Zb.up (s9.trans W7).upT _ _ i8,fun u e=>nomatch e⟩;refine Vu ?_;refine⟨_,rfl,.inl ⟨rfl,_,Z0.of kT.d⟩,_,rfl,_,rfl,_,rfl,C,_,_,_,rfl,rfl,Z0.of kT.c,eC,_,rfl,_,rfl,(sz 4),fun eT hT=>?_⟩;have sT:=Zw.lay (o:=.tup [.int n,.str cx,.str nm,.ref ed]) hT;have kU:=kT.same sT;refine⟨D,ws,_,rfl,rfl,kU.d,wl, ?_⟩;have uD:Mz K _ (Yq _ D (.lst (ws++[.ref eT]))):=Y8 kU.d;have fT:Xh ss pl ⟨n,cx,nm,od⟩:=⟨nN,mn,okD⟩;refine⟨⟨_,_,_,_,rfl⟩,(kU.st.put nD (fe.far nD)).m,by rw[Zl nDC.symm];exact kU.c,by rw[Zl nDN.symm];exact kU.n,fs++[⟨n,cx,nm,od⟩],_,Zz, ?_,fun g mg=>?_, ?_⟩
   ·rw[Gj];refine Zy.append (Zy.up uD _ _ kU.a) (Zy.one (Zb.up uD _ _ ⟨eT,_,rfl,Yv.of Zz, ?_⟩));exact⟨_,_,rfl,rfl,_,_,rfl,rfl,_,_,rfl,rfl,_,_,rfl,Zb.up sT.upT _ _ iD,rfl⟩
   ·rcases T6.mp mg with mg | mg
    ·exact ff g mg
    ·rw[N6.mp mg];exact fT
   ·rw[Gj,fn,Zs en];rfl
  | some v =>
   refine Zc fun _ Ug=>?_;obtain⟨s,es,it,ct⟩:=g8 _ _ hv;refine Ug ?_;have it9:=Zb.up s9.upT _ _ it;rcases ct with pt | ⟨cf,cu,co,rfl⟩
   ·refine Zc fun _ Uk=>?_;obtain⟨w0,r0,et,nw⟩:=di pt;rw[et]at it9;obtain⟨pv,vs,rfl,hv9,v0,vr,rfl,i0,_⟩:=it9;cases Zr i0;refine Uk ?_;refine⟨pv,_,_,_,rfl,rfl,hv9,at0,(sz 2),fun e10 Eg=>?_⟩;have W7:=Zw.lay (o:=.tup [.str "none",.str "choice"]) Eg;have k10:=k9.same W7;refine⟨e10,_,rfl,.inr (Yv.of Zz),rfl,rfl,_,rfl,Yj (by rw[nw];rfl) ?_⟩;refine⟨_,rfl,l,2,r+3 * (5 - (i+1))+1,rfl,k10.st.feed.m,by decide,by decide,fun z H11 z0 z1 Ik=>?_⟩;have k11:=k10.step Ik nCl nNl nDl;refine⟨rfl,_,rfl, ?_⟩;refine Vw (fun cz=>?_) (fun cz=>?_)
    ·have u811:Mz K (Yq H7 ed (.tup [])) H11:=(s9.trans W7).upT.trans (Ik.upT k10.st.feed);refine⟨_,rfl,_,rfl,_,rfl,d,_,rfl,(show Nl H11 d (kV (.inr nm)) (some (.ref pv)) from hv ▸ Nl.k (k:=.inr nm) (u811.dct _ _ hd8)),l,.ref pv,s,ss,r+3 * (5 - (i+1)),rfl,Zb.up u811 _ _ it,pt,k11.st.feed,fun x u H12 ix lu t12=>?_⟩;have k12:=k11.step t12 nCl nNl nDl;refine⟨(sz 1),fun ed hed2=>?_⟩;have s13:=Zw.lay (o:=.tup [x]) hed2;have kT:=k12.same s13;refine Zc fun _ U1=>?_;obtain⟨od,iD,okD⟩:∃od:Option Th,Zb K (Yq H12 ed (.tup [x])) (.tup od.toList) (.ref ed)/\(∀u,od=some u->∃s,pl nm=some s/\Pv s u):=⟨some u,⟨ed,_,rfl,Yv.of Zz,Zy.one (Zb.up s13.upT _ _ ix)⟩,fun u' e'=>by cases e';exact⟨s,es,lu⟩⟩;refine U1 ?_;refine⟨_,rfl,.inl ⟨rfl,_,Z0.of kT.d⟩,_,rfl,_,rfl,_,rfl,C,_,_,_,rfl,rfl,Z0.of kT.c,eC,_,rfl,_,rfl,(sz 4),fun eT hT=>?_⟩;have sT:=Zw.lay (o:=.tup [.int n,.str cx,.str nm,.ref ed]) hT;have kU:=kT.same sT;refine⟨D,ws,_,rfl,rfl,kU.d,wl, ?_⟩;have uD:Mz K _ (Yq _ D (.lst (ws++[.ref eT]))):=Y8 kU.d;have fT:Xh ss pl ⟨n,cx,nm,od⟩:=⟨nN,mn,okD⟩;refine⟨⟨_,_,_,_,rfl⟩,(kU.st.put nD (fe.far nD)).m,by rw[Zl nDC.symm];exact kU.c,by rw[Zl nDN.symm];exact kU.n,fs++[⟨n,cx,nm,od⟩],_,Zz, ?_,fun g mg=>?_, ?_⟩
     ·rw[Gj];refine Zy.append (Zy.up uD _ _ kU.a) (Zy.one (Zb.up uD _ _ ⟨eT,_,rfl,Yv.of Zz, ?_⟩));exact⟨_,_,rfl,rfl,_,_,rfl,rfl,_,_,rfl,rfl,_,_,rfl,Zb.up sT.upT _ _ iD,rfl⟩
     ·rcases T6.mp mg with mg | mg
      ·exact ff g mg
      ·rw[N6.mp mg];exact fT
     ·rw[Gj,fn,Zs en];rfl
    ·have kT:=k11;refine Zc fun _ Y5=>?_;obtain⟨od,iD,okD⟩:∃od:Option Th,Zb K _ (.tup od.toList) (.ref ed)/\(∀u,od=some u->∃s,pl nm=some s/\Pv s u):=⟨none,Zb.up ((s9.trans W7).upT.trans (Ik.upT k10.st.feed)) _ _ i8,fun u e=>nomatch e⟩;refine Y5 ?_;refine⟨_,rfl,.inl ⟨rfl,_,Z0.of kT.d⟩,_,rfl,_,rfl,_,rfl,C,_,_,_,rfl,rfl,Z0.of kT.c,eC,_,rfl,_,rfl,(sz 4),fun eT hT=>?_⟩;have sT:=Zw.lay (o:=.tup [.int n,.str cx,.str nm,.ref ed]) hT;have kU:=kT.same sT;refine⟨D,ws,_,rfl,rfl,kU.d,wl, ?_⟩;have uD:Mz K _ (Yq _ D (.lst (ws++[.ref eT]))):=Y8 kU.d;have fT:Xh ss pl ⟨n,cx,nm,od⟩:=⟨nN,mn,okD⟩;refine⟨⟨_,_,_,_,rfl⟩,(kU.st.put nD (fe.far nD)).m,by rw[Zl nDC.symm];exact kU.c,by rw[Zl nDN.symm];exact kU.n,fs++[⟨n,cx,nm,od⟩],_,Zz, ?_,fun g mg=>?_, ?_⟩
     ·rw[Gj];refine Zy.append (Zy.up uD _ _ kU.a) (Zy.one (Zb.up uD _ _ ⟨eT,_,rfl,Yv.of Zz, ?_⟩));exact⟨_,_,rfl,rfl,_,_,rfl,rfl,_,_,rfl,rfl,_,_,rfl,Zb.up sT.upT _ _ iD,rfl⟩
     ·rcases T6.mp mg with mg | mg
      ·exact ff g mg
      ·rw[N6.mp mg];exact fT
     ·rw[Gj,fn,Zs en];rfl
   ·refine Zc fun _ Vm=>?_;obtain⟨pv,vs,rfl,hv9,v0,vr,rfl,i0,_⟩:=it9;cases Zr i0;refine Vm ?_;refine⟨pv,_,_,_,rfl,rfl,hv9,at0,(sz 2),fun e10 Eg=>?_⟩;have W7:=Zw.lay (o:=.tup [.str "none",.str "choice"]) Eg;refine⟨e10,_,rfl,.inr (Yv.of Zz),rfl,rfl,_,rfl,Z5 (by decide +kernel) (Y6 ?_)⟩;have kT:=(k9.same W7);refine Zc fun _ Vh=>?_;obtain⟨od,iD,okD⟩:∃od:Option Th,Zb K _ (.tup od.toList) (.ref ed)/\(∀u,od=some u->∃s,pl nm=some s/\Pv s u):=⟨none,Zb.up (s9.trans W7).upT _ _ i8,fun u e=>nomatch e⟩;refine Vh ?_;refine⟨_,rfl,.inl ⟨rfl,_,Z0.of kT.d⟩,_,rfl,_,rfl,_,rfl,C,_,_,_,rfl,rfl,Z0.of kT.c,eC,_,rfl,_,rfl,(sz 4),fun eT hT=>?_⟩;have sT:=Zw.lay (o:=.tup [.int n,.str cx,.str nm,.ref ed]) hT;have kU:=kT.same sT;refine⟨D,ws,_,rfl,rfl,kU.d,wl, ?_⟩;have uD:Mz K _ (Yq _ D (.lst (ws++[.ref eT]))):=Y8 kU.d;have fT:Xh ss pl ⟨n,cx,nm,od⟩:=⟨nN,mn,okD⟩;refine⟨⟨_,_,_,_,rfl⟩,(kU.st.put nD (fe.far nD)).m,by rw[Zl nDC.symm];exact kU.c,by rw[Zl nDN.symm];exact kU.n,fs++[⟨n,cx,nm,od⟩],_,Zz, ?_,fun g mg=>?_, ?_⟩
    ·rw[Gj];refine Zy.append (Zy.up uD _ _ kU.a) (Zy.one (Zb.up uD _ _ ⟨eT,_,rfl,Yv.of Zz, ?_⟩));exact⟨_,_,rfl,rfl,_,_,rfl,rfl,_,_,rfl,rfl,_,_,rfl,Zb.up sT.upT _ _ iD,rfl⟩
    ·rcases T6.mp mg with mg | mg
     ·exact ff g mg
     ·rw[N6.mp mg];exact fT
    ·rw[Gj,fn,Zs en];rfl
 ·intro σ H5 hI12_;refine Zc fun _ Vs=>?_;obtain⟨⟨o5,o6,o7,o8,rfl⟩,t5,h5C,h5N,fs,ws,h5D,af,ff,fn⟩:=hI12_;refine Vs ?_;refine⟨_,rfl,D,ws,rfl,.inl ⟨Z0.of h5D,fun e he=>?_⟩⟩;have s6:=Zw.lay (o:=.tup ws) he;rw[Xt (by rw[Yp];exact Vj _)]at fn;have fl:fs.length=ns.length:=by rw[<-fn,Yp]
  refine q (.ref e) fs _ ⟨e,ws,rfl,Yv.of Zz,Zy.up s6.upT _ _ af⟩ ⟨by omega,ff,by rw[fn];exact sbN⟩ ((t5.same s6).m)
abbrev G7:Stmt:=top 49
abbrev Td:List Str:=["_law_feed_here","_law_names_here","_law_shapes","_law_name","_law_way","_law_arms","_law_struck_here","_law_plain","_law_parts_here"]
theorem Vo:Zp Td ["_law_feed_here"] (Zv G7):=by trivial
structure UpO(K:W.Frag)(H H':Hp):Prop where
 tup:Up K H H'
 lst:∀a xs,H a=some (.lst xs)->∃ys,H' a=some (.lst ys)
 dct:∀a kvs,H a=some (.dK kvs)->∃Zbs,H' a=some (.dK Zbs)
theorem bf{K:W.Frag}{H H':Hp}(u:Mz K H H'):UpO K H H':=⟨u.tup,u.lst,fun a k h=>⟨k,u.dct a k h⟩⟩
mutual
theorem Ko{K:W.Frag}{H H':Hp}(u:UpO K H H'):∀(t:Th) (v:V),Zb K H t v->Zb K H' t v
 | .non,_,h=>h
 | .bl _,_,h=>h
 | .int _,_,h=>h
 | .str _,_,h=>h
 | .tup ts,v,h=>by
  obtain⟨a,vs,e,q,r⟩:=h;exact⟨a,vs,e,u.tup a vs q,Xd u ts vs r⟩
 | .opq,v,h=>by
  obtain⟨a,e,q⟩:=h;refine⟨a,e, ?_⟩;rcases q with ⟨xs,q⟩ | ⟨k,q⟩
  ·exact .inl (u.lst a xs q)
  ·exact .inr (u.dct a k q)
theorem Xd{K:W.Frag}{H H':Hp}(u:UpO K H H'):∀(ts:List Th) (vs:List V),Zy K H ts vs->Zy K H' ts vs
 | [],_,h=>h
 | t::ts,vs,h=>by
  obtain⟨v,r,e,q,w⟩:=h;exact⟨v,r,e,Ko u t v q,Xd u ts r w⟩
end
theorem aj{K:W.Frag}{H:Hp}{S:Addr}{kvs Zbs:List (Um×V)}(h:H S=some (.dK kvs)):UpO K H (Yq H S (.dK Zbs)):=by
 have ne:∀{x:Addr} {o:HO},H x=some o->(∀k,o≠.dK k)->x≠S:=fun e n z=>by
  rw[z,h]at e;cases e;exact n _ rfl
 refine⟨fun c xs q=>?_,fun a xs q=>⟨xs,by rw[Zl (ne q fun _ z=>nomatch z)];exact q⟩,fun a k q=>?_⟩
 ·rcases q with (q | ⟨o,q⟩) | q
  ·exact .inl (.inl (by rw[Zl (ne q fun _ z=>nomatch z)];exact q))
  ·exact .inl (.inr ⟨o,by rw[Zl (ne q fun _ z=>nomatch z)];exact q⟩)
  ·exact .inr q
 ·by_cases z:a=S
  ·exact⟨Zbs,by rw[z,Zz]⟩
  ·exact⟨k,by rw[Zl z];exact q⟩
def Jf:List (Str×Y3)->Str->Option Y3
 | [],_=>none
 | (y,s)::r,x=>if y=x then some s else Jf r x
theorem Zzw{a b:List (Str×Y3)}{x:Str}:Jf (a++b) x=(Jf a x).or (Jf b x):=by
 induction a with
 | nil=>simp[Jf]
 | cons p a ih =>
  obtain⟨y,s⟩:=p;by_cases h:y=x
  ·simp[Jf,h]
  ·simp[Jf,h,ih]
theorem yz{a:List (Str×Y3)}{x:Str}:Jf a x=none↔x ∉ a.map (·.1):=by
 induction a with
 | nil=>simp[Jf]
 | cons p a ih =>
  obtain⟨y,s⟩:=p;by_cases h:y=x
  ·simp[Jf,h]
  ·have h':¬ x=y:=fun z=>h z.symm;simp[Jf,h,h',ih]
theorem Zzj{a:List (Str×Y3)}{x:Str}{s:Y3}(h:Jf a x=some s):(x,s)∈a:=by
 induction a with
 | nil=>cases h
 | cons p a ih =>
  obtain⟨y,s'⟩:=p;by_cases e:y=x
  ·simp only[Jf,e,if_true]at h;cases h;rw[e];exact Te
  ·simp only[Jf,e,if_false]at h;exact Rq _ (ih h)
def Dm(K:W.Frag)(H:Hp):List (Um×V)->List (Str×Y3)->Prop:=Paired fun p m=>p.1=.inr m.1/\Zb K H m.2.t p.2
theorem Dm.up{K:W.Frag}{H H':Hp}{kvs:List (Um×V)}{ms:List (Str×Y3)}(h:Dm K H kvs ms)(u:UpO K H H'):Dm K H' kvs ms:=Paired.mapP h fun _ _ z=>⟨z.1,Ko u _ _ z.2⟩
theorem Dm.val{K:W.Frag}{H:Hp}:∀{kvs:List (Um×V)} {ms:List (Str×Y3)},Dm K H kvs ms->∀x,(Jf ms x=none/\Bt kvs (.inr x)=none)\/∃s v,Jf ms x=some s/\Bt kvs (.inr x)=some v/\Zb K H s.t v
 | _,_,.nil,x=>.inl ⟨rfl,rfl⟩
 | (k,v)::kvs,(y,s)::ms,.cons r t,x=>by
  have rk:k=.inr y:=r.1;subst rk;by_cases e:y=x
  ·subst e;exact .inr ⟨s,v,by simp[Jf],Fw rfl,r.2⟩
  ·have e':¬ ((Sum.inr y,v):Um×V).1=Sum.inr x:=fun z=>e (Sum.inr.inj z);rw[Fv e'];simp only[Jf,e,if_false];exact Dm.val t x
theorem Dm.keys{K:W.Frag}{H:Hp}:∀{kvs:List (Um×V)} {ms:List (Str×Y3)},Dm K H kvs ms->kvs.map (·.1)=ms.map fun p=>Sum.inr p.1
 | _,_,.nil=>rfl
 | (k,v)::kvs,(y,s)::ms,.cons r t=>by
  rw[R5,R5,Dm.keys t];exact congrArg (·::_) r.1
theorem Dm.snoc{K:W.Frag}{H:Hp}{kvs:List (Um×V)}{ms:List (Str×Y3)}(h:Dm K H kvs ms){x:Str}{v:V}{s:Y3}(i:Zb K H s.t v):Dm K H (kvs++[(.inr x,v)]) (ms++[(x,s)]):=by
 induction h with
 | nil=>exact .cons ⟨rfl,i⟩ .nil
 | cons r t ih=>exact .cons r ih
structure Mk(K:W.Frag)(l C S:Addr)(H:Hp)(cs:List Str)(ms:List (Str×Y3))(r:Nat)(Ha:Hp):Prop where
 st:Ve l r H Ha
 c:Ha C=some (.lst (cs.map V.str))
 d:∃kvs,Ha S=some (.dK kvs)/\Dm K Ha kvs ms
section
variable{K:W.Frag}{l C S:Addr}{H Ha Hb:Hp}{cs:List Str}{ms:List (Str×Y3)}{r r':Nat}
theorem Mk.same(k:Mk K l C S H cs ms r Ha)(s:Zw Ha Hb):Mk K l C S H cs ms r Hb :=
 let ⟨kvs,e,g⟩:=k.d
 ⟨k.st.same s,s _ _ k.c,kvs,s _ _ e,g.up (bf s.upT)⟩
theorem Mk.step(k:Mk K l C S H cs ms r Ha)(t:Ve l r' Ha Hb)(c:C≠l)(d:S≠l):Mk K l C S H cs ms r' Hb :=
 let ⟨kvs,e,g⟩:=k.d
 ⟨k.st.trans t,t.keep _ _ c k.c,kvs,t.keep _ _ d e,g.up (bf (t.upT k.st.feed))⟩
theorem Mk.mono(k:Mk K l C S H cs ms r Ha)(h:r'<=r):Mk K l C S H cs ms r' Ha:=⟨k.st.mono h,k.c,k.d⟩
theorem Mk.m(k:Mk K l C S H cs ms r Ha)(h:r'<=r:=by omega):Mk K l C S H cs ms r' Ha:=k.mono h
theorem Mk.put(k:Mk K l C S H cs ms r Ha)(fe:Fd r' H l)(nS:H S=none)(nCS:C≠S){x:Str}{v:V}{s:Y3}(i:Zb K Ha s.t v)(hn:ms.length<sizeLine)(nx:Jf ms x=none):∃Hb,uu Ha S (kV (.inr x)) v Hb/\Mk K l C S H cs (ms++[(x,s)]) r Hb/\(∀a,a≠S->Hb a=Ha a)/\UpO K Ha Hb:=by
 obtain⟨kvs,e,g⟩:=k.d
 have vn:Bt kvs (.inr x)=none:=by
  rcases g.val x with ⟨_,z⟩ | ⟨s',v',z,_⟩
  ·exact z
  ·rw[nx]at z;cases z
 have lk:kvs.length=ms.length:=Paired.length g;refine⟨_,.inl ⟨kvs,.inr x,e,rfl,by omega,rfl⟩,⟨k.st.put nS (fe.far nS),by rw[Zl nCS];exact k.c,_,Zz, ?_⟩,fun a n=>Zl n,aj e⟩;rw[Zvp v vn];exact(g.snoc i).up (aj e)
end
theorem rh{K:PySem.W.Frag}{H:Hp}{a D:Addr}{xs:List V}{ts:List Th}{te:TE}{fin:Hp->Prop}{τ:L2.St}{o:Option V}{f:Th->Th}(ha:Z0 K H a xs)(hA:Zy K H ts xs)(hl:ts.length<=1000000)(hD:H D=none)
  (h:∀t v H5 (Q:VK),t∈ts->Zw H H5->Zb K H5 t v->(∀v' H6,Zw H5 H6->Zb K H6 (f t) v'->Q v' H6)->te (some v::τ) H5 Q)
  (hf:∀H6 ws,Zw H H6->H6 D=some (.lst ws)->Zy K H6 (ts.map f) ws->fin H6) :
  ∃W:Nat->Nat->List V->L2.St->Hp->Prop,(∃m,W 0 m [] (o::τ) (Yq H D (.lst [])))/\Nm (Itl K a) (Jv 0) Jt te D W fin:=by
 have hlen:=hA.length;refine Jw (xs:=xs) (fun i ys σ H5=>(∃o',σ=o'::τ)/\Zy K H5 ((ts.take i).map f) ys/\Zw H H5/\H5 D=some (.lst ys)) ⟨⟨_,rfl⟩,rfl,(Zw.refl H).put hD,Zz⟩ ?_ ?_ ?_
 ·rintro i ys σ H5 hi ⟨_,_,s5,h5⟩;exact⟨s5.seq ha,h5⟩
 ·rintro i x ys σ H5 hx ⟨⟨o',rfl⟩,ar,s5,h5⟩;obtain⟨t,et,it⟩:=hA.got hx;refine V2 (h t x H5 _ (Ow et) s5 (Zb.up s5.upT t x it) fun v' H6 s6 i6=>?_);refine⟨s6 _ _ h5, ?_,⟨_,rfl⟩, ?_,(s5.trans s6).put hD,Zz⟩
  ·rw[<-ar.length,Yp,T1];exact Iz (Gw (Nat.min_le_right _ _) hl) (by decide)
  ·rw[Zs et,Gj];have u6:Mz K H6 (Yq H6 D (.lst (ys++[v']))):=Y8 (s6 _ _ h5);exact Zy.append (Zy.up (s6.upT.trans u6) _ _ ar) (Zy.one (Zb.up u6 _ _ i6))
 ·rintro ys σ H5 ⟨_,ar,s5,h5⟩;refine hf H5 ys s5 h5 ?_;rw[<-hlen,fc]at ar;exact ar
theorem zi{K:W.Frag}{H:Hp}:∀us:List Int,Zy K H (us.map Th.int) (us.map V.int)
 | []=>rfl
 | u::us=>⟨_,_,rfl,rfl,zi us⟩
structure Us(ms:List (Str×Y3))(fs:List V6):Prop where
 len:fs.length<=5
 nums:(fs.map V6.n).Sublist S5
 y:∀f∈fs,(Jf ms f.y).isSome=true
 d:∀f∈fs,∀u,f.d=some u->∃s,Jf ms f.y=some s/\Pv s u
def pj(ms:List (Str×Y3)):Y3->Prop
 | .whole lo hi=>-ALL<=lo/\lo<=hi/\hi<=ALL
 | .truth=>True
 | .text n=>0<=n/\n<=200
 | .row _ y n=>(Jf ms y).isSome=true/\0<=n/\n<=20
 | .rcd fs _=>Us ms fs
 | .cho fs _ _=>Us ms fs/\∀f∈fs,f.d=none
structure Rx(ms:List (Str×Y3)):Prop where
 nd:(ms.map (·.1)).Nodup
 len:ms.length<=6
 ok:∀x s,Jf ms x=some s->pj ms s
structure M1(cs:List Str)(i:Nat)(ms:List (Str×Y3)):Prop where
 sub:(ms.map (·.1)).Sublist ((cs.drop 1).take i)
 ok:∀p∈ms,Pln cs p.2\/∃fs us o,p.2=.cho fs us o/\R4 cs (fun _=>none) fs
structure M2(cs:List Str)(m1:List (Str×Y3))(i:Nat)(ms:List (Str×Y3)):Prop where
 ex:∃rs:List (Str×Y3),ms=m1++rs/\∀p∈rs,∃fs us,p.2=.rcd fs us/\R4 cs (Jf m1) fs
 nd:(ms.map (·.1)).Nodup
 mem:∀p∈ms,p.1∈cs
 all:∀x∈cs.take i,(Jf ms x).isSome=true
theorem M2.fin{cs:List Str}{m1 ms:List (Str×Y3)}(h1:M1 cs (cs.drop 1).length m1)(h:M2 cs m1 cs.length ms)(hc:cs.length<=6):Rx ms:=by
 have al:∀x∈cs,(Jf ms x).isSome=true:=fun x mx=>h.all x (by rw[fc];exact mx);obtain⟨rs,e,hr⟩:=h.ex;have lk:∀x s,Jf m1 x=some s->Jf ms x=some s:=fun x s es=>by rw[e,Zzw,es];rfl
 have pr:∀{fs:List V6} {pl:Str->Option Y3},R4 cs pl fs->(∀x s,pl x=some s->Jf ms x=some s)->Us ms fs:=fun {fs pl} p hp =>
  ⟨p.len,p.nums,fun f mf=>al _ (p.form f mf).y,fun f mf u eu=>let ⟨s,es,pv⟩:=(p.form f mf).d u eu;⟨s,hp _ _ es,pv⟩⟩
 refine⟨h.nd, ?_,fun x s es=>?_⟩
 ·have:(ms.map (·.1)).length<=cs.length:=List.Nodup.length_le_of_subset h.nd fun y my=>by
   obtain⟨p,mp,rfl⟩:=Dp.mp my;exact h.mem p mp
  rw[Yp]at this;omega
 ·have ms':=Zzj es;rw[e]at ms';rcases T6.mp ms' with mm | mm
  ·rcases h1.ok _ mm with pl | ⟨fs,us,o,O4,po⟩
   ·have pl:Pln cs s:=pl;cases s with
    | whole lo hi=>exact pl
    | truth=>trivial
    | text n=>exact pl
    | row b y n=>exact⟨al y pl.1,pl.2⟩
    | rcd _ _=>exact pl.elim
    | cho _ _ _=>exact pl.elim
   ·have O4:s=.cho fs us o:=O4;subst O4;refine⟨pr po fun x s z=>(nomatch z),fun f mf=>?_⟩;cases ed:f.d with
    | none=>rfl
    | some u =>
     obtain⟨s,z,_⟩:=(po.form f mf).d u ed;cases z
  ·obtain⟨fs,us,O4,po⟩:=hr _ mm;have O4:s=.rcd fs us:=O4;subst O4;exact pr po lk
theorem M1.nil(cs:List Str):M1 cs 0 []:=⟨List.nil_sublist _,fun p m=>absurd m U6⟩
theorem M1.skip{cs:List Str}{i:Nat}{ms:List (Str×Y3)}(h:M1 cs i ms){nm:Str}(en:(cs.drop 1)[i]?=some nm):M1 cs (i+1) ms:=⟨h.sub.trans (by rw[Zs en];exact List.sublist_append_left _ _),h.ok⟩
theorem M1.more{cs:List Str}{i:Nat}{ms:List (Str×Y3)}(h:M1 cs i ms){nm:Str}(en:(cs.drop 1)[i]?=some nm){s:Y3}(hs:Pln cs s\/∃fs us o,s=.cho fs us o/\R4 cs (fun _=>none) fs):M1 cs (i+1) (ms++[(nm,s)]) :=
 ⟨by rw[Zs en,Gj];exact h.sub.append (List.Sublist.refl _),fun p m=>(T6.mp m).elim (h.ok p) fun m=>by rw[N6.mp m];exact hs⟩
theorem nd_at{cs:List Str}{i:Nat}{nm:Str}(nd:cs.Nodup)(en:cs[i]?=some nm):nm ∉ cs.take i:=fun z=>by
 have h:=nd.sublist (List.take_sublist (i+1) cs);rw[Zs en]at h;exact(List.nodup_append.mp h).2.2 nm z nm Te rfl
theorem M1.new{cs:List Str}{i:Nat}{ms:List (Str×Y3)}(h:M1 cs i ms)(nd:cs.Nodup){nm:Str}(en:(cs.drop 1)[i]?=some nm):Jf ms nm=none :=
 yz.mpr fun z=>nd_at (nd.sublist (List.drop_sublist 1 cs)) en (h.sub.subset z)
theorem M1.len{cs:List Str}{i:Nat}{ms:List (Str×Y3)}(h:M1 cs i ms):ms.length<=i:=by
 have:=h.sub.length_le;rw[Yp,T1]at this;omega
theorem M2.start{cs:List Str}{i:Nat}{m1:List (Str×Y3)}(h:M1 cs i m1)(nd:cs.Nodup):M2 cs m1 0 m1:=by
 have sb:(m1.map (·.1)).Sublist cs:=h.sub.trans ((List.take_sublist _ _).trans (List.drop_sublist 1 cs));exact⟨⟨[],(List.append_nil _).symm,fun p m=>absurd m U6⟩,nd.sublist sb,fun p m=>sb.subset (List.mem_map_of_mem m),fun x m=>absurd m U6⟩
theorem M2.skip{cs:List Str}{i:Nat}{m1 ms:List (Str×Y3)}(h:M2 cs m1 i ms){nm:Str}(en:cs[i]?=some nm){s:Y3}(hs:Jf ms nm=some s):M2 cs m1 (i+1) ms :=
 ⟨h.ex,h.nd,h.mem,fun x m=>by
  rw[Zs en]at m;rcases T6.mp m with m | m
  ·exact h.all x m
  ·rw[N6.mp m,hs];rfl⟩
theorem M2.more{cs:List Str}{i:Nat}{m1 ms:List (Str×Y3)}(h:M2 cs m1 i ms){nm:Str}(en:cs[i]?=some nm)(hn:Jf ms nm=none){fs:List V6}(us:List Int)(hp:R4 cs (Jf m1) fs):M2 cs m1 (i+1) (ms++[(nm,.rcd fs us)]):=by
 obtain⟨rs,e,hr⟩:=h.ex;refine⟨⟨rs++[(nm,.rcd fs us)],by rw[e,List.append_assoc],fun p m=>?_⟩, ?_,fun p m=>?_,fun x m=>?_⟩
 ·rcases T6.mp m with m | m
  ·exact hr p m
  ·rw[N6.mp m];exact⟨fs,us,rfl,hp⟩
 ·rw[Gj];refine List.nodup_append.mpr ⟨h.nd,List.nodup_cons.mpr ⟨U6,List.nodup_nil⟩,fun a ma b mb z=>?_⟩;rw[z,N6.mp mb]at ma;exact yz.mp hn ma
 ·rcases T6.mp m with m | m
  ·exact h.mem p m
  ·rw[N6.mp m];exact Ow en
 ·rw[Zs en]at m;rw[Zzw];rcases T6.mp m with m | m
  ·obtain⟨s,es⟩:=Option.isSome_iff_exists.mp (h.all x m);rw[es];rfl
  ·rw[N6.mp m,hn];simp[Jf]
theorem M2.len{cs:List Str}{i:Nat}{m1 ms:List (Str×Y3)}(h:M2 cs m1 i ms):ms.length<=cs.length:=by
 have:(ms.map (·.1)).length<=cs.length:=List.Nodup.length_le_of_subset h.nd fun y my=>by
  obtain⟨p,mp,rfl⟩:=Dp.mp my;exact h.mem p mp
 rw[Yp]at this;exact this
def IsMk(K:W.Frag)(H:Hp)(S:Addr)(ms:List (Str×Y3)):Prop:=∃kvs,H S=some (.dK kvs)/\Dm K H kvs ms
inductive Zw2(K:W.Frag)(vs:List V)(H:Hp)(Q:VK):Prop
 | mk(l:Addr)(r:Nat)(Vg:vs=[.ref l])(Vk:Fd (r+400) H l)(V1:∀(e S:Addr) (v:V) (ms:List (Str×Y3)) (H':Hp),Yv K H' e [v,.ref S]->IsMk K H' S ms->H S=none->Rx ms->Ve l r H H'->Q (.ref e) H')
def mq(K:W.Frag):Sp:=fun vs H Q _=>Zw2 K vs H Q
def Zdu:Th->Th
 | .tup (a::b::c::_)=>.tup [a,b,c]
 | t=>t
theorem Zk9(fs:List V6):(fs.map V6.t).map Zdu=fs.map V6.a:=by
 rw[List.map_map];exact List.map_congr_left fun f _=>rfl
theorem C3(fs:List V6):(fs.map V6.t).map Kt=(fs.map V6.n).map Th.int/\(fs.map V6.a).map Kt=(fs.map V6.n).map Th.int:=by
 constructor<;>rw[List.map_map,List.map_map]<;>exact List.map_congr_left fun f _=>rfl
theorem Zbw(F:Fu K "_law_make" G7 f fd)(m:Bn mg)(Zt:gD P w K mg base)(D1:Fn P w K mg base 2 "_law_names" ["_law_feed_here","_law_many"] Fb)
  (Qb:Fn P w K mg base 2 "_law_plain_shape" ["_law_feed_here","_law_names_here"] (Es K)) (O2:Fn P w K mg base 3 "_law_parts" ["_law_feed_here","_law_names_here","_law_shapes"] (Eh K))
  (Qf:Fn P w K mg base 2 "_law_struck" ["_law_feed_here","_law_numbers_here"] (Py K)):Yn P w K mg base Je 4 f fd ["_law_feed_here"] (mq K):=by
 refine F.ok Vo (fun vs H Q E h=>?_) fun _ A _ s H vs Q E hr h=>?_
 ·obtain⟨l,r,rfl,_⟩:=h
  rfl
 obtain⟨l,r,rfl,fe,q⟩:=h;refine⟨_,(@Zf _ _ _ _ _ (sI 1 Vo.nd (cF D1 hr (Zg (pv 0) (Zg (qo Ju Zq (cF Zt hr (Zg (pv 0) (Zg Zq Zx)))) Zx)))) (qs (sI 2 Vo.nd (@Ex _ _)) (qs (Dz PassesOwn.never rfl (qL (@Uy _ _ _ _ _ _ _ _ _ _ Ft (pv 1) (@U7 _ _ _ Zq) (@U8 _))) (nJ 3 Vo.nd) (qs (sI 4 Vo.nd (cF Zt hr (Zg (pv 0) (Zg Zq Zx)))) (q1 (qi (tQ F0 (pv 4) Zq) (q1 (@zj _ _ _ _ _ _ _ _ _ (To hr) (pv 2) (pv 3) (cF Qb hr (Zg (pv 0) (Zg (pv 1) Zx))) rfl)) (q1 (qi (tQ Ym (pv 4) Zq) (qs (@Ud _ 5 Td (Zv G7) ["_law_part"] [none] _ _ _ _ _ _ _ _ _ _ _ _ _ Vo.nd rfl (by trivial) rfl (qI (cF O2 hr (Zg (pv 0) (Zg (pv 1) (Zg (@Ex _ _) Zx))))) ⟨rfl,rfl,by decide +kernel,by decide +kernel⟩ (fun _ _ _=>(nI 0)) (fun _ _ _=>Z1) (fun _ _ _=>(@Uy _ _ _ _ _ _ _ _ _ _ B6 (pv 0) (@U8 _) (@U7 _ _ _ Zq))) (by trivial) (by trivial) (by trivial)) (qs (sI 6 Vo.nd (cF Qf hr (Zg (pv 0) (Zg (pC Td (Zv G7) ["_law_part"] [none] (qL (pv 5)) (fun _ _ _=>(nI 0)) (fun _ _ _=>Z1) (fun _ _ _=>(iX Zk (pv 0) Zq))) Zx)))) (q1 (@zj _ _ _ _ _ _ _ _ _ (To hr) (pv 2) (pv 3) (qt (Zg Zm (Zg (cT Yl m.tuple Yr (Zg (pv 5) Zx)) (Zg (pv 6) (Zg (eQ Ym (cF Zt hr (Zg (pv 0) (Zg Zq Zx))) Zq) Zx))))) rfl)))) Zd)))))) (qs (sI 7 Vo.nd (cT y8 m.dict b_dict (Zg (pv 2) Zx))) (qs (Dz PassesOwn.never rfl (qL (pv 1)) (nJ 3 Vo.nd) (q1 (qi (@pt_cmp _ _ _ _ _ _ (@Zx4 _ _ _ _ _ (To hr) (pv 3) (pv 2)) (by trivial)) (qs (sI 8 Vo.nd (cF O2 hr (Zg (pv 0) (Zg (pv 1) (Zg (pv 7) Zx))))) (q1 (@zj _ _ _ _ _ _ _ _ _ (To hr) (pv 2) (pv 3) (qt (Zg Zm (Zg (pv 8) (Zg (cF Qf hr (Zg (pv 0) (Zg (pC Td (Zv G7) ["_law_part"] [none] (qI (pv 8)) (fun _ _ _=>(nI 0)) (fun _ _ _=>Z1) (fun _ _ _=>(iX Zk (pv 0) Zq))) Zx))) Zx)))) rfl))) Zd))) (q1 (qr (qt (Zg (iX Z2 (pv 1) (qo Cs (cF Zt hr (Zg (pv 0) (Zg (cB Zn m.len Vv (Zg (pv 1) Zx)) Zx))) (cT P8 m.int kc (Zg (eQ Ym (cF Zt hr (Zg (pv 0) (Zg Zq Zx))) Zq) Zx)))) (Zg (pv 2) Zx)))))))))), ?_⟩;refine⟨_,rfl,_,rfl,l,5,r+399,rfl,fe,by decide,by decide,fun x H1 x0 x1 t1=>?_⟩;refine Zc fun _ Y5=>?_;obtain⟨xn,rfl⟩:∃n:Nat,x=n:=⟨x.toNat,by omega⟩;refine Y5 ?_;refine⟨_,_,rfl,rfl,l,2+xn,r+397,by rw[Int.natCast_add];rfl,t1.feed,by omega,fun C cs H2 hC nC okC t2=>?_⟩;have fj:=t1.trans t2;have nC0:H C=none:=t1.free nC;have nCl:C≠l:=fe.ne nC0;refine fun S hS=>?_;have nS:H S=none:=fj.free hS;have nSl:S≠l:=fe.ne nS;have nCS:C≠S:=Yw hC hS
 have k3:Mk K l C S H cs [] (r+397) (Yq H2 S (.dK [])) :=
  ⟨fj.lay hS,by rw[Zl nCS];exact hC,[],Zz,.nil⟩
 refine⟨_,rfl,_,rfl,C,_,rfl,Z0.of k3.c,fun L hL=>?_⟩
 have cut:Dj (cs.map V.str) (some 1) none=(cs.drop 1).map V.str:=by
  rw[List.map_drop];unfold Dj;have e2:HT.Uo (cs.map V.str).length (cs.map V.str).length none=(cs.map V.str).length:=rfl;have e1:HT.Uo (cs.map V.str).length 0 (some 1)=min 1 (cs.map V.str).length:=by simp[HT.Uo]
  rw[e1,e2];generalize cs.map V.str=zs;cases zs with
  | nil=>rfl
  | cons x r=>simp
 rw[cut];have c6:cs.length<=6:=by rw[okC.len];omega
 have c2:2<=cs.length:=by rw[okC.len];omega
 have k4:=k3.same (Zw.lay (o:=.lst ((cs.drop 1).map V.str)) hL);have nL0:H L=none:=k3.st.free hL;have nLl:L≠l:=fe.ne nL0;have nLS:L≠S:=fun z=>by rw[z,Zz]at hL;cases hL
 refine⟨L,rfl,⟨_,Z0.of Zz⟩, ?_⟩
 refine Nw (K:=K) (xs:=(cs.drop 1).map V.str) (fun i σ H5=>(∃o3 o4 o5 o6 o7 o8,σ=[some (.ref l),some (.ref C),some (.ref S),o3,o4,o5,o6,o7,o8])/\(∃ms,M1 cs i ms/\Mk K l C S H cs ms (r+200+31 * (5 - i)) H5)/\H5 L=some (.lst ((cs.drop 1).map V.str)))
  ⟨⟨_,_,_,_,_,_,rfl⟩,⟨[],M1.nil cs,k4.m⟩,Zz⟩ ?_ ?_ ?_
 ·intro i σ H5 hi K2;refine Zc fun _ Vm=>?_;obtain⟨_,_,h5⟩:=K2;refine Vm ?_;exact Z0.of h5
 ·intro i x σ H5 hx K1;refine Zc fun _ Vh=>?_;obtain⟨⟨o3,o4,o5,o6,o7,o8,rfl⟩,⟨ms,m5,k5⟩,h5L⟩:=K1;rw[Ma]at hx;obtain⟨nm,en,rfl⟩:=Qe.mp hx;refine Vh ?_;have hi:i<(cs.drop 1).length:=(Q8.mp en).1;rw[List.length_drop]at hi;have nw:=m5.new okC.nd en;have ln:ms.length<sizeLine:=Iz (show ms.length<=8 by have:=m5.len;omega) (by decide);refine⟨_,rfl,l,6,r+200+31 * (5 - (i+1))+30,rfl,k5.st.feed.m,by decide,by decide,fun y H6 y0 y1 t6=>?_⟩;have k6:=k5.step t6 nCl nSl;have h6L:=t6.keep _ _ nLl h5L;refine⟨_,rfl,_,_,rfl,rfl,_,rfl, ?_⟩;refine Vw (fun ca=>?_) (fun ca=>?_)
  ·refine⟨_,rfl,_,rfl,l,C,cs,r+200+31 * (5 - (i+1))+27,rfl,k6.c,by omega,by omega,k6.st.feed,fun v t H7 it pt t7=>?_⟩;have k7:=k6.step t7 nCl nSl;refine Zc fun _ Vs=>?_;obtain⟨Hb,pu,kb,sb,ub⟩:=k7.put fe nS nCS it ln nw;refine Vs ?_;refine⟨_,rfl,_,rfl,S,Hb,rfl,pu,⟨_,_,_,_,_,_,rfl⟩,⟨_,m5.more en (.inl pt),kb.m⟩,(sb L nLS).trans (t7.keep _ _ nLl h6L)⟩
  ·refine⟨_,rfl,rfl,_,rfl, ?_⟩;refine Vw (fun cb=>?_) (fun cb=>?_)
   ·refine⟨_,rfl,_,rfl,fun d0 hd0=>?_⟩;have s7:=Zw.lay (o:=.dK []) hd0;have k7:=k6.same s7;refine⟨l,C,d0,cs,fun _=>none,r+200+31 * (5 - (i+1))+5,rfl,k7.c,by omega,by omega,⟨[],Zz,fun _ _ e=>by cases e⟩,k7.st.feed,fun v fs H8 iv okp t8=>?_⟩;have k8:=k7.step t8 nCl nSl;have h8L:=t8.keep _ _ nLl (s7 _ _ h6L);refine Zc fun _ Vu=>?_;obtain⟨pp,ws,rfl,hpp,afs⟩:=iv;refine Vu ?_;have lf:fs.length<=1000000:=Gw okp.len (by decide);refine⟨pp,rfl,⟨_,hpp⟩,fun D fp sx hD=>?_⟩;refine Ub (f:=Zdu) hpp afs (by rw[Yp];exact lf) hD (fun t v H5 Q5 mt s5 i5 q5=>?_) fun H9 w9 s9 h9 a9=>?_
    ·refine Zc fun _ Ug=>?_;obtain⟨fl,mfl,rfl⟩:=Dp.mp mt;obtain⟨a,xs,rfl,ha,ax⟩:=i5;obtain⟨v1,v2,v3,v4,rfl,j1,j2,j3,j4⟩:=A5 ax;refine Ug ?_;refine⟨_,rfl,_,rfl,a,_,rfl,ha,fun p' H' s' h'=>?_⟩;exact q5 (.ref p') H' s' ⟨p',_,rfl,h',_,_,rfl,Zb.up s'.upT _ _ j1,_,_,rfl,Zb.up s'.upT _ _ j2,_,_,rfl,Zb.up s'.upT _ _ j3,rfl⟩
    rw[Zk9]at a9;have k9:=k8.same s9;have h9L:=s9 _ _ h8L;have hDf:H D=none:=k8.st.free hD;have nDl:D≠l:=fe.ne hDf;refine⟨_,rfl,_,rfl,D,rfl,⟨_,Z0.of h9⟩,fun D2 fp2 sx2 Ek=>?_⟩;refine rh (f:=Kt) (Z0.of h9) a9 (by rw[Yp];exact lf) Ek (fun t v H5 Q5 mt s5 i5 q5=>?_) fun H10 w10 W7 Eg a10=>?_
    ·refine Zc fun _ Uk=>?_;obtain⟨g,mg,rfl⟩:=Dp.mp mt;obtain⟨a,xs,rfl,ha,y1,ys,rfl,iy,_⟩:=i5;refine Uk ?_;exact⟨_,rfl,a,_,_,_,rfl,rfl,ha,at0,q5 y1 H5 (Zw.refl H5) iy⟩
    have k10:=k9.same W7;have h10L:=W7 _ _ h9L;rw[(C3 fs).2]at a10;have ew:=B0 a10;subst ew;refine⟨l,D2,_,r+200+31 * (5 - (i+1))+1,rfl,Eg,k10.st.feed.m,fun qs us H11 hqs sbu nou Ik=>?_⟩;have k11:=k10.step Ik nCl nSl;have h11L:=Ik.keep _ _ nLl h10L;have h11D:=Ik.keep _ _ nDl (W7 _ _ h9);have Zga:=W7.upT.trans (Ik.upT (K:=K) k10.st.feed);refine⟨_,rfl,D,_,rfl,.inl ⟨Z0.of h11D,fun e12 h12=>?_⟩⟩;have Bm:=Zw.lay (o:=.tup w9) h12;have k12:=k11.same Bm;refine⟨_,rfl,_,rfl,l,2,r+200+31 * (5 - (i+1)),rfl,k12.st.feed,by decide,by decide,fun z H13 z0 z1 t13=>⟨rfl,(sz 4),fun e14 h14=>?_⟩⟩;have Hi:=Zw.lay (o:=.tup [.str "choice",.ref e12,.ref qs,.bl (decide (V.int z=V.int 0))]) h14;have k13:=k12.step t13 nCl nSl;have k14:=k13.same Hi;have u12:Mz K _ _:=(t13.upT (K:=K) k12.st.feed).trans Hi.upT
    have it:Zb K _ (Y3.t (.cho fs us (decide (V.int z=V.int 0)))) (.ref e14) :=
     ⟨e14,_,rfl,Yv.of Zz,_,_,rfl,rfl,_,_,rfl,⟨e12,w9,rfl,u12.tup _ _ (Yv.of Zz),Zy.up (Zga.trans (Bm.upT.trans u12)) _ _ a9⟩,_,_,rfl,⟨qs,_,rfl,(Bm.upT.trans u12).tup _ _ hqs,zi us⟩,_,_,rfl,rfl,rfl⟩
    refine Zc fun _ U1=>?_;obtain⟨Hb,pu,kb,sb,ub⟩:=k14.put fe nS nCS it ln nw;refine U1 ?_;refine⟨_,rfl,_,rfl,S,Hb,rfl,pu,⟨_,_,_,_,_,_,rfl⟩,⟨_,m5.more en (.inr ⟨fs,us,_,rfl,okp⟩),kb⟩,(sb L nLS).trans (Hi _ _ (t13.keep _ _ nLl (Bm _ _ h11L)))⟩
   ·exact⟨⟨_,_,_,_,_,_,rfl⟩,⟨_,m5.skip en,k6.m⟩,h6L⟩
 ·intro σ H5 Zkj;refine Zc fun _ Y5=>?_;obtain⟨⟨o3,o4,o5,o6,o7,o8,rfl⟩,⟨m1,h1,k5⟩,h5L⟩:=Zkj;have n5:((cs.drop 1).map V.str).length<=5:=by rw[Yp,List.length_drop];omega
  have k5:=k5.mono (r':=r+200) (by omega);rw[Yp]at h1;obtain⟨kvs,eS,g5⟩:=k5.d;refine Y5 ?_;refine⟨_,rfl,S,kvs,rfl,.inl eS,fun B hB=>?_⟩;have s6:=Zw.lay (o:=.dK kvs) hB;have k6:=k5.same s6;have nB:H B=none:=k5.st.free hB;have nBl:B≠l:=fe.ne nB;have nBS:B≠S:=fun z=>by rw[z,eS]at hB;cases hB
  have d6:Zjd K (Yq H5 B (.dK kvs)) cs (Jf m1) B:=⟨kvs,Zz,fun k v e=>by
   rcases g5.val k with ⟨_,z⟩ | ⟨s,v',es,ev,it⟩
   ·rw[e]at z;cases z
   ·rw[e]at ev;cases ev;refine⟨s,es,Zb.up s6.upT _ _ it, ?_⟩;rcases h1.ok _ (Zzj es) with pl | ⟨fs,us,o,z,_⟩
    ·exact .inl pl
    ·exact .inr ⟨fs,us,o,z⟩⟩
  refine⟨_,rfl,C,rfl,⟨_,Z0.of k6.c⟩, ?_⟩
  refine Nw (K:=K) (xs:=cs.map V.str) (fun i σ H5=>(∃o3 o4 o5 o6 o8,σ=[some (.ref l),some (.ref C),some (.ref S),o3,o4,o5,o6,some (.ref B),o8])/\(∃ms,M2 cs m1 i ms/\Mk K l C S H cs ms (r+2+29 * (6 - i)) H5)/\Zjd K H5 cs (Jf m1) B)
   ⟨⟨_,_,_,_,_,rfl⟩,⟨m1,M2.start h1 okC.nd,k6.m⟩,d6⟩ ?_ ?_ ?_
  ·intro i σ H5 hi K5;refine Zc fun _ Vm=>?_;obtain⟨_,⟨_,_,k⟩,_⟩:=K5;refine Vm ?_;exact Z0.of k.c
  ·intro i x σ H7 hx K4;refine Zc fun _ Vh=>?_;obtain⟨⟨o3,o4,o5,o6,o8,rfl⟩,⟨ms,m7,k7⟩,d7⟩:=K4;rw[Ma]at hx;obtain⟨nm,en,rfl⟩:=Qe.mp hx;have hi:i<cs.length:=(Q8.mp en).1;obtain⟨kvs7,e7,g7⟩:=k7.d;refine Vh ?_;have ln:ms.length<sizeLine:=Iz (show ms.length<=8 by have:=m7.len;omega) (by decide);refine⟨_,rfl,_,rfl,S,_,rfl,Nl.k (k:=.inr nm) e7,_,rfl, ?_⟩;refine Vw (fun ca=>?_) (fun ca=>?_)
   ·have nw:Jf ms nm=none:=by
     rcases g7.val nm with ⟨z,_⟩ | ⟨s,v,_,z,_⟩
     ·exact z
     ·rw[z]at ca;cases ca
    refine⟨_,rfl,_,rfl,_,rfl,l,C,B,cs,Jf m1,r+2+29 * (6 - (i+1))+4,rfl,k7.c,by omega,by omega,d7,k7.st.feed.m,fun v fs H8 iv okp t8=>?_⟩;have k8:=k7.step t8 nCl nSl;have d8:=d7.up (t8.upT (K:=K) k7.st.feed);refine Zc fun _ Vs=>?_;obtain⟨pp,ws,rfl,hpp,afs⟩:=iv;refine Vs ?_;have lf:fs.length<=1000000:=Gw okp.len (by decide);refine⟨_,rfl,_,rfl,_,rfl,pp,rfl,⟨_,hpp⟩,fun D fp sx hD=>?_⟩;refine Ub (f:=Kt) hpp afs (by rw[Yp];exact lf) hD (fun t v H5 Q5 mt s5 i5 q5=>?_) fun H9 w9 s9 h9 a9=>?_
    ·refine Zc fun _ Vu=>?_;obtain⟨fl,mfl,rfl⟩:=Dp.mp mt;obtain⟨a,xs,rfl,ha,y1,ys,rfl,iy,_⟩:=i5;refine Vu ?_;exact⟨_,rfl,a,_,_,_,rfl,rfl,ha,at0,q5 y1 H5 (Zw.refl H5) iy⟩
    have k9:=k8.same s9;have d9:=d8.up s9.upT;rw[(C3 fs).1]at a9;have ew:=B0 a9;subst ew;refine⟨l,D,_,r+2+29 * (6 - (i+1)),rfl,h9,k9.st.feed,fun qs us H11 hqs sbu nou Ik=>⟨(sz 3),fun e12 h12=>?_⟩⟩;have k11:=k9.step Ik nCl nSl;have Bm:=Zw.lay (o:=.tup [.str "record",.ref pp,.ref qs]) h12;have k12:=k11.same Bm;have Zga:=Ik.upT (K:=K) k9.st.feed;have d12:=d9.up (Zga.trans Bm.upT);have u8:=s9.upT.trans (Zga.trans Bm.upT)
    have it:Zb K _ (Y3.t (.rcd fs us)) (.ref e12) :=
     ⟨e12,_,rfl,Yv.of Zz,_,_,rfl,rfl,_,_,rfl,⟨pp,ws,rfl,u8.tup _ _ hpp,Zy.up u8 _ _ afs⟩,_,_,rfl,⟨qs,_,rfl,Bm.up _ _ hqs,zi us⟩,rfl⟩
    refine Zc fun _ Ug=>?_;obtain⟨Hb,pu,kb,sb,ub⟩:=k12.put fe nS nCS it ln nw;refine Ug ?_;refine⟨_,rfl,_,rfl,S,Hb,rfl,pu,⟨_,_,_,_,_,rfl⟩,⟨_,m7.more en nw us okp,kb⟩, ?_⟩;refine Zc fun _ Uk=>?_;obtain⟨kB,eB,gB⟩:=d12;refine Uk ?_;exact⟨kB,(sb B nBS).trans eB,fun k v e=>let ⟨t,es,i,c⟩:=gB k v e;⟨t,es,Ko ub _ v i,c⟩⟩
   ·refine⟨⟨_,_,_,_,_,rfl⟩, ?_,d7⟩;rcases g7.val nm with ⟨_,z⟩ | ⟨s,v,es,_,_⟩
    ·rw[z]at ca;exact absurd rfl ca
    ·exact⟨_,m7.skip en es,k7.m⟩
  ·intro σ H7 yt;refine Zc fun _ U1=>?_;obtain⟨⟨o3,o4,o5,o6,o8,rfl⟩,⟨ms,m7,k7⟩,d7⟩:=yt;refine U1 ?_;have n6:(cs.map V.str).length<=6:=by rw[Yp];exact c6
   have k7:=k7.mono (r':=r+2) (by omega);rw[Yp]at m7;refine⟨_,rfl,_,rfl,_,rfl,C,_,rfl,.inl (Z0.of k7.c),l,_,r+1,rfl,k7.st.feed, ?_, ?_,fun y H8 y0 y1 t8=>?_⟩
   ·rw[Yp];omega
   ·rw[Yp];omega
   have k8:=k7.step t8 nCl nSl;refine⟨_,rfl,l,3,r,rfl,k8.st.feed,by decide,by decide,fun z H9 z0 z1 t9=>⟨rfl,.inr ⟨_,rfl, ?_⟩⟩⟩;have k9:=k8.step t9 nCl nSl;refine⟨_,_,rfl,rfl,.inr ⟨by split<;>decide,by split<;>decide⟩, ?_⟩;refine Zc fun _ Y5=>?_;obtain⟨nm,mn,enm⟩:=Ih cs (r:=y * (if decide (V.int z=V.int 0)=true then (1:Int) else 0)) (by split<;>omega) (by rw[Yp]at y1;split<;>omega);refine Y5 ?_;refine⟨C,_,_,_,rfl,rfl,Z0.of k9.c,enm,_,rfl,(sz 2),fun e he=>?_⟩;have kE:=k9.same (Zw.lay (o:=.tup [.str nm,.ref S]) he);exact q e S (.str nm) ms _ (Yv.of Zz) kE.d nS (m7.fin h1 c6) kE.st
theorem fw{u:Th}{ts:List Th}{n:Nat}(m:u∈ts)(h:U4 (.tup ts)<=n):U4 u<=n:=by
 have:=Fk m;simp only[U4]at h;omega
theorem dpN{u:Th}{ts:List Th}{n:Nat}(m:u∈ts)(h:Jn (.tup ts)<=n):Jn u<n:=by
 have:=Ds m;simp only[Jn]at h;omega
theorem dpL{u:Th}{ts:List Th}{n:Nat}(m:u∈ts)(h:Jn (.tup ts)<=n):Jn u<=n:=Nat.le_of_lt (dpN m h)
theorem dpM{u:Th}{ts:List Th}{n:Nat}(m:u∈ts)(h:Jn (.tup ts)<n+1):Jn u<n:=dpN m (Nat.le_of_lt_succ h)
theorem me2{a b:Th}{l:List Th}:b∈a::b::l:=.tail _ (.head _)
theorem me3{a b c:Th}{l:List Th}:c∈a::b::c::l:=.tail _ me2
abbrev W4:Stmt:=top 8
abbrev ug:List Str:=["thing","low","high"]
theorem jo:Zp ug ["thing","low","high"] (Zv W4):=by trivial
abbrev Mx:Stmt:=top 9
abbrev S4:List Str:=["thing"]
theorem Pf:Zp S4 ["thing"] (Zv Mx):=by trivial
abbrev Cg:Stmt:=top 10
abbrev gn:List Str:=["thing"]
theorem X8:Zp gn ["thing"] (Zv Cg):=by trivial
abbrev Rn:Stmt:=top 11
abbrev Xn:List Str:=["thing","most"]
theorem dw:Zp Xn ["thing","most"] (Zv Rn):=by trivial
abbrev Rr:Stmt:=top 12
abbrev Xl:List Str:=["thing"]
theorem dv:Zp Xl ["thing"] (Zv Rr):=by trivial
abbrev S9:Stmt:=top 13
abbrev Zz5:List Str:=["things"]
theorem Zvf:Zp Zz5 ["things"] (Zv S9):=by trivial
inductive Zxg(K:W.Frag)(vs:List V)(H:Hp)(Q:VK):Prop
 | mk(v t lo hi)(Vg:vs=[v,.int lo,.int hi])(Vk:Zb K H t v)(V1:Q (.bl (Z4 lo hi t)) H)
def Nh(K:W.Frag):Sp:=fun vs H Q _=>Zxg K vs H Q
inductive spW1_I(K:W.Frag)(lo:Int)(hi:Int)(vs:List V)(H:Hp)(Q:VK):Prop
 | mk(v t)(Vg:vs=[v])(Vk:Zb K H t v)(V1:Q (.bl (Z4 lo hi t)) H)
def bo(K:W.Frag)(lo hi:Int):Sp:=fun vs H Q _=>spW1_I K lo hi vs H Q
def Od(n:Int):Th->Bool
 | .str x=>decide ((x.length:Int)<=n)
 | _=>false
inductive Zwa(K:W.Frag)(vs:List V)(H:Hp)(Q:VK):Prop
 | mk(v t n)(Vg:vs=[v,.int n])(Vk:Zb K H t v)(V1:Dr t)(Jk:∀H',Zw H H'->Q (.bl (Od n t)) H')
def B5(K:W.Frag):Sp:=fun vs H Q _=>Zwa K vs H Q
inductive Zfy(K:W.Frag)(b:Bool)(vs:List V)(H:Hp)(Q:VK):Prop
 | mk(v t)(Vg:vs=[v])(Vk:Zb K H t v)(V1:Dr t)(Jk:∀H',Zw H H'->Q (.bl (Jb b t)) H')
def Im(K:W.Frag)(b:Bool):Sp:=fun vs H Q _=>Zfy K b vs H Q
inductive Zxf(K:W.Frag)(vs:List V)(H:Hp)(Q:VK):Prop
 | mk(a ts ws)(Vg:vs=[.ref a])(Vk:Z0 K H a ws)(V1:Zy K H ts ws)(Jk:ts.length<=1000000)(Mn:((∃ss:List Str,ts=ss.map Th.str)\/∃ns:List Int,ts=ns.map Th.int))(Wb:∀H',Zw H H'->Q (.bl (Jc ts)) H')
def Rt(K:W.Frag):Sp:=fun vs H Q _=>Zxf K vs H Q
theorem wo(F:Fu K "is_whole" W4 f fd)(m:Bn mg):Yn P w K mg base Je 1 f fd ["thing","low","high"] (Nh K):=by
 refine F.ok jo (fun vs H Q E h=>?_) fun _ A _ s H vs Q E hr h=>?_
 ·obtain⟨v,t,lo,hi,rfl,_⟩:=h
  rfl
 obtain⟨v,t,lo,hi,rfl,ht,q⟩:=h;refine⟨_,(@Yx _ _ _ (qr (qa (cB Ze m.isinstance Zh (Zg (pv 0) (Zg (Yy rfl m.int kc (by decide) (by decide)) Zx))) (qa (@zb _ _ _ _ (cB Ze m.isinstance Zh (Zg (pv 0) (Zg (Yy rfl m.bool qb (by decide) (by decide)) Zx)))) (qe (@Kx _ _ _ _ _ _ _ _ _ _ _ _ Wy Wy (pv 1) (pv 0) (pv 2) (by trivial))))))), ?_⟩;refine⟨_,rfl,_,_,t,rfl,ht,(by simp),_,rfl, ?_⟩;cases t with
 | int i =>
  cases Zr ht;refine Zu ⟨_,rfl,_,_,.int i,rfl,ht,(by simp),_,rfl,_,rfl,Zu ?_⟩;refine⟨_,rfl,_,rfl,_,_,rfl,rfl,_,rfl, ?_⟩;refine Vw (fun c=>?_) (fun c=>?_)
  ·refine⟨_,rfl,_,_,rfl,rfl, ?_⟩;have e:Z4 lo hi (.int i)=decide (i<=hi):=by simp only[Z4,c,O9]
   rw[e]at q;exact q
  ·have e:Z4 lo hi (.int i)=false:=by simp only[Z4,Bool.not_eq_true _ ▸ c,Om]
   rw[e]at q;exact q
 | bl b=>exact Zu ⟨_,rfl,_,_,.bl b,rfl,ht,(by simp),_,rfl,_,rfl,Y6 q⟩
 | non=>exact Y6 q
 | str x=>exact Y6 q
 | tup ts=>exact Y6 q
 | opq=>exact Y6 q
theorem Pp(F:Fu K "is_item_whole" Mx f fd)(c:Cn mg)(Nj:Fn P w K mg base 1 "is_whole" ["thing","low","high"] (Nh K)):Yn P w K mg base Je 2 f fd ["thing"] (bo K (-1000000000000000000) 1000000000000000000):=by
 refine F.ok Pf (fun vs H Q E h=>?_) fun _ A _ s H vs Q E hr h=>?_
 ·obtain⟨v,t,rfl,_⟩:=h
  rfl
 obtain⟨v,t,rfl,ht,q⟩:=h;refine⟨_,(@Yx _ _ _ (qr (cF Nj hr (Zg (pv 0) (Zg (@Cm _ _ _ _ _ _ M4 (@Bu _ _ _ _ rfl c.GREATEST_WHOLE (by decide))) (Zg (@Bu _ _ _ _ rfl c.GREATEST_WHOLE (by decide)) Zx)))))), ?_⟩;exact⟨_,rfl,_,rfl,v,t,_,_,rfl,ht,q⟩
theorem F6(F:Fu K "is_number" Cg f fd)(c:Cn mg)(Nj:Fn P w K mg base 1 "is_whole" ["thing","low","high"] (Nh K)):Yn P w K mg base Je 2 f fd ["thing"] (bo K 1 999):=by
 refine F.ok X8 (fun vs H Q E h=>?_) fun _ A _ s H vs Q E hr h=>?_
 ·obtain⟨v,t,rfl,_⟩:=h
  rfl
 obtain⟨v,t,rfl,ht,q⟩:=h;refine⟨_,(@Yx _ _ _ (qr (cF Nj hr (Zg (pv 0) (Zg Zq (Zg (@Bu _ _ _ _ rfl c.GREATEST_NUMBER (by decide)) Zx)))))), ?_⟩;exact⟨_,rfl,v,t,_,_,rfl,ht,q⟩
theorem cj(F:Fu K "is_text" Rn f fd)(m:Bn mg)(c:Cn mg):Yn P w K mg base Je 1 f fd ["thing","most"] (B5 K):=by
 refine F.ok dw (fun vs H Q E h=>?_) fun _ A _ s H vs Q E hr h=>?_
 ·obtain⟨v,t,n,rfl,_⟩:=h
  rfl
 obtain⟨v,t,n,rfl,ht,gd,q⟩:=h;refine⟨_,(@Yx _ _ _ (qr (qa (cB Ze m.isinstance Zh (Zg (pv 0) (Zg (Yy rfl m.str Xm (by decide) (by decide)) Zx))) (qa (eQ Wy (cB Mh m.len Vv (Zg (pv 0) Zx)) (pv 1)) (qe (cB (Ye rfl) m.all G3 (Zg (pC Xn (Zv Rn) ["sign"] [none] (@zg _ _ _ _ (pv 0)) (fun _ _ _=>(nI 0)) (fun _ _ _=>Z1) (fun _ _ _=>(Ru Pc (pv 0) (@j9 _ _ _ _ rfl c.SIGNS (by decide)) rfl))) Zx))))))), ?_⟩;refine⟨_,rfl,_,_,t,rfl,ht,(by simp),_,rfl, ?_⟩;cases t with
 | str x =>
  cases Zr ht;refine Zu ⟨_,rfl,x,rfl,Gw gd.2 (by decide),_,rfl,_,_,rfl,rfl,_,rfl, ?_⟩;refine Vw (fun cl=>?_) (fun cl=>?_)
  ·refine⟨_,rfl,x,rfl,fun D fp sx hD=>?_⟩;refine Ri (p:=fun ch=>B4 ch SGN) (Gw gd.2 (by decide)) hD (fun ch H5 Q5 mc s5 q5=>⟨_,rfl,_,_,rfl,rfl,q5 H5 (Zw.refl H5)⟩) fun H6 s6 h6=>⟨D,_,rfl,Z0.of h6, ?_⟩
   have e:(x.cps.toList.map fun ch=>B4 ch SGN).all id=true:=by
    rw[List.all_map,Wv];intro ch mc;exact Zy2 ch (gd.1 ch mc)
   rw[e]
   have e2:Od n (.str x)=true:=by
    have:(x.length:Int)<=n:=ph cl;exact Gq (by omega)
   rw[<-e2];exact q H6 s6
  ·have e2:Od n (.str x)=false:=by
    have:¬ (x.length:Int)<=n:=fun z=>cl (Gq z);exact My (by omega)
   rw[<-e2];exact q H (Zw.refl H)
 | bl b=>exact Y6 (q H (Zw.refl H))
 | non=>exact Y6 (q H (Zw.refl H))
 | int x=>exact Y6 (q H (Zw.refl H))
 | tup ts=>exact Y6 (q H (Zw.refl H))
 | opq=>exact Y6 (q H (Zw.refl H))
theorem cv(F:Fu K "is_name" Rr f fd)(m:Bn mg)(c:Cn mg):Yn P w K mg base Je 1 f fd ["thing"] (Im K true):=by
 refine F.ok dv (fun vs H Q E h=>?_) fun _ A _ s H vs Q E hr h=>?_
 ·obtain⟨v,t,rfl,_⟩:=h
  rfl
 obtain⟨v,t,rfl,ht,gd,q⟩:=h;refine⟨_,(@Zf _ _ _ _ _ (qi (qp (qO (qn (Yg (cB Ze m.isinstance Zh (Zg (pv 0) (Zg (Yy rfl m.str Xm (by decide) (by decide)) Zx))) (by intro _;rfl))) (qQ (qn (@j7 _ _ _ _ _ _ _ _ _ _ _ _ Wy Wy Zq (cB Mh m.len Vv (Zg (pv 0) Zx)) (@Bu _ _ _ _ rfl c.LONGEST_NAME (by decide)) (by trivial)))))) (q1 (qr Vz)) Zd) (q1 (qr (cB (Ye rfl) m.all G3 (Zg (pC Xl (Zv Rr) ["sign"] [none] (@zg _ _ _ _ (pv 0)) (fun _ _ _=>(nI 0)) (fun _ _ _=>Z1) (fun _ _ _=>(Ru Pc (pv 0) (@j9 _ _ _ _ rfl c.LETTERS (by decide)) rfl))) Zx))))), ?_⟩;refine⟨_,rfl,_,_,t,rfl,ht,(by simp),_,rfl, ?_⟩;cases t with
 | str x =>
  cases Zr ht;refine Y6 ⟨_,rfl,x,rfl,Gw gd.2 (by decide),_,_,rfl,rfl,_,rfl, ?_⟩;refine Vw (fun c1=>?_) (fun c1=>?_)
  ·refine⟨_,_,rfl,rfl,_,rfl, ?_⟩;by_cases c2:(x.length:Int)<=8
   ·refine Z5 (by rw[Gq c2];rfl) ?_;refine⟨_,rfl,x,rfl,fun D fp sx hD=>?_⟩;refine Ri (p:=fun ch=>B4 ch LET) (Gw gd.2 (by decide)) hD (fun ch H5 Q5 mc s5 q5=>⟨_,rfl,_,_,rfl,rfl,q5 H5 (Zw.refl H5)⟩) fun H6 s6 h6=>⟨D,_,rfl,Z0.of h6, ?_⟩
    have e:Jb true (.str x)=(x.cps.toList.map fun ch=>B4 ch LET).all id:=by
     have a1:(1:Int)<=x.length:=ph c1;show (decide (1<=x.length) && decide (x.length<=8) && x.cps.toList.all inL)=_;rw[Gq (show 1<=x.length by omega),Gq (show x.length<=8 by omega),List.all_map]
     rfl
    rw[<-e];exact q H6 s6
   ·refine Yj (by rw[My c2];rfl) ?_
    have e:Jb true (.str x)=false:=by
     show (decide (1<=x.length) && decide (x.length<=8) && x.cps.toList.all inL)=_;rw[My (show ¬ x.length<=8 by omega),Bool.and_false,Om]
    rw[<-e];exact q H (Zw.refl H)
  ·refine⟨_,rfl,Zu ?_⟩
   have e:Jb true (.str x)=false:=by
    have a1:¬ (1:Int)<=x.length:=fun z=>c1 (Gq z);show (decide (1<=x.length) && decide (x.length<=8) && x.cps.toList.all inL)=_;rw[My (show ¬ 1<=x.length by omega),Om,Om]
   rw[<-e];exact q H (Zw.refl H)
 | bl b=>exact Zu (Zu (q H (Zw.refl H)))
 | non=>exact Zu (Zu (q H (Zw.refl H)))
 | int x=>exact Zu (Zu (q H (Zw.refl H)))
 | tup ts=>exact Zu (Zu (q H (Zw.refl H)))
 | opq=>exact Zu (Zu (q H (Zw.refl H)))
abbrev Na:Stmt:=top 19
abbrev O8:List Str:=["thing"]
theorem X9:Zp O8 ["thing"] (Zv Na):=by trivial
abbrev Mb:Stmt:=top 20
abbrev Q7:List Str:=["things","is_label"]
theorem Af:Zp Q7 ["things","is_label"] (Zv Mb):=by trivial
abbrev Uz:Stmt:=top 18
abbrev Gh:List Str:=["sort","thing"]
theorem Wi:Zp Gh ["sort","thing"] (Zv Uz):=by trivial
abbrev Jp:Stmt:=top 17
abbrev La:List Str:=["thing"]
theorem R8:Zp La ["thing"] (Zv Jp):=by trivial
def gh(P:Program)(w:World)(K:W.Frag)(mg:Bw)(base:Heap)(b:Bool)(fl:Addr):Prop:=∃fd,Yn P w K mg base Je 2 fl fd ["thing"] (Im K b)/\G5 K fd ["thing"] []/\W.keepIn K (.ref fl)=true
inductive mj(P:Program)(w:World)(K:W.Frag)(mg:Bw)(base:Heap)(vs:List V)(H:Hp)(Q:VK):Prop
 | mk(a fl b ts ws)(Vg:vs=[.ref a,.ref fl])(Vk:gh P w K mg base b fl)(V1:Z0 K H a ws)(Jk:Zy K H ts ws)(Mn:ts.length<=1000000)(Wb:yh ts)(fm:∀H',Zw H H'->Q (.bl (Z8 b ts)) H')
def Bc(P:Program)(w:World)(K:W.Frag)(mg:Bw)(base:Heap):Sp:=fun vs H Q _=>mj P w K mg base vs H Q
inductive Zxb(K:W.Frag)(vs:List V)(H:Hp)(Q:VK):Prop
 | mk(v t)(Vg:vs=[v])(Vk:Zb K H t v)(V1:U4 t<=1000000)(Jk:∀H',Zw H H'->Q (.bl (Z7 t)) H')
def Ff(K:W.Frag):Sp:=fun vs H Q _=>Zxb K vs H Q
inductive Zff(K:W.Frag)(vs:List V)(H:Hp)(Q:VK):Prop
 | mk(u v s t)(Vg:vs=[u,v])(Vk:Zb K H s u)(V1:Zb K H t v)(Jk:Dr t)(Mn:U4 t<=1000000)(Wb:∀H',Zw H H'->Q (.bl (Yk s t)) H')
def Zvq(K:W.Frag):Sp:=fun vs H Q _=>Zff K vs H Q
inductive Zfx(K:W.Frag)(vs:List V)(H:Hp)(Q:VK):Prop
 | mk(v t)(Vg:vs=[v])(Vk:Zb K H t v)(V1:Dr t)(Jk:U4 t<=1000000)(Mn:∀H',Zw H H'->Q (.bl (Vx t)) H')
def Zwe(K:W.Frag):Sp:=fun vs H Q _=>Zfx K vs H Q
theorem Qo{σ:L2.St}{H:Hp}{A B:Hp->Prop}(h:A H):Jt σ H fun ok H3=>if ok=true then A H3 else B H3:=by
 show if true=true then A H else B H
 exact Zu (A:=A H) (B:=B H) h
theorem Kh:∀{ts:List Th},ts.all (Jb true)=true->∃ss:List Str,ts=ss.map Th.str
 | [],_=>⟨[],rfl⟩
 | t::ts,h=>by
  rw[List.all_cons,Iq]at h;obtain⟨ss,rfl⟩:=Kh h.2;cases t with
  | str x=>exact⟨x::ss,rfl⟩
  | _=>exact absurd h.1 (by simp[Jb,nj])
theorem Kp:∀{ts:List Th},ts.all (Jb false)=true->∃ss:List Int,ts=ss.map Th.int
 | [],_=>⟨[],rfl⟩
 | t::ts,h=>by
  rw[List.all_cons,Iq]at h;obtain⟨ss,rfl⟩:=Kp h.2;cases t with
  | int x=>exact⟨x::ss,rfl⟩
  | _=>exact absurd h.1 (by simp[Jb,Z4])
theorem Dl{t:Th}(h:Gc t=true):∃a b,t=.tup [a,b]:=by
 unfold Gc at h
 split at h
 ·exact⟨_,_,rfl⟩
 ·cases h
theorem Zyx(F:Fu K "rises" S9 f fd)(m:Bn mg):Yn P w K mg base Je 1 f fd ["things"] (Rt K):=by
 refine F.ok Zvf (fun vs H Q E h=>?_) fun _ A _ s H vs Q E hr h=>?_
 ·obtain⟨a,ts,ws,rfl,_⟩:=h
  rfl
 obtain⟨a,ts,ws,rfl,ha,at',hl,hk,q⟩:=h;refine⟨_,(@Yx _ _ _ (qr (cB (Ye rfl) m.all G3 (Zg (pC Zz5 (Zv S9) ["one","other"] [none,none] (@pi_zip _ _ _ _ _ _ _ _ _ rfl m.zip (Zg (pv 0) (Zg (@Uy _ _ _ _ _ _ _ _ _ _ Ft (pv 0) (@U7 _ _ _ Zq) (@U8 _)) Zx)) rfl rfl) (fun _ _ _=>(N9 rfl (Ys (nI 0) (Ys (nI 1) Dn)))) (fun _ _ _=>Z1) (fun _ _ _=>(eQ il (pv 0) (pv 1)))) Zx)))), ?_⟩;refine⟨_,rfl,_,rfl,_,rfl,a,ws,rfl,ha,fun l hlf=>?_⟩
 have cut:Dj ws (some 1) none=ws.drop 1:=by
  unfold Dj;have e2:HT.Uo ws.length ws.length none=ws.length:=rfl;have e1:HT.Uo ws.length 0 (some 1)=min 1 ws.length:=by simp[HT.Uo]
  rw[e1,e2];cases ws with
  | nil=>rfl
  | cons x r=>simp
 rw[cut];have s0:Zw H (Yq H l (.lst (ws.drop 1))):=Zw.lay hlf;refine⟨a,l,rfl,⟨ws,s0.seq ha⟩,⟨_,Z0.of Zz⟩,fun D fp sx hD=>?_⟩;have hD0:H D=none:=s0.free hD;have lw:=at'.length
 have lz:∀i,((List.zipWith Mq ts (ts.drop 1)).take i).length<=1000000:=fun i=>by
  rw[T1,ud];omega
 refine Zko (K:=K) (xs:=ws) (ys:=ws.drop 1) (fun i zs σ H5=>(∃o1 o2,σ=[o1,o2])/\zs=((List.zipWith Mq ts (ts.drop 1)).take i).map V.bl/\Zw (Yq H l (.lst (ws.drop 1))) H5/\H5 D=some (.lst zs))
  ⟨⟨_,_,rfl⟩,rfl,(Zw.refl _).put hD,Zz⟩ ?_ ?_ ?_
 ·rintro i zs σ H5 hi ⟨_,_,s5,h5⟩;exact⟨(s0.trans s5).seq ha,Z0.of (s5 _ _ Zz),h5⟩
 ·rintro i x y p zs σ H5 hx hy ⟨⟨o1,o2,rfl⟩,rfl,s5,h5⟩ hp;obtain⟨tx,ex,ix⟩:=at'.got hx;obtain⟨ty,ey,iy⟩:=(Zy.drop 1 at').got hy;have hz:(List.zipWith Mq ts (ts.drop 1))[i]?=some (Mq tx ty):=by rw[List.getElem?_zipWith,ex,ey]
  have s6:Zw H5 (Yq H5 p (.tup [x,y])):=Zw.lay hp;refine⟨p,_,rfl,Yv.of Zz,rfl,_,_,rfl,_,_,rfl,rfl, ?_⟩;refine Qo ?_;refine⟨_,rfl,_,rfl, ?_⟩
  have fin:Yq H5 p (.tup [x,y]) D=some (.lst (((List.zipWith Mq ts (ts.drop 1)).take i).map V.bl))/\(((List.zipWith Mq ts (ts.drop 1)).take i).map V.bl).length<sizeLine/\(∃o1 o2,([some x,some y]:L2.St)=[o1,o2])/\((List.zipWith Mq ts (ts.drop 1)).take i).map V.bl++[V.bl (Mq tx ty)]=((List.zipWith Mq ts (ts.drop 1)).take (i+1)).map V.bl /\
    Zw (Yq H l (.lst (ws.drop 1))) (Yq (Yq H5 p (.tup [x,y])) D (.lst (((List.zipWith Mq ts (ts.drop 1)).take i).map V.bl++[V.bl (Mq tx ty)])))/\Yq (Yq H5 p (.tup [x,y])) D (.lst (((List.zipWith Mq ts (ts.drop 1)).take i).map V.bl++[V.bl (Mq tx ty)])) D=some (.lst (((List.zipWith Mq ts (ts.drop 1)).take i).map V.bl++[V.bl (Mq tx ty)])):=by
   refine⟨s6 _ _ h5, ?_,⟨_,_,rfl⟩, ?_,(s5.trans s6).put hD,Zz⟩
   ·rw[Yp];exact Iz (lz i) (by decide)
   ·rw[Zs hz,Gj];rfl
  rcases hk with ⟨ss,rfl⟩ | ⟨ns,rfl⟩
  ·rw[<-List.map_drop,Ma]at ey;rw[Ma]at ex;obtain⟨x1,_,rfl⟩:=Qe.mp ex;obtain⟨y1,_,rfl⟩:=Qe.mp ey;cases Zr ix;cases Zr iy;exact .inr ⟨_,_,rfl,rfl,fin⟩
  ·rw[<-List.map_drop,Ma]at ey;rw[Ma]at ex;obtain⟨x1,_,rfl⟩:=Qe.mp ex;obtain⟨y1,_,rfl⟩:=Qe.mp ey;cases Zr ix;cases Zr iy;exact .inl ⟨_,_,rfl,rfl,fin⟩
 ·rintro zs σ H5 ⟨_,rfl,s5,h5⟩;refine⟨D,_,rfl,Z0.of h5, ?_⟩
  have e:(List.zipWith Mq ts (ts.drop 1)).take (min ws.length (ws.drop 1).length)=List.zipWith Mq ts (ts.drop 1):=by
   rw[Xt];rw[ud,List.length_drop,List.length_drop,lw];exact Vj _
  rw[e];exact q H5 (s0.trans s5)
theorem za(F:Fu K "are_pairs" Na f fd)(m:Bn mg):Yn P w K mg base Je 1 f fd ["thing"] (Ff K):=by
 refine F.ok X9 (fun vs H Q E h=>?_) fun _ A _ s H vs Q E hr h=>?_
 ·obtain⟨v,t,rfl,_⟩:=h
  rfl
 obtain⟨v,t,rfl,ht,hz,q⟩:=h;refine⟨_,(@Yx _ _ _ (qr (qa (cB Ze m.isinstance Zh (Zg (pv 0) (Zg (Yy rfl m.tuple Yr (by decide) (by decide)) Zx))) (qe (cB (Ye rfl) m.all G3 (Zg (pC O8 (Zv Na) ["pair"] [none] (qI (pv 0)) (fun _ _ _=>(nI 0)) (fun _ _ _=>Z1) (fun _ _ _=>(qa (cB Ze m.isinstance Zh (Zg (pv 0) (Zg (Yy rfl m.tuple Yr (by decide) (by decide)) Zx))) (qe (eQ Ym (cB Zn m.len Vv (Zg (pv 0) Zx)) Zq))))) Zx)))))), ?_⟩;refine⟨_,rfl,_,_,t,rfl,ht,(by simp),_,rfl, ?_⟩;cases t with
 | tup ts =>
  obtain⟨a,ws,rfl,ha,at'⟩:=ht;refine Zu ⟨_,rfl,a,rfl,⟨ws,ha⟩,fun D fp sx hD=>?_⟩
  have hl:ts.length<=1000000:=by
   have:=Ce ts;simp only[U4]at hz;omega
  refine Dv (p:=Gc) ha at' hl hD (fun t v H5 Q5 mt s5 i5 q5=>?_) fun H6 s6 h6=>⟨D,_,rfl,Z0.of h6, ?_⟩
  ·refine⟨_,rfl,_,_,t,rfl,i5,(by simp),_,rfl, ?_⟩;cases t with
   | tup us =>
    obtain⟨p,xs,rfl,hp,ar⟩:=i5;refine Zu ⟨_,rfl,p,xs,rfl,.inr hp,rfl, ?_⟩
    have e:Gc (.tup us)=(V.int xs.length=V.int 2:Bool):=by
     have:=ar.length
     match us,this with
     | [],h=>rw[<-h];rfl
     | [_],h=>rw[<-h];rfl
     | [_,_],h=>rw[<-h];rfl
     | _::_::_::r,h =>
      rw[<-h]
      symm
      apply My
      intro z
      injection z with z
      simp only[S6]at z;omega
    rw[e]at q5;exact q5 H5 (Zw.refl H5)
   | bl b=>exact Y6 (q5 H5 (Zw.refl H5))
   | non=>exact Y6 (q5 H5 (Zw.refl H5))
   | int x=>exact Y6 (q5 H5 (Zw.refl H5))
   | str ts=>exact Y6 (q5 H5 (Zw.refl H5))
   | opq=>exact Y6 (q5 H5 (Zw.refl H5))
  ·have e:(ts.map Gc).all id=Z7 (.tup ts):=by rw[List.all_map];rfl
   rw[e];exact q H6 s6
 | bl b=>exact Y6 (q H (Zw.refl H))
 | non=>exact Y6 (q H (Zw.refl H))
 | int x=>exact Y6 (q H (Zw.refl H))
 | str ts=>exact Y6 (q H (Zw.refl H))
 | opq=>exact Y6 (q H (Zw.refl H))
theorem An(F:Fu K "are_labels" Mb f fd)(m:Bn mg)(Zmv:Fn P w K mg base 1 "rises" ["things"] (Rt K)):Yn P w K mg base Je 3 f fd ["things","is_label"] (Bc P w K mg base):=by
 refine F.ok Af (fun vs H Q E h=>?_) fun _ A _ s H vs Q E hr h=>?_
 ·obtain⟨a,fl,b,ts,ws,rfl,_⟩:=h
  rfl
 obtain⟨a,fl,b,ts,ws,rfl,⟨fd',ok',bd',kp'⟩,ha,at',hl,gd,q⟩:=h;refine⟨_,(@Yx _ _ _ (qr (qa (cB (Ye rfl) m.all G3 (Zg (pC Q7 (Zv Mb) ["thing","is_label"] [none,some 1] (qL (pv 0)) (fun _ _ _=>(nI 0)) (fun _ _ _=>Z1) (fun _ _ _=>(@Zv1 _ _ _ _ _ _ _ _ (pv 1) (Zg (pv 0) Zx) rfl rfl))) Zx)) (qe (cF Zmv hr (Zg (pv 0) Zx)))))), ?_⟩;refine⟨_,rfl,a,rfl,⟨ws,ha⟩,fun D fp sx hD=>?_⟩;refine Lr (p:=Jb b) ha at' hl hD (fun t v H5 Q5 mt s5 i5 q5=>?_) fun H6 s6 h6=>⟨D,_,rfl,Z0.of h6,_,rfl, ?_⟩
 ·exact⟨_,rfl,fl,["thing"],Im K b,rfl,⟨⟨2,fd',ok',bd',hr⟩,kp'⟩,_,rfl,v,t,rfl,i5,Yz.mp gd t mt,q5⟩
 ·have e:(ts.map (Jb b)).all id=ts.all (Jb b):=by rw[List.all_map];rfl
  rw[e];refine Vw (fun c=>?_) (fun c=>?_)
  ·refine⟨_,rfl,a,ts,ws,rfl,s6.seq ha,Zy.up s6.upT _ _ at',hl, ?_,fun H7 s7=>?_⟩
   ·cases b with
    | true=>exact .inl (Kh c)
    | false=>exact .inr (Kp c)
   ·have e2:Z8 b ts=Jc ts:=by simp only[Z8,c,O9]
    rw[<-e2];exact q H7 (s6.trans s7)
  ·have e2:Z8 b ts=false:=by
    have:ts.all (Jb b)=false:=Bool.not_eq_true _ ▸ c;simp only[Z8,this,Om]
   rw[<-e2];exact q H6 s6
theorem Jz{t:Th}(h:U4 t<=1000000):(Za t).length<=1000000:=by
 have:=Kj t;have:=Ce (Za t);omega
theorem Lg(F:Fu K "is_right_behind" Uz f fd)(m:Bn mg)(c:Cn mg)(Sr:Fn P w K mg base 2 "is_item_whole" ["thing"] (bo K (-1000000000000000000) 1000000000000000000))
  (P2:Fn P w K mg base 1 "is_text" ["thing","most"] (B5 K)) (Gz:Fn P w K mg base 1 "are_pairs" ["thing"] (Ff K)) (Jj:Fn P w K mg base 3 "are_labels" ["things","is_label"] (Bc P w K mg base))
  {f1 f2:Addr} (Pj:mg "is_name" = some (.ref f1)) (T9:mg "is_number" = some (.ref f2)) (l1:gh P w K mg base true f1) (l2:gh P w K mg base false f2):Yn P w K mg base Je 4 f fd ["sort","thing"] (Zvq K):=by
 refine F.ok Wi (fun vs H Q E h=>?_) fun _ A _ s H vs Q E hr h=>?_
 ·obtain⟨u,v,t,s,rfl,_⟩:=h
  rfl
 obtain⟨u,v,s',t,rfl,hs,ht,gd,hz,q⟩:=h;refine⟨_,(@Zf _ _ _ _ _ (qi (tQ Vp (pv 0) Zm) (q1 (qr (cF Sr hr (Zg (pv 1) Zx)))) Zd) (qs (qi (tQ Vp (pv 0) Zm) (q1 (qr (cF P2 hr (Zg (pv 1) (Zg (@Bu _ _ _ _ rfl c.LONGEST_TEXT (by decide)) Zx))))) Zd) (qs (qi (tQ Vp (pv 0) Zm) (q1 (qr (cB Ze m.isinstance Zh (Zg (pv 1) (Zg (Yy rfl m.tuple Yr (by decide) (by decide)) Zx))))) Zd) (qs (qi (tQ Vp (pv 0) Zm) (q1 (qr (qa (cF Gz hr (Zg (pv 1) Zx)) (qe (cF Jj hr (Zg (pC Gh (Zv Uz) ["pair"] [none] (qI (pv 1)) (fun _ _ _=>(nI 0)) (fun _ _ _=>Z1) (fun _ _ _=>(iX Zk (pv 0) Zq))) (Zg (@Fo _ _ _ _ rfl Pj (by decide)) Zx))))))) Zd) (qs (qi (tQ Vp (pv 0) Zm) (q1 (qr (qa (cF Gz hr (Zg (pv 1) Zx)) (qe (cF Jj hr (Zg (pC Gh (Zv Uz) ["pair"] [none] (qI (pv 1)) (fun _ _ _=>(nI 0)) (fun _ _ _=>Z1) (fun _ _ _=>(iX Zk (pv 0) Zq))) (Zg (@Fo _ _ _ _ rfl T9 (by decide)) Zx))))))) Zd) (q1 (qr Vz))))))), ?_⟩;have hu:=Ur.units0 hr
 have labs:∀(b:Bool) (fl:Addr),gh P w K mg base b fl->∀(H1:Hp),Zw H H1->Z7 t=true->(∀H',Zw H H'->Q (.bl (Z8 b ((Za t).map Z6))) H') ->
   ∃a,v=.ref a/\(∃xs,Yv K H1 a xs)/\∀(D:Addr) (fp:List Addr) (sx:Shared),H1 D=none->∃W:Nat->Nat->List V->L2.St->Hp->Prop,(∃m',W 0 m' [] [none] (Yq H1 D (.lst []))) /\
    Nm (Itt K a) (Jv 0) Jt (tOp (rIxT K) (Zxv 0) (tC (.int 0))) D W (fun H6=>Bc P w K mg base [.ref D,.ref fl] H6 Q E):=by
  intro b fl lf H1 s1 hp q1;cases t with
  | tup ts =>
   obtain⟨a,ws,rfl,ha,at'⟩:=ht;refine⟨a,rfl,⟨ws,s1.up _ _ ha⟩,fun D fp sx hD=>?_⟩;have hl:=Jz hz;refine Ub (f:=Z6) (s1.up _ _ ha) (Zy.up s1.upT _ _ at') hl hD (fun t' v' H5 Q5 mt s5 i5 q5=>?_) fun H6 xs s6 h6 ar=>⟨D,fl,b,ts.map Z6,xs,rfl,lf,Z0.of h6,ar, ?_, ?_,fun H7 s7=>q1 H7 ((s1.trans s6).trans s7)⟩
   ·obtain⟨x,y,rfl⟩:=Dl (Wv.mp hp t' mt);obtain⟨p,vx,vy,rfl,Xq,ix,iy⟩:=Bo i5;exact⟨_,rfl,p,_,_,_,rfl,rfl,Xq,rfl,q5 vx H5 (Zw.refl H5) ix⟩
   ·rw[Yp];exact hl
   ·refine Yz.mpr fun t' mt=>?_;obtain⟨t2,m2,rfl⟩:=Dp.mp mt;exact rj (Yz.mp gd t2 m2)
  | bl b=>cases hp
  | non=>cases hp
  | int x=>cases hp
  | str ts=>cases hp
  | opq=>cases hp
 refine⟨_,rfl,s',_,hs,rfl,hu,_,rfl, ?_⟩;refine Vw (fun c1=>?_) (fun c1=>?_)
 ·refine⟨_,rfl,v,t,rfl,ht, ?_⟩;have e:Yk s' t=Z4 (-1000000000000000000) 1000000000000000000 t:=by unfold Yk;rw[if_pos c1]
  rw[e]at q;exact q H (Zw.refl H)
 refine⟨_,rfl,s',_,hs,rfl,hu,_,rfl, ?_⟩;refine Vw (fun c2=>?_) (fun c2=>?_)
 ·refine⟨_,rfl,v,t,200,rfl,ht,gd, ?_⟩
  have e:Yk s' t=Od 200 t:=by
   unfold Yk;rw[if_neg c1,if_pos c2];cases t with
   | str x=>show decide (x.length<=200)=decide ((x.length:Int)<=200);exact decide_eq_decide.mpr (by omega)
   | _=>rfl
  rw[e]at q;exact q
 refine⟨_,rfl,s',_,hs,rfl,hu,_,rfl, ?_⟩;refine Vw (fun c3=>?_) (fun c3=>?_)
 ·refine⟨_,rfl,v,_,t,rfl,ht,(by simp), ?_⟩;have e:Yk s' t=Gn "tuple" t:=by unfold Yk;rw[if_neg c1,if_neg c2,if_pos c3]
  rw[e]at q;exact q H (Zw.refl H)
 refine⟨_,rfl,s',_,hs,rfl,hu,_,rfl, ?_⟩;refine Vw (fun c4=>?_) (fun c4=>?_)
 ·have e:Yk s' t=(Z7 t && Z8 true ((Za t).map Z6)):=by unfold Yk;rw[if_neg c1,if_neg c2,if_neg c3,if_pos c4]
  rw[e]at q;refine⟨_,rfl,v,t,rfl,ht,hz,fun H1 s1=>⟨_,rfl, ?_⟩⟩;refine Vw (fun c5=>?_) (fun c5=>?_)
  ·rw[c5,O9]at q;obtain⟨a',e',hx',hD'⟩:=labs true f1 l1 H1 s1 c5 q;exact⟨_,rfl,a',e',hx',hD'⟩
  ·have c5':Z7 t=false:=by simpa using c5
   rw[c5',Om]at q;exact q H1 s1
 refine⟨_,rfl,s',_,hs,rfl,hu,_,rfl, ?_⟩;refine Vw (fun c6=>?_) (fun c6=>?_)
 ·have e:Yk s' t=(Z7 t && Z8 false ((Za t).map Z6)):=by unfold Yk;rw[if_neg c1,if_neg c2,if_neg c3,if_neg c4,if_pos c6]
  rw[e]at q;refine⟨_,rfl,v,t,rfl,ht,hz,fun H1 s1=>⟨_,rfl, ?_⟩⟩;refine Vw (fun c5=>?_) (fun c5=>?_)
  ·rw[c5,O9]at q;obtain⟨a',e',hx',hD'⟩:=labs false f2 l2 H1 s1 c5 q;exact⟨_,rfl,a',e',hx',hD'⟩
  ·have c5':Z7 t=false:=by simpa using c5
   rw[c5',Om]at q;exact q H1 s1
 ·have e:Yk s' t=false:=by unfold Yk;rw[if_neg c1,if_neg c2,if_neg c3,if_neg c4,if_neg c6]
  rw[e]at q;exact q H (Zw.refl H)
theorem Wz(F:Fu K "is_right_outside" Jp f fd)(m:Bn mg)(C2:Fn P w K mg base 2 "is_number" ["thing"] (bo K 1 999))(Qd:Fn P w K mg base 4 "is_right_behind" ["sort","thing"] (Zvq K)) :
  Yn P w K mg base Je 5 f fd ["thing"] (Zwe K):=by
 refine F.ok R8 (fun vs H Q E h=>?_) fun _ A _ s H vs Q E hr h=>?_
 ·obtain⟨v,t,rfl,_⟩:=h
  rfl
 obtain⟨v,t,rfl,ht,gd,hz,q⟩:=h;refine⟨_,(@Zf _ _ _ _ _ (qi (qp (qO (qn (Yg (cB Ze m.isinstance Zh (Zg (pv 0) (Zg (Yy rfl m.tuple Yr (by decide) (by decide)) Zx))) (by intro _;rfl))) (qQ (tQ F0 (cB Zn m.len Vv (Zg (pv 0) Zx)) Zq)))) (q1 (qr Vz)) Zd) (qs (qi (tQ Vp (iX Zk (pv 0) Zq) Zm) (q1 (qr (qa (eQ Ym (cB Zn m.len Vv (Zg (pv 0) Zx)) Zq) (qe (cF C2 hr (Zg (iX Zk (pv 0) Zq) Zx)))))) Zd) (q1 (qr (qa (eQ Ym (cB Zn m.len Vv (Zg (pv 0) Zx)) Zq) (qe (cF Qd hr (Zg (iX Zk (pv 0) Zq) (Zg (iX Zk (pv 0) Zq) Zx))))))))), ?_⟩;have hu:=Ur.units0 hr;refine⟨_,rfl,_,_,t,rfl,ht,(by simp),_,rfl, ?_⟩;cases t with
 | tup ts =>
  obtain⟨p,ws,rfl,hp,at'⟩:=ht;have hl:=at'.length;refine Y6 ⟨_,rfl,p,ws,rfl,.inr hp,_,_,rfl,rfl,_,rfl, ?_⟩;rcases ts with _ | ⟨a,_ | ⟨b,r⟩⟩
  ·cases Zr at';exact Zu (q H (Zw.refl H))
  ·obtain⟨_,_,rfl,_,e⟩:=at';cases Zr e;exact Zu (q H (Zw.refl H))
  ·obtain⟨va,_,rfl,i1,vb,wr,rfl,i2,i3⟩:=at';refine Y6 ?_;refine⟨_,rfl,p,_,_,_,rfl,rfl,hp,at0,a,_,i1,rfl,hu,_,rfl, ?_⟩;refine Vw (fun c=>?_) (fun c=>?_)
   ·refine⟨_,rfl,p,_,rfl,.inr hp,rfl,_,rfl, ?_⟩;rcases r with _ | ⟨z,_ | ⟨_,r⟩⟩
    ·cases Zr i3;have e:Vx (.tup [a,b])=false:=by show (!Ue a "arm" && Yk a b)=false;rw[c];rfl
     rw[e]at q;exact Y6 (q H (Zw.refl H))
    ·obtain⟨vz,_,rfl,_,e0⟩:=i3;cases Zr e0;refine Zu ⟨_,rfl,p,_,_,_,rfl,rfl,hp,rfl,vb,b,rfl,i2, ?_⟩;have e:Vx (.tup [a,b,z])=Z4 1 999 b:=by show (Ue a "arm" && Z4 1 999 b)=_;rw[c];rfl
     rw[e]at q;exact q H (Zw.refl H)
    ·obtain⟨vx,_,rfl,_,vy,vr,rfl,_⟩:=i3;refine Z5 (My fun z=>?_) (q H (Zw.refl H))
     injection z with z
     simp only[S6]at z;omega
   ·refine⟨_,rfl,p,_,rfl,.inr hp,rfl,_,rfl, ?_⟩;rcases r with _ | ⟨z,_ | ⟨_,r⟩⟩
    ·cases Zr i3;refine Zu ⟨_,rfl,p,_,_,_,rfl,rfl,hp,rfl,_,rfl,p,_,_,_,rfl,rfl,hp,rfl,va,vb,a,b,rfl,i1,i2,gd.2.1, ?_, ?_⟩
     ·exact fw me2 hz
     ·have e:Vx (.tup [a,b])=Yk a b:=by show (!Ue a "arm" && Yk a b)=_;rw[show Ue a "arm" = false by simpa using c];rfl
      rw[e]at q;exact q
    ·obtain⟨vz,_,rfl,_,e0⟩:=i3;cases Zr e0;have e:Vx (.tup [a,b,z])=false:=by show (Ue a "arm" && Z4 1 999 b)=_;rw[show Ue a "arm" = false by simpa using c];rfl
     rw[e]at q;exact Y6 (q H (Zw.refl H))
    ·obtain⟨vx,_,rfl,_,vy,vr,rfl,_⟩:=i3;refine Z5 (My fun z=>?_) (q H (Zw.refl H))
     injection z with z
     simp only[S6]at z;omega
 | bl b=>exact Zu (Zu (q H (Zw.refl H)))
 | non=>exact Zu (Zu (q H (Zw.refl H)))
 | int x=>exact Zu (Zu (q H (Zw.refl H)))
 | str ts=>exact Zu (Zu (q H (Zw.refl H)))
 | opq=>exact Zu (Zu (q H (Zw.refl H)))
abbrev Tz:Stmt:=top 16
abbrev Hs:List Str:=["item"]
theorem ja:Zp Hs ["item"] (Zv Tz):=by trivial
abbrev N8:Stmt:=top 15
abbrev A9:List Str:=["level","below","item"]
theorem M6:Zp A9 ["level"] (Zv N8):=by trivial
abbrev Rh:Stmt:=top 14
abbrev Xr:List Str:=["thing","deep","level"]
theorem M7:Zp Xr ["thing"] (Zv Rh):=by trivial
inductive Zw7(K:W.Frag)(vs:List V)(H:Hp)(Q:VK):Prop
 | mk(v t)(Vg:vs=[v])(Vk:Zb K H t v)(V1:Vx t=true)(Jk:U4 t<=1000000)(Mn:∀(l:Addr) (ys:List V) (H':Hp),H l=none->Zw H H'->H' l=some (.lst ys)->Zy K H' (Yc t) ys->Q (.ref l) H')
def mh(K:W.Frag):Sp:=fun vs H Q _=>Zw7 K vs H Q
inductive Zxn(K:W.Frag)(vs:List V)(H:Hp)(Q:VK):Prop
 | mk(a ts ws)(Vg:vs=[.ref a])(Vk:Z0 K H a ws)(V1:Zy K H ts ws)(Jk:ts.all Vx=true)(Mn:Yd ts<=1000000)(Wb:∀(l:Addr) (ys:List V) (H':Hp),H l=none->Zw H H'->H' l=some (.lst ys)->Zy K H' (ts.flatMap Yc) ys->Q (.ref l) H')
def X3(K:W.Frag):Sp:=fun vs H Q _=>Zxn K vs H Q
inductive m6(K:W.Frag)(vs:List V)(H:Hp)(Q:VK):Prop
 | mk(v t)(Vg:vs=[v])(Vk:Zb K H t v)(V1:Dr t)(Jk:U4 t<=1000000)(Mn:∀H',Zw H H'->Q (.bl (B2 100 t)) H')
def Fm(K:W.Frag):Sp:=fun vs H Q _=>m6 K vs H Q
theorem Bq{a:Th}{z:Str}(h:Ue a z=true):a=.str z:=by
 cases a with
 | str x=>exact congrArg Th.str (eq_of_beq (show (x == z)=true from h))
 | _=>cases h
theorem out2{a b:Th}(h:Vx (.tup [a,b])=true):Ue a "arm" = false/\Yk a b=true:=by
 have h':(!Ue a "arm" && Yk a b)=true:=h;rw[Iq]at h';exact⟨by simpa using h'.1,h'.2⟩
theorem out3{a b c:Th}(h:Vx (.tup [a,b,c])=true):a=.str "arm" /\ Z4 1 999 b=true:=by
 have h':(Ue a "arm" && Z4 1 999 b)=true:=h;rw[Iq]at h';exact⟨Bq h'.1,h'.2⟩
theorem Zx6{t:Th}(h:Vx t=true):(∃a b,t=.tup [a,b])\/∃a b c,t=.tup [a,b,c]:=by
 unfold Vx at h
 split at h
 ·exact .inl ⟨_,_,rfl⟩
 ·exact .inr ⟨_,_,_,rfl⟩
 ·cases h
theorem Zmp{b:Th}(h:Yk (.str "row") b=true):∃ts,b=.tup ts:=by
 have e:Yk (.str "row") b=Gn "tuple" b:=by
  unfold Yk;rw[if_neg (by decide +kernel),if_neg (by decide +kernel),if_pos (by decide +kernel)]
 rw[e]at h;cases b with
 | tup ts=>exact⟨ts,rfl⟩
 | bl _=>cases h
 | _=>cases h
theorem Zma{b:Th}(h:Yk (.str "map") b=true):Z7 b=true/\Z8 true ((Za b).map Z6)=true:=by
 have e:Yk (.str "map") b=(Z7 b && Z8 true ((Za b).map Z6)):=by
  unfold Yk;rw[if_neg (by decide +kernel),if_neg (by decide +kernel),if_neg (by decide +kernel),if_pos (by decide +kernel)]
 rw[e,Iq]at h;exact h
theorem Zmu{b:Th}(h:Yk (.str "rec") b=true):Z7 b=true/\Z8 false ((Za b).map Z6)=true:=by
 have e:Yk (.str "rec") b=(Z7 b && Z8 false ((Za b).map Z6)):=by
  unfold Yk;rw[if_neg (by decide +kernel),if_neg (by decide +kernel),if_neg (by decide +kernel),if_neg (by decide +kernel),if_pos (by decide +kernel)]
 rw[e,Iq]at h;exact h
theorem Zvv{H:Hp}{a D:Addr}{xs:List V}{ts:List Th}{fin:Hp->Prop}(ha:Yv K H a xs)(hA:Zy K H ts xs)(hp:ts.all Gc=true)(hl:ts.length<=1000000)(hD:H D=none)
  (hf:∀H6 ws,Zw H H6->H6 D=some (.lst ws)->Zy K H6 (ts.map Vc) ws->fin H6) :
  ∃W:Nat->Nat->List V->L2.St->Hp->Prop,(∃m,W 0 m [] [none,none] (Yq H D (.lst [])))/\Nm (Itt K a) (gTup K 2 (yp (Jv 0) (yp (Jv 1) gNil))) Jt (Zxv 1) D W fin:=by
 have hlen:=hA.length;refine D6 (K:=K) (a:=a) (xs:=xs) (fun i ys σ H5=>(∃o1 o2,σ=[o1,o2])/\Zy K H5 ((ts.take i).map Vc) ys/\Zw H H5/\H5 D=some (.lst ys)) ⟨⟨_,_,rfl⟩,rfl,(Zw.refl H).put hD,Zz⟩ ?_ ?_ ?_
 ·rintro i ys σ H5 hi ⟨_,_,s5,h5⟩;exact⟨s5.up _ _ ha,h5⟩
 ·rintro i x ys σ H5 hx ⟨⟨o1,o2,rfl⟩,ar,s5,h5⟩;obtain⟨t,et,it⟩:=hA.got hx;obtain⟨u,v,rfl⟩:=Dl (Wv.mp hp t (Ow et));obtain⟨p,vx,vy,rfl,Xq,ix,iy⟩:=Bo (Zb.up s5.upT _ _ it);refine⟨p,_,rfl,Xq,rfl,_,_,rfl,_,_,rfl,rfl,Qo ?_⟩;refine⟨_,rfl,h5, ?_,⟨_,_,rfl⟩, ?_,s5.put hD,Zz⟩
  ·rw[<-ar.length,Yp,T1];exact Iz (Gw (Nat.min_le_right _ _) hl) (by decide)
  ·rw[Zs et,Gj];have u6:Mz K H5 (Yq H5 D (.lst (ys++[vy]))):=Y8 h5;exact Zy.append (Zy.up u6 _ _ ar) (Zy.one (Zb.up u6 _ _ iy))
 ·rintro ys σ H5 ⟨_,ar,s5,h5⟩;refine hf H5 ys s5 h5 ?_;rw[<-hlen,fc]at ar;exact ar
theorem wa(F:Fu K "items_in" Tz f fd)(m:Bn mg):Yn P w K mg base Je 1 f fd ["item"] (mh K):=by
 refine F.ok ja (fun vs H Q E h=>?_) fun _ A _ s H vs Q E hr h=>?_
 ·obtain⟨v,t,rfl,_⟩:=h
  rfl
 obtain⟨v,t,rfl,ht,ho,hz,q⟩:=h;refine⟨_,(@Zf _ _ _ _ _ (qi (tQ Vp (iX Zk (pv 0) Zq) Zm) (q1 (qr (cT Ms m.list qg (Zg (iX Zk (pv 0) Zq) Zx)))) Zd) (@Zf _ _ _ _ _ (@J3 _ _ _ _ _ _ _ _ (tQ Vp (iX Zk (pv 0) Zq) Zm) (@Yx _ _ _ (@Ux _ _ _ _ (@Yt _ _ _ _ (@Zj _ _ _ _ _ (@Ut _ _ _ _ _ _ _ Zk (pv 0) Zq (fun _ _=>rfl)) Zx rfl)))) Zd) (qs (qi (qp (qO (tQ Vp (iX Zk (pv 0) Zq) Zm) (qQ (tQ Vp (iX Zk (pv 0) Zq) Zm)))) (q1 (qr (pC Hs (Zv Tz) ["label","inner"] [none,none] (qI (iX Zk (pv 0) Zq)) (fun _ _ _=>(N9 rfl (Ys (nI 0) (Ys (nI 1) Dn)))) (fun _ _ _=>Z1) (fun _ _ _=>(pv 1))))) Zd) (q1 (qr (ql Zx)))))), ?_⟩;have hu:=Ur.units0 hr;rcases Zx6 ho with ⟨a,b,rfl⟩ | ⟨a,b,c,rfl⟩
 ·refine Zc fun _ Y5=>?_;obtain⟨na,hb⟩:=out2 ho;obtain⟨p,x,y,rfl,hp,ix,iy⟩:=Bo ht;refine Y5 ?_;have hzb:U4 b<=1000000:=fw me2 hz;refine⟨_,rfl,p,_,_,_,rfl,rfl,hp,rfl,a,_,ix,rfl,hu,_,rfl, ?_⟩;refine Vw (fun c1=>?_) (fun c1=>?_)
  ·have ea:=Bq c1;subst ea;refine Zc fun _ Vm=>?_;obtain⟨ts,rfl⟩:=Zmp hb;obtain⟨l1,xs,rfl,Ax,ar⟩:=iy;refine Vm ?_;refine⟨_,rfl,p,_,_,_,rfl,rfl,hp,rfl,l1,xs,rfl,.inr Ax,fun l hl=>q l xs _ hl (Zw.lay hl) Zz ?_⟩;exact Zy.up (Zw.lay hl).upT _ _ ar
  ·refine⟨_,rfl,p,_,_,_,rfl,rfl,hp,rfl,a,_,ix,rfl,hu,_,rfl,Z5 na ?_⟩
   have k0:Yc (.tup [a,b])=if (Ue a "map" || Ue a "rec")=true then (Za b).map Vc else []:=by
    show (if Ue a "row" = true then _ else _)=_;rw[if_neg c1]
   have go:Z7 b=true->Yc (.tup [a,b])=(Za b).map Vc->Iy (iTup K (tOp (rIxT K) (Zxv 0) (tC (.int 1)))) [none,none] (fun _ _ _=>gTup K 2 (yp (Jv 0) (yp (Jv 1) gNil))) (fun _ _ _=>Jt) (fun _ _ _=>Zxv 1) [some (.ref p)] H Q:=by
    intro hpb ek;cases b with
    | tup ts =>
     refine Zc fun _ Vh=>?_;obtain⟨l1,xs,rfl,Ax,ar⟩:=iy;refine Vh ?_;refine⟨_,rfl,p,_,_,_,rfl,rfl,hp,rfl,l1,rfl,⟨xs,Ax⟩,fun D fp sx hD=>?_⟩;refine Zvv Ax ar hpb (Jz hzb) hD fun H6 ws s6 h6 a6=>q D ws H6 hD s6 h6 ?_;rw[ek];exact a6
    | bl _=>cases hpb
    | non=>cases hpb
    | int _=>cases hpb
    | str _=>cases hpb
    | opq=>cases hpb
   refine⟨_,rfl,p,_,_,_,rfl,rfl,hp,rfl,a,_,ix,rfl,hu,_,rfl, ?_⟩;refine Vw (fun c2=>?_) (fun c2=>?_)
   ·have ea:=Bq c2;subst ea;refine Zu (go (Zma hb).1 ?_);rw[k0,if_pos (by decide +kernel)]
   ·refine⟨_,rfl,p,_,_,_,rfl,rfl,hp,rfl,a,_,ix,rfl,hu,_,rfl, ?_⟩;refine Vw (fun c3=>?_) (fun c3=>?_)
    ·have ea:=Bq c3;subst ea;refine go (Zmu hb).1 ?_;rw[k0,if_pos (by decide +kernel)]
    ·refine⟨(sz 0),fun l hl=>q l [] _ hl (Zw.lay hl) Zz ?_⟩;rw[k0,if_neg]
     ·rfl
     ·rw[show Ue a "map" = false by simpa using c2,show Ue a "rec" = false by simpa using c3]
      decide
 ·refine Zc fun _ Vs=>?_;obtain⟨rfl,hb⟩:=out3 ho;obtain⟨p,x,y,z,rfl,hp,rfl,iy,iz⟩:=isTh3 ht;refine Vs ?_;refine⟨_,rfl,p,_,_,_,rfl,rfl,hp,rfl,.str "arm",_,rfl,rfl,hu,_,rfl,iN ?_⟩;refine⟨_,rfl,p,_,_,_,rfl,rfl,hp,rfl,.str "arm",_,rfl,rfl,hu,_,rfl,iY ?_⟩;refine⟨_,rfl,p,_,_,_,rfl,rfl,hp,rfl,(sz 1),fun l hl=>q l [z] _ hl (Zw.lay hl) Zz ?_⟩;exact Zy.one (Zb.up (Zw.lay hl).upT _ _ iz)
theorem Kb(F:Fu K "level_below" N8 f fd)(m:Bn mg)(rq:Fn P w K mg base 1 "items_in" ["item"] (mh K)):Yn P w K mg base Je 2 f fd ["level"] (X3 K):=by
 refine F.ok M6 (fun vs H Q E h=>?_) fun _ A _ s H vs Q E hr h=>?_
 ·obtain⟨a,_,_,rfl,_⟩:=h
  rfl
 obtain⟨a,ts,us,rfl,hS,hA,ho,hz,q⟩:=h;refine⟨_,(@Zf _ _ _ _ _ (sI 1 M6.nd (ql Zx)) (qs (Dz PassesOwn.never rfl (qL (pv 0)) (nJ 2 M6.nd) (q1 (@Ez _ _ _ _ (@oi _ _ _ _ _ _ _ _ _ _ _ _ PySem.F.plainAttrs_list PySem.F.slot_list_extend PySem.F.type_list_extend Ie (pv 1) (Zg (cF rq hr (Zg (pv 2) Zx)) Zx) (by trivial) (by trivial) (by trivial) (by trivial) (by trivial)) rfl))) (q1 (qr (pv 1))))), ?_⟩;refine⟨(sz 0),fun b hb=>?_⟩;have hl:=hA.length;have s0:Zw H (Yq H b (.lst [])):=(Zw.refl H).put hb;refine⟨_,rfl,a,rfl,⟨_,s0.seq hS⟩,Nw (xs:=us) (fun i σ H2=>∃o ys,σ=[some (.ref a),some (.ref b),o]/\Zw H H2/\H2 b=some (.lst ys)/\Zy K H2 ((ts.take i).flatMap Yc) ys) ⟨none,[],rfl,s0,Zz,rfl⟩ ?_ ?_ ?_⟩
 ·intro i σ H2 hi xm;refine Zc fun _ Vu=>?_;obtain⟨o,ys,rfl,s2,h2,a2⟩:=xm;refine Vu ?_;exact s2.seq hS
 ·intro i x σ H2 hx xf;refine Zc fun _ Ug=>?_;obtain⟨o,ys,rfl,s2,h2,a2⟩:=xf;obtain⟨t,et,it⟩:=hA.got hx;refine Ug ?_;have mt:=Ow et
  have e2:(ts.take (i+1)).flatMap Yc=(ts.take i).flatMap Yc++Yc t:=by
   rw[Zs et,List.flatMap_append];simp
  have zt:U4 t<=1000000:=Gw (Fk mt) hz;refine⟨_,rfl,.inl ⟨rfl,_,Z0.of h2⟩,_,rfl,x,t,rfl,Zb.up s2.upT _ _ it,Wv.mp ho t mt,zt,fun l zs H3 hl3 s3 h3 a3=>?_⟩;have h3b:H3 b=some (.lst ys):=s3 _ _ h2;have ey:ys.length=((ts.take i).flatMap Yc).length:=a2.length.symm;have ez:zs.length=(Yc t).length:=a3.length.symm
  have le:ys.length+zs.length<=1000000:=by
   rw[ey,ez, <-Xs, <-e2];have h1:=Ce ((ts.take (i+1)).flatMap Yc);have h2:=x9 (ts.take (i+1));have h3:Yd ts=Yd (ts.take (i+1))+Yd (ts.drop (i+1)):=by rw[<-V7,List.take_append_drop]
   omega
  refine⟨b,l,ys,zs,rfl,rfl,h3b,h3,Gw le (by decide),some x,ys++zs,rfl,(s2.trans s3).put hb,Zz, ?_⟩;rw[e2];have u4:Mz K H3 (Yq H3 b (.lst (ys++zs))):=Y8 h3b;exact Zy.append (Zy.up (s3.upT.trans u4) _ _ a2) (Zy.up u4 _ _ a3)
 ·intro σ H2 xg;refine Zc fun _ Uk=>?_;obtain⟨o,ys,rfl,s2,h2,a2⟩:=xg;refine Uk ?_;refine⟨_,rfl,q b ys H2 hb s2 h2 ?_⟩;rw[<-hl,fc]at a2;exact a2
theorem cg(F:Fu K "is_item" Rh f fd)(m:Bn mg)(c:Cn mg)(Ln:Fn P w K mg base 5 "is_right_outside" ["thing"] (Zwe K))(Au:Fn P w K mg base 2 "level_below" ["level"] (X3 K)) :
  Yn P w K mg base Je 6 f fd ["thing"] (Fm K):=by
 refine F.ok M7 (fun vs H Q E h=>?_) fun _ A _ s H vs Q E hr h=>?_
 ·obtain⟨v,t,rfl,_⟩:=h
  rfl
 obtain⟨v,t,rfl,ht,gd,hz,q⟩:=h;refine⟨_,(@Zf _ _ _ _ _ (sI 1 M7.nd Zq) (@Zf _ _ _ _ _ (@Dc _ 2 _ _ _ _ _ M7.nd rfl (by trivial) (@Yt _ _ _ _ (@Zj _ _ _ _ _ (pv 0) Zx rfl)) rfl (by trivial)) (qs (@j8 _ _ _ _ _ _ PassesOwn.never (@E8 _ _ _ (pv 2) (fun _=>rfl)) (qs (sI 1 M7.nd (qo Ju (pv 1) Zq)) (qs (qi (qp (qO (tQ Ia (pv 1) (@Bu _ _ _ _ rfl c.DEEPEST (by decide))) (qQ (qn (Yg (cB (Ye rfl) m.all G3 (Zg (pC Xr (Zv Rh) ["part"] [none] (qL (pv 2)) (fun _ _ _=>(nI 0)) (fun _ _ _=>Z1) (fun _ _ _=>(cF Ln hr (Zg (pv 0) Zx)))) Zx)) (by intro _;rfl)))))) (q1 (qr Vz)) Zd) (q1 (sI 2 M7.nd (cF Au hr (Zg (pv 2) Zx))))))) (q1 (qr Vz))))), ?_⟩;refine⟨_,rfl,(sz 1),fun v0 hv0=>?_⟩;have s1:Zw H (Yq H v0 (.lst [v])):=Zw.lay hv0;have fin:B2 100 t=lvl 100 [t]:=by rw[Zys];simp
 rw[fin]at q
 refine⟨fun j σ H2=>∃(ts:List Th) (lv:Addr) (ys:List V) (d:Int),σ=[some v,some (.int d),some (.ref lv)]/\d+j=100/\Zw H H2/\H2 lv=some (.lst ys)/\Zy K H2 ts ys/\yh ts/\Yd ts<=1000000/\lvl j ts=lvl 100 [t],
  ⟨100,[t],v0,[v],0,rfl,by decide,s1,Zz,Zy.one (Zb.up s1.upT _ _ ht),⟨gd,trivial⟩,by simp only[Yd];omega,rfl⟩, ?_⟩
 intro j σ H2 K0;refine Zc fun _ U1=>?_;obtain⟨ts,lv,ys,d,rfl,hd,s2,hlv,a2,g2,z2,e2⟩:=K0;refine U1 ?_;refine⟨_,rfl,_,.inl ⟨ys,Z0.of hlv,rfl⟩, ?_⟩;cases ys with
 | nil =>
  refine Z5 rfl ?_
  have ed:ts=[]:=by
   cases ts with
   | nil=>rfl
   | cons d' ds'=>obtain⟨_,_,e,_⟩:=a2;cases e
  subst ed;have e3:lvl j []=true:=by cases j<;>rfl
  rw[e3]at e2;rw[<-e2]at q;exact q H2 s2
 | cons y0 yr =>
  refine Yj rfl ?_
  have nd:ts.isEmpty=false:=by
   cases ts with
   | nil=>cases Zr a2
   | cons a b=>rfl
  refine⟨fun σ' H'=>∃j',j'<j/\∃(ts:List Th) (lv:Addr) (ys:List V) (d:Int),σ'=[some v,some (.int d),some (.ref lv)]/\d+j'=100/\Zw H H'/\H' lv=some (.lst ys)/\Zy K H' ts ys/\yh ts/\Yd ts<=1000000/\lvl j' ts=lvl 100 [t],fun σ' H' z=>z, ?_⟩;refine⟨_,rfl,_,_,rfl,rfl, ?_⟩;refine⟨_,rfl,_,_,rfl,rfl,_,rfl, ?_⟩;cases j with
  | zero =>
   refine Yj (Gq (by omega)) (Zu ?_);have e3:lvl 0 ts=false:=nd;rw[e3]at e2;rw[<-e2]at q;exact q H2 s2
  | succ j =>
   refine Z5 (My (by omega)) ?_;refine⟨_,rfl,lv,rfl,⟨_,Z0.of hlv⟩,fun D fp sx hD=>?_⟩;have lt:ts.length<=1000000:=Gw (Ce ts) z2;refine Lr (p:=Vx) (Z0.of hlv) a2 lt hD (fun t' v' H5 Q5 mt s5 i5 q5=>⟨_,rfl,v',t',rfl,i5,Yz.mp g2 t' mt,Gw (Fk mt) z2,q5⟩) fun H6 s6 h6=>⟨D,_,rfl,Z0.of h6,_,rfl, ?_⟩;have e4:(ts.map Vx).all id=ts.all Vx:=by rw[List.all_map];rfl
   have e5:lvl (j+1) ts=(ts.all Vx && lvl j (ts.flatMap Yc)):=by
    show (ts.isEmpty || _)=_;rw[nd];rfl
   rw[e4];cases Zkq:ts.all Vx with
   | false =>
    refine Yj rfl ?_;rw[e5,Zkq,Om]at e2;rw[<-e2]at q;exact q H6 (s2.trans s6)
   | true =>
    refine Z5 rfl ?_;refine⟨_,rfl,lv,ts,_,rfl,Z0.of (s6 _ _ hlv),Zy.up s6.upT _ _ a2,Zkq,z2,fun l zs H7 hl7 s7 h7 a7=>?_⟩;refine⟨j,Nat.lt_succ_self j,ts.flatMap Yc,l,zs,d+1,rfl,by omega,(s2.trans s6).trans s7,h7,a7, ?_,Gw (x9 ts) z2, ?_⟩
    ·refine Yz.mpr fun u mu=>?_;refine Zc fun _ Y5=>?_;obtain⟨t',m1,m2⟩:=List.mem_flatMap.mp mu;refine Y5 ?_;exact Zbp (Yz.mp g2 t' m1) u m2
    ·rw[e5,Zkq,O9]at e2;exact e2
abbrev Pb:Stmt:=top 54
abbrev Zjy:List Str:=["_law_feed_here","_law_thing","_law_some"]
theorem Wa:Zp Zjy ["_law_feed_here","_law_thing"] (Zv Pb):=by trivial
theorem Bx{x:Str}(h:(x.cps.toList.all fun c=>decide (gdC c))=true)(hl:x.length<=1000):Dr (.str x):=⟨fun c mc=>ph (Wv.mp h c mc),hl⟩
def C7(ts:List Th)(lo hi:Option Int):List Th:=(ts.drop (HT.Uo ts.length 0 lo)).take (HT.Uo ts.length ts.length hi - HT.Uo ts.length 0 lo)
theorem Zy.cut{K:W.Frag}{H:Hp}{ts:List Th}{vs:List V}(h:Zy K H ts vs)(lo hi:Option Int):Zy K H (C7 ts lo hi) (Dj vs lo hi):=by
 unfold C7 Dj;rw[<-h.length];exact(h.drop _).take _
theorem Zdq{K:W.Frag}{H:Hp}{ts:List Th}{vs:List V}(h:Zy K H ts vs){r:Int}(h0:0<=r)(h1:r<ts.length):∃u v,u∈ts/\Pz vs r=some v/\Zb K H u v:=by
 have hj:r.toNat<ts.length:=by omega
 obtain⟨v,e,i⟩:=h.get (Nn hj);refine⟨_,v,G0e hj, ?_,i⟩;have z:Pz vs ((r.toNat:Nat):Int)=some v:=V4 e;rw[show ((r.toNat:Nat):Int)=r by omega]at z;exact z
theorem qq{ts:List Th}{lo hi:Option Int}{t:Th}(m:t∈C7 ts lo hi):t∈ts:=List.mem_of_mem_drop (List.mem_of_mem_take m)
theorem Zzi(ts:List Th)(lo hi:Option Int):(C7 ts lo hi).length<=ts.length:=by
 unfold C7;rw[T1,List.length_drop];omega
theorem cut_to(ws:List V){k:Int}(h0:0<=k)(h1:k<ws.length):Dj ws none (some k)=ws.take k.toNat:=by
 unfold Dj
 have e:HT.Uo ws.length ws.length (some k)=k.toNat:=by
  show (if k<0 then (k+(ws.length:Int)).toNat else min k.toNat ws.length)=_;rw[if_neg (by omega)];omega
 rw[e,HT.Cf,List.drop_zero,Nat.sub_zero]
theorem Zka(ws:List V){k:Int}(h0:0<=k)(h1:k<ws.length):Dj ws (some (k+1)) none=ws.drop (k.toNat+1):=by
 unfold Dj
 have e:HT.Uo ws.length 0 (some (k+1))=k.toNat+1:=by
  show (if k+1<0 then (k+1+(ws.length:Int)).toNat else min (k+1).toNat ws.length)=_;rw[if_neg (by omega)];omega
 rw[e,HT.Cf,Xt];rw[List.length_drop];omega
structure Odd(t u:Th):Prop where
 gd:Dr u
 dp:Jn u<=Jn t+2
 wd:jw u<=jw t+1
 sz:U4 u<=2 * U4 t+3
theorem M9{t u:Th}(g:Dr u)(d:Jn u<=2)(w:jw u<=1)(z:U4 u<=3):Odd t u:=⟨g,by omega,by omega,by omega⟩
def Zyn:List Th:=[.non,.bl true,.bl false,.int 0,.int 1,.int 2,.int 999,.int 1000,.int (-1),.int ((10:Int) ^ (18:Int).toNat),.int ((10:Int) ^ (18:Int).toNat+1),.str "",.str "a",.str "A",.str "abcdefghi",.str "whole"]
def Zyc(t:Th):List Th:=[.str "text",.str "record",.str "row",.tup [],.opq,.opq,.tup [.str "truth"],.tup [.int 1],.tup [.str "a"],.tup [.tup []],.int 201,.int 21,.int 20,.int 200,t]
theorem Zyt{t:Th}(g:Dr t):∀u∈Zyn++Zyc t,Odd t u:=by
 intro u mu;have L:∀{x:Str},Dr (.str x)->Odd t (.str x):=fun g=>M9 g (by show 0<=2;decide) (by show 0<=1;decide) (by show 1<=3;decide);have T:∀{x:Str},Dr (.str x)->Odd t (.tup [.str x]):=fun g=>M9 ⟨g,trivial⟩ (by show 1<=2;decide) (by show 1<=1;decide) (by show 2<=3;decide);rcases T6.mp mu with mu | mu
 ·simp only[Zyn,G2,U6,or_false]at mu
  rcases mu with rfl | rfl | rfl | rfl | rfl | rfl | rfl | rfl | rfl | rfl | rfl | rfl | rfl | rfl | rfl | rfl<;>first
   | exact M9 trivial (by show 0<=2;decide) (by show 0<=1;decide) (by show 1<=3;decide)
   | exact L (Bx (by decide +kernel) (by decide +kernel))
 ·simp only[Zyc,G2,U6,or_false]at mu
  rcases mu with rfl | rfl | rfl | rfl | rfl | rfl | rfl | rfl | rfl | rfl | rfl | rfl | rfl | rfl | rfl<;>first
   | exact M9 trivial (by show 0<=2;decide) (by show 0<=1;decide) (by show 1<=3;decide)
   | exact L (Bx (by decide +kernel) (by decide +kernel))
   | exact T (Bx (by decide +kernel) (by decide +kernel))
   | exact M9 trivial (by decide) (by decide) (by decide)
   | exact M9 ⟨trivial,trivial⟩ (by decide) (by decide) (by decide)
   | exact⟨g,by omega,by omega,by omega⟩
abbrev wA:List V:=[.non,.bl true,.bl false,.int 0,.int 1,.int 2,.int 999,.int 1000,.int (-1),.int ((10:Int) ^ (18:Int).toNat),.int ((10:Int) ^ (18:Int).toNat+1),.str "",.str "a",.str "A",.str "abcdefghi",.str "whole"]
abbrev wB(e1 e2 e3 e4 e5 e6 e8:Addr)(v:V):List V:=[.str "text",.str "record",.str "row",.ref e1,.ref e2,.ref e3,.ref e4,.ref e5,.ref e6,.ref e8,.int 201,.int 21,.int 20,.int 200,v]
inductive Zfj(K:W.Frag)(vs:List V)(H:Hp)(Q:VK):Prop
 | mk(l:Addr)(v:V)(t:Th)(r:Nat)(Vg:vs=[.ref l,v])(Vk:Fd (r+1) H l)(V1:Zb K H t v)(Jk:Dr t)(Mn:∀x u H',Zb K H' u x->Odd t u->Ve l r H H'->Q x H')
def Zw1(K:W.Frag):Sp:=fun vs H Q _=>Zfj K vs H Q
theorem ok_odd(F:Fu K "_law_odd" Pb f fd)(m:Bn mg)(Zt:gD P w K mg base):Yn P w K mg base Je 2 f fd ["_law_feed_here","_law_thing"] (Zw1 K):=by
  refine F.ok Wa (fun vs H Q E h=>?_) fun _ A _ s H vs Q E hr h=>?_
  · obtain⟨l,v,t,r,rfl,_⟩:=h
    rfl
  obtain⟨l,v,t,r,rfl,fe,ht,gd,q⟩:=h;refine⟨_,(@Zf _ _ _ _ _ (@Dc _ 2 _ _ _ _ _ Wa.nd rfl (by trivial) (@Yt _ _ _ _ (@Zj _ _ _ _ _ Gd (@Zj _ _ _ _ _ Vz (@Zj _ _ _ _ _ Vz (@Zj _ _ _ _ _ Zq (@Zj _ _ _ _ _ Zq (@Zj _ _ _ _ _ Zq (@Zj _ _ _ _ _ Zq (@Zj _ _ _ _ _ Zq (@Zj _ _ _ _ _ (@Cm _ _ _ _ _ _ M4 Zq) (@Zj _ _ _ _ _ (@Di _ _ _ _ _ _ _ _ Bz Zq Zq) (@Zj _ _ _ _ _ (@Di _ _ _ _ _ _ _ _ Ju (@Di _ _ _ _ _ _ _ _ Bz Zq Zq) Zq) (@Zj _ _ _ _ _ Zm (@Zj _ _ _ _ _ Zm (@Zj _ _ _ _ _ Zm (@Zj _ _ _ _ _ Zm (@Zj _ _ _ _ _ Zm Zx rfl) rfl) rfl) rfl) rfl) rfl) rfl) rfl) rfl) rfl) rfl) rfl) rfl) rfl) rfl) rfl)) rfl (by trivial)) (@Zf _ _ _ _ _ (@Dc _ 2 _ _ _ _ _ Wa.nd rfl (by trivial) (@Di _ _ _ _ _ _ _ _ Zv9 (pv 2) (@Yt _ _ _ _ (@Zj _ _ _ _ _ Zm (@Zj _ _ _ _ _ Zm (@Zj _ _ _ _ _ Zm (@Zj _ _ _ _ _ (@Ya _ _ _ _ _ Zx) (@Zj _ _ _ _ _ (@Yt _ _ _ _ Zx) (@Zj _ _ _ _ _ (@Ex _ _) (@Zj _ _ _ _ _ (@Ya _ _ _ _ _ (@Zj _ _ _ _ _ Zm Zx rfl)) (@Zj _ _ _ _ _ (@Ya _ _ _ _ _ (@Zj _ _ _ _ _ Zq Zx rfl)) (@Zj _ _ _ _ _ (@Ya _ _ _ _ _ (@Zj _ _ _ _ _ Zm Zx rfl)) (@Zj _ _ _ _ _ (@Ya _ _ _ _ _ (@Zj _ _ _ _ _ (@Ya _ _ _ _ _ Zx) Zx rfl)) (@Zj _ _ _ _ _ Zq (@Zj _ _ _ _ _ Zq (@Zj _ _ _ _ _ Zq (@Zj _ _ _ _ _ Zq (@Zj _ _ _ _ _ (pv 1) Zx rfl) rfl) rfl) rfl) rfl) rfl) rfl) rfl) rfl) rfl) rfl) rfl) rfl) rfl) rfl))) rfl (by trivial)) (q1 (qr (iX Z2 (pv 2) (cF Zt hr (Zg (pv 0) (Zg (cB Zn m.len Vv (Zg (pv 2) Zx)) Zx)))))))), ?_⟩;have pw:Zjt 10 18:=⟨by decide,by decide,by decide⟩;refine⟨_,rfl,_,_,rfl,rfl,pw,_,_,rfl,rfl,pw,_,_,rfl,rfl,(sz 16),fun p1 h1=>?_⟩;refine⟨_,rfl,(sz 0),fun e1 g1=>⟨(sz 0),fun e2 g2=>fun e3 g3=>⟨(sz 1),fun e4 g4=>⟨(sz 1),fun e5 g5=>⟨(sz 1),fun e6 g6=>⟨(sz 0),fun e7 g7=>⟨(sz 1),fun e8 g8=>⟨_,rfl,(sz 15),fun p2 h2=>?_⟩⟩⟩⟩⟩⟩⟩⟩;have s1:=Zw.lay (o:=.lst wA) h1;have u1:=Zw.lay (o:=.tup []) g1;have u2:=Zw.lay (o:=.lst []) g2;have u3:=Zw.lay (o:=.dK []) g3;have u4:=Zw.lay (o:=.tup [.str "truth"]) g4;have u5:=Zw.lay (o:=.tup [.int 1]) g5;have u6:=Zw.lay (o:=.tup [.str "a"]) g6;have u7:=Zw.lay (o:=.tup []) g7;have u8:=Zw.lay (o:=.tup [.ref e7]) g8;have u9:=Zw.lay (o:=.lst (wB e1 e2 e3 e4 e5 e6 e8 v)) h2;have v8:=u8.trans u9;have v7:=u7.trans v8;have v6:=u6.trans v7;have v5:=u5.trans v6;have v4:=u4.trans v5;have v3:=u3.trans v4;have v2:=u2.trans v3;have v1:=u1.trans v2;refine⟨p1,p2,_,_,rfl,rfl,v1 _ _ Zz,Zz,(sz 31),fun p3 h3=>?_⟩;have z:=Zw.lay (o:=.lst (wA++wB e1 e2 e3 e4 e5 e6 e8 v)) h3;have sA:=s1.trans (v1.trans z)
  have all:Zy K _ (Zyn++Zyc t) (wA++wB e1 e2 e3 e4 e5 e6 e8 v) :=
    ⟨_,_,rfl,rfl,_,_,rfl,rfl,_,_,rfl,rfl,_,_,rfl,rfl,_,_,rfl,rfl,_,_,rfl,rfl,_,_,rfl,rfl,_,_,rfl,rfl,_,_,rfl,rfl,_,_,rfl,rfl,_,_,rfl,rfl,_,_,rfl,rfl,_,_,rfl,rfl,_,_,rfl,rfl,_,_,rfl,rfl,_,_,rfl,rfl,
     _,_,rfl,rfl,_,_,rfl,rfl,_,_,rfl,rfl,_,_,rfl,⟨e1,_,rfl,(v2.trans z).up _ _ (Yv.of Zz),rfl⟩,_,_,rfl,⟨e2,rfl,.inl ⟨[],(v3.trans z) _ _ Zz⟩⟩,_,_,rfl,⟨e3,rfl,.inr ⟨[],(v4.trans z) _ _ Zz⟩⟩,
     _,_,rfl,⟨e4,_,rfl,(v5.trans z).up _ _ (Yv.of Zz),Zy.one rfl⟩,_,_,rfl,⟨e5,_,rfl,(v6.trans z).up _ _ (Yv.of Zz),Zy.one rfl⟩,_,_,rfl,⟨e6,_,rfl,(v7.trans z).up _ _ (Yv.of Zz),Zy.one rfl⟩,
     _,_,rfl,⟨e8,_,rfl,(u9.trans z).up _ _ (Yv.of Zz),Zy.one ⟨e7,_,rfl,(v8.trans z).up _ _ (Yv.of Zz),rfl⟩⟩,_,_,rfl,rfl,_,_,rfl,rfl,_,_,rfl,rfl,_,_,rfl,rfl,_,_,rfl,Zb.up sA.upT _ _ ht,rfl⟩
  have fA:=fe.same sA;refine⟨_,rfl,_,rfl,_,rfl,p3,_,rfl,.inl (Z0.of Zz),l,31,r,rfl,fA,by decide,by decide,fun x HZ a b tZ=>?_⟩;obtain⟨u,vu,mu,ev,iu⟩:=Zdq all a b;have nL:p3≠l:=(fe.same (s1.trans v1)).ne h3;refine⟨p3,_,_,_,rfl,rfl,Z0.of (tZ.keep _ _ nL Zz),ev, ?_⟩;exact q vu u HZ (Zb.up (tZ.upT fA) _ _ iu) (Zyt gd u mu) (((Ve.refl fe).same sA).trans tZ)
abbrev W2:Stmt:=top 55
abbrev uk:List Str:=["_law_feed_here","_law_thing","_law_some","_law_k"]
theorem Cj:Zp uk ["_law_feed_here","_law_thing"] (Zv W2):=by trivial
theorem El{t:Th}(h:Gn "tuple" t=true):∃ts,t=.tup ts:=by
 cases t with
 | tup ts=>exact⟨ts,rfl⟩
 | bl _=>cases h
 | _=>cases h
theorem nf{b:Bool}(h:¬ b=true):b=false:=by cases b<;>simp_all
def six(ts:List Th):List Th:=[.opq,.tup (ts++C7 ts (some (-1)) none),.tup (C7 ts (some 1) none),.tup ts.reverse,.tup (C7 ts none (some (-1))),.tup (ts++[.tup []])]
theorem Ew{ts us:List Th}(g:Dr (.tup ts))(h1:∀t∈us,t∈ts)(h3:us.length<=ts.length+1)(h4:Yd us<=2 * Yd ts):Odd (.tup ts) (.tup us):=by
 have d:Mr us<=Mr ts:=Qn fun t m=>Ds (h1 t m);have w:R7 us<=R7 ts:=Fj fun t m=>Rm (h1 t m);refine⟨Yz.mpr fun t m=>Yz.mp g t (h1 t m), ?_, ?_, ?_⟩
 ·simp only[Jn];omega
 ·simp only[jw];omega
 ·simp only[U4];omega
theorem Cz:∀{us ts:List Th},us.Sublist ts->Yd us<=Yd ts
 | _,_,.slnil=>Vj _
 | _,_,.cons a h=>by have:=Cz h;simp only[Yd];omega
 | _,_,.cons_cons a h=>by have:=Cz h;simp only[Yd];omega
theorem jm:∀ts:List Th,Yd ts.reverse=Yd ts
 | []=>rfl
 | t::ts=>by rw[List.reverse_cons,V7,jm ts];simp only[Yd];omega
theorem qx(ts:List Th)(lo hi:Option Int):(C7 ts lo hi).Sublist ts:=(List.take_sublist _ _).trans (List.drop_sublist _ _)
theorem Zku(ts:List Th):(C7 ts (some (-1)) none).length<=1:=by
 unfold C7
 have e:HT.Uo ts.length 0 (some (-1))=ts.length - 1:=by
  show (if (-1:Int)<0 then ((-1:Int)+(ts.length:Int)).toNat else min (-1:Int).toNat ts.length)=_;rw[if_pos (by decide)];omega
 rw[e,T1,List.length_drop];omega
theorem Zfd{ts:List Th}(g:Dr (.tup ts)):∀u∈six ts,Odd (.tup ts) u:=by
 intro u mu;have l1:=Zku ts;have l2:=Zzi ts (some 1) none;have l3:=Zzi ts none (some (-1));simp only[six,G2,U6,or_false]at mu;rcases mu with rfl | rfl | rfl | rfl | rfl | rfl
 ·exact M9 trivial (by decide) (by decide) (by decide)
 ·exact Ew g (fun t m=>(T6.mp m).elim id qq) (by rw[Xs];omega) (by rw[V7];have:=Cz (qx ts (some (-1)) none);omega)
 ·exact Ew g (fun t m=>qq m) (by omega) (by have:=Cz (qx ts (some 1) none);omega)
 ·exact Ew g (fun t m=>List.mem_reverse.mp m) (by rw[List.length_reverse];omega) (by rw[jm];omega)
 ·exact Ew g (fun t m=>qq m) (by omega) (by have:=Cz (qx ts none (some (-1)));omega)
 ·refine⟨Yz.mpr fun t m=>?_, ?_, ?_, ?_⟩
  ·rcases T6.mp m with m | m
   ·exact Yz.mp g t m
   ·rw[N6.mp m];trivial
  ·have:Mr (ts++[.tup []])<=Mr ts+1:=Qn fun t m=>by
    rcases T6.mp m with m | m
    ·exact Nat.le_succ_of_le (Ds m)
    ·rw[N6.mp m];show 1<=_;omega
   simp only[Jn];omega
  ·have:R7 (ts++[.tup []])<=R7 ts:=Fj fun t m=>by
    rcases T6.mp m with m | m
    ·exact Rm m
    ·rw[N6.mp m];exact Wl _
   simp only[jw,Xs,List.length_singleton];omega
  ·simp only[U4,V7,Yd];omega
def X2(K:W.Frag):Nat->Sp
 | 0=>fun _ _ _ _=>False
 | n+1=>fun vs H Q _=>∃(l:Addr) (v:V) (t:Th) (r:Nat),vs=[.ref l,v]/\Fd (r+3 * n+3) H l/\Zb K H t v/\Dr t/\Jn t<=n/\jw t<=60/\∀x u H',Zb K H' u x->Odd t u->Ve l r H H'->Q x H'
theorem ia(F:Fu K "_law_bent" W2 f fd)(m:Bn mg)(bd:G5 K fd ["_law_feed_here","_law_thing"] [])(mf:mg "_law_bent" = some (.ref f))(Zt:gD P w K mg base)
  (Xj:Fn P w K mg base 2 "_law_odd" ["_law_feed_here","_law_thing"] (Zw1 K)) :
  ∀n,Yn P w K mg base Je (n+3) f fd ["_law_feed_here","_law_thing"] (X2 K n)
 | 0=>⟨fun vs H Q E h=>h.elim,fun A outer s H args us vs Q E _ _ _ _ h=>h.elim⟩
 | n+1=>by
  have Tw:Fn P w K mg base (n+3) "_law_bent" ["_law_feed_here","_law_thing"] (X2 K n):=⟨f,fd,ia F m bd mf Zt Xj n,bd,F.kp,mf⟩;refine F.ok Cj (fun vs H Q E h=>?_) fun _ A outer s H vs Q E hr h=>?_
  ·obtain⟨l,v,t,r,rfl,_⟩:=h
   rfl
  obtain⟨l,v,t,r,rfl,fe,ht,gd,dp,wd,q⟩:=h;refine⟨_,(@Zf _ _ _ _ _ (@J3 _ _ _ _ _ _ _ _ (qp (qO (qn (Yg (cB Ze m.isinstance Zh (Zg (pv 1) (Zg (Yy rfl m.tuple Yr (by decide) (by decide)) Zx))) (by intro _;rfl))) (qO (tQ Io (pv 1) (qt Zx)) (qQ (tQ Ym (cF Zt hr (Zg (pv 0) (Zg Zq Zx))) Zq))))) (@Zf _ _ _ _ _ (@J3 _ _ _ _ _ _ _ _ (qp (@pw_and _ _ _ _ _ _ _ (Yg (cB Ze m.isinstance Zh (Zg (pv 1) (Zg (Yy rfl m.tuple Yr (by decide) (by decide)) Zx))) (by intro _;rfl)) (@pw_and1 _ _ _ _ (tQ Ym (cF Zt hr (Zg (pv 0) (Zg Zq Zx))) Zq)))) (@Zf _ _ _ _ _ (@Dc _ 2 _ _ _ _ _ Cj.nd rfl (by trivial) (@Yt _ _ _ _ (@Zj _ _ _ _ _ (@Ui _ _ _ _ _ _ _ _ _ Ms rfl m.list qg (@Zj _ _ _ _ _ (pv 1) Zx rfl) (by trivial) (by trivial) (by trivial) (by trivial)) (@Zj _ _ _ _ _ (@Di _ _ _ _ _ _ _ _ F4 (pv 1) (@Uy _ _ _ _ _ _ _ _ _ _ B6 (pv 1) (@U7 _ _ _ (@Cm _ _ _ _ _ _ M4 Zq)) (@U8 _))) (@Zj _ _ _ _ _ (@Uy _ _ _ _ _ _ _ _ _ _ B6 (pv 1) (@U7 _ _ _ Zq) (@U8 _)) (@Zj _ _ _ _ _ (@Zf4 _ _ _ _ _ _ _ _ (pv 1) (@Cm _ _ _ _ _ _ M4 Zq)) (@Zj _ _ _ _ _ (@Uy _ _ _ _ _ _ _ _ _ _ B6 (pv 1) (@U8 _) (@U7 _ _ _ (@Cm _ _ _ _ _ _ M4 Zq))) (@Zj _ _ _ _ _ (@Di _ _ _ _ _ _ _ _ F4 (pv 1) (@Ya _ _ _ _ _ (@Zj _ _ _ _ _ (@Ya _ _ _ _ _ Zx) Zx rfl))) Zx rfl) rfl) rfl) rfl) rfl) rfl)) rfl (by trivial)) (q1 (qr (iX Z2 (pv 2) (cF Zt hr (Zg (pv 0) (Zg Zq Zx))))))) Zd) (q1 (qr (cF Xj hr (Zg (pv 0) (Zg (pv 1) Zx)))))) Zd) (qs (sI 3 Cj.nd (cF Zt hr (Zg (pv 0) (Zg (cB Zn m.len Vv (Zg (pv 1) Zx)) Zx)))) (q1 (qr (qo F4 (qo F4 (@Uy _ _ _ _ _ _ _ _ _ _ B6 (pv 1) (@U8 _) (@U7 _ _ _ (pv 3))) (qt (Zg (cF Tw hr (Zg (pv 0) (Zg (iX Zk (pv 1) (pv 3)) Zx))) Zx))) (@Uy _ _ _ _ _ _ _ _ _ _ B6 (pv 1) (@U7 _ _ _ (qo Ju (pv 3) Zq)) (@U8 _))))))), ?_⟩;have hu:=Ur.units0 hr;refine⟨_,rfl,_,_,t,rfl,ht,(by simp),_,rfl, ?_⟩;by_cases htup:Gn "tuple" t=true
  ·obtain⟨ts,rfl⟩:=El htup;obtain⟨p,ws,rfl,hp,at'⟩:=ht;have hl:=at'.length;have lt:ws.length<=60:=by simp only[jw]at wd;omega
   refine Y6 ⟨_,rfl,(sz 0),fun e0 h0=>?_⟩;have s0:=Zw.lay (o:=.tup []) h0;refine⟨p,e0,ws,rfl,rfl,s0.up _ _ hp,Yv.of Zz,hu,_,rfl, ?_⟩;have t0:Ve l (r+3 * n+3) H _:=(Ve.refl fe).same s0;cases hws:ws.isEmpty
   case' true=>(refine Zu (Zu ?_);have t1:Ve l (r+3 * n+1+1) H _:=t0.m;have fb:=(t1.up (K:=K) fe) _ _ hp;have Jy:=Zy.up (t1.upT fe) _ _ at')
   case' false=>(refine Y6 ⟨_,rfl,l,5,r+3 * n+2,rfl,t0.feed,by decide,by decide,fun ra H1 a0 a1 ta=>?_⟩;have t1:Ve l (r+3 * n+1+1) H H1:=t0.trans ta;have fb:=(t1.up (K:=K) fe) _ _ hp;have Jy:=Zy.up (t1.upT fe) _ _ at';refine⟨rfl,_,rfl, ?_⟩;refine Vw (fun ca=>?_) (fun ca=>?_))
   rotate_left
   ·refine⟨_,rfl,_,rfl,p,ws,rfl,.inr fb,l,_,r+3 * n+1,rfl,t1.feed, ?_, ?_,fun k H2 k0 k1 t2=>?_⟩
    ·have:ws≠[]:=fun z=>by rw[z]at hws;cases hws
     have:=List.length_pos_iff.mpr this;omega
    ·omega
    have fj:=t1.trans t2;have Az:=(fj.up (K:=K) fe) _ _ hp;have Oz:=Zy.up (fj.upT fe) _ _ at';refine⟨_,rfl,_,rfl,_,rfl,p,ws,rfl,Az,fun q1 H3 s3 hq1=>?_⟩;rw[cut_to ws k0 k1]at hq1;have He:=s3.up (K:=K) _ _ Az;have at3:=Zy.up s3.upT _ _ Oz;have bp:=fj.same s3;have kn:k.toNat<ts.length:=by rw[hl];omega
    obtain⟨vk,ek0,ik⟩:=at3.get (Nn kn);have mk:ts[k.toNat]∈ts:=G0e kn
    have ek:Pz ws k=some vk:=by
     have z:Pz ws ((k.toNat:Nat):Int)=some vk:=V4 ek0;rw[show ((k.toNat:Nat):Int)=k by omega]at z;exact z
    generalize etk:ts[k.toNat]=tk at ik mk;have etk:=etk.symm;have dk':Jn tk<=Mr ts:=Ds mk;have wk:jw tk<=R7 ts:=Rm mk;obtain⟨n',rfl⟩:∃n',n=n'+1:=⟨n - 1,by simp only[Jn]at dp;omega⟩;refine⟨_,rfl,_,rfl,_,rfl,p,_,_,_,rfl,rfl,He,ek,l,vk,tk,r,rfl,bp.feed.m,ik,Yz.mp gd tk mk, ?_, ?_,fun x u H4 ir ou t4=>?_⟩
    ·simp only[Jn]at dp;omega
    ·simp only[jw]at wd;omega
    refine⟨(sz 1),fun p5 h5=>?_⟩;have s5:=Zw.lay (o:=.tup [x]) h5;have lw:(ws.take k.toNat).length+1<=1000:=by rw[T1];omega
    refine⟨q1,p5,_,_,rfl,rfl,s5.up _ _ ((t4.up bp.feed) _ _ hq1),Yv.of Zz,Gw lw (by decide),fun p6 H6 s6 h6=>?_⟩;have t06:=(bp.trans t4).same (s5.trans s6);have hp6:=(t06.up (K:=K) fe) _ _ hp;refine⟨_,rfl,_,rfl,_,_,rfl,rfl,_,rfl,p,ws,rfl,hp6,fun q7 H7 s7 hq7=>?_⟩;rw[Zka ws k0 k1]at hq7;have lw2:(ws.take k.toNat++[x]).length+(ws.drop (k.toNat+1)).length<=1000:=by rw[Xs,T1,List.length_drop,List.length_singleton];omega
    refine⟨p6,q7,_,_,rfl,rfl,s7.up _ _ h6,hq7,Gw lw2 (by decide),fun p8 H8 s8 h8=>?_⟩;have t08:=t06.same (s7.trans s8);have at8:=Zy.up (t08.upT fe) _ _ at';have iu8:=Zb.up (((s5.trans s6).trans (s7.trans s8)).upT) _ _ ir;refine q (.ref p8) (.tup (ts.take k.toNat++[u]++ts.drop (k.toNat+1))) H8 ⟨p8,_,rfl,h8,Zy.append (Zy.append (at8.take _) (Zy.one iu8)) (at8.drop _)⟩ ⟨Yz.mpr fun y my=>?_, ?_, ?_, ?_⟩ t08
    ·rcases T6.mp my with my | my
     ·rcases T6.mp my with my | my
      ·exact Yz.mp gd y (List.mem_of_mem_take my)
      ·rw[N6.mp my];exact ou.gd
     ·exact Yz.mp gd y (List.mem_of_mem_drop my)
    ·have du:=ou.dp
     have:Mr (ts.take k.toNat++[u]++ts.drop (k.toNat+1))<=Mr ts+2:=Qn fun y my=>by
      rcases T6.mp my with my | my
      ·rcases T6.mp my with my | my
       ·have:=Ds (List.mem_of_mem_take my);omega
       ·rw[N6.mp my];omega
      ·have:=Ds (List.mem_of_mem_drop my);omega
     simp only[Jn];omega
    ·have wu:=ou.wd
     have h1:R7 (ts.take k.toNat++[u]++ts.drop (k.toNat+1))<=R7 ts+1:=Fj fun y my=>by
      rcases T6.mp my with my | my
      ·rcases T6.mp my with my | my
       ·have:=Rm (List.mem_of_mem_take my);omega
       ·rw[N6.mp my];omega
      ·have:=Rm (List.mem_of_mem_drop my);omega
     have h2:(ts.take k.toNat++[u]++ts.drop (k.toNat+1)).length=ts.length:=by
      rw[Xs,Xs,T1,List.length_drop,List.length_singleton];omega
     simp only[jw,h2];omega
    ·have zu:=ou.sz
     have zk:U4 tk+Yd (ts.take k.toNat)+Yd (ts.drop (k.toNat+1))=Yd ts:=by
      have e:ts.take k.toNat++tk::ts.drop (k.toNat+1)=ts:=by
       rw[etk, <-List.drop_eq_getElem_cons kn,List.take_append_drop]
      have:=congrArg Yd e;rw[V7]at this;simp only[Yd]at this;omega
     simp only[U4,V7,Yd];omega
   all_goals
    refine⟨_,rfl,_,_,.tup ts,rfl,⟨p,ws,rfl,fb,Jy⟩,(by simp),_,rfl,Zu ?_⟩;refine⟨_,rfl,l,2,r+3 * n+1,rfl,t1.feed,by decide,by decide,fun rb H2 b0 b1 t2=>?_⟩;have fj:=t1.trans t2;have Az:=(fj.up (K:=K) fe) _ _ hp;have Oz:=Zy.up (fj.upT fe) _ _ at';refine⟨rfl,_,rfl, ?_⟩;refine Vw (fun cb=>?_) (fun cb=>?_)
    ·refine⟨_,rfl,p,ws,rfl,.inr Az,fun l1 h1=>?_⟩;have s1:=Zw.lay (o:=.lst ws) h1;refine⟨_,rfl,_,rfl,_,rfl,_,rfl,p,ws,rfl,s1.up _ _ Az,fun q3 H3 s3 hq3=>?_⟩;refine⟨p,q3,ws,_,rfl,rfl,(s1.trans s3).up _ _ Az,hq3, ?_,fun r3 H4 s4 hr3=>?_⟩
     ·have:=C6 ws (some (-1)) none;exact Gw (show ws.length+(Dj ws (some (-1)) none).length<=1000 by omega) (by decide)
     have a4:=(s1.trans s3).trans s4;refine⟨_,rfl,_,rfl,p,ws,rfl,a4.up _ _ Az,fun q5 H5 s5 hq5=>?_⟩;have a5:=a4.trans s5;refine⟨_,rfl,p,ws,rfl,a5.up _ _ Az,fun p6 h6=>?_⟩;have s6:=Zw.lay (o:=.tup ws.reverse) h6;have a6:=a5.trans s6;refine⟨_,rfl,_,rfl,_,rfl,p,ws,rfl,a6.up _ _ Az,fun q7 H7 s7 hq7=>?_⟩;have a7:=a6.trans s7;refine⟨_,rfl,(sz 0),fun e8 h8=>⟨(sz 1),fun e9 h9=>?_⟩⟩;have s8:=Zw.lay (o:=.tup []) h8;have s9:=Zw.lay (o:=.tup [.ref e8]) h9;have a9:=a7.trans (s8.trans s9);refine⟨p,e9,ws,_,rfl,rfl,a9.up _ _ Az,Yv.of Zz, ?_,fun r10 H10 W7 hr10=>?_⟩
     ·exact Gw (show ws.length+1<=1000 by omega) (by decide)
     refine⟨(sz 6),fun L hL=>?_⟩;have s11:=Zw.lay (o:=.lst [.ref l1,.ref r3,.ref q5,.ref p6,.ref q7,.ref r10]) hL;have c10:=W7.trans s11;have c9:=s9.trans c10;have c8:=s8.trans c9;have c7:=s7.trans c8;have c6:=s6.trans c7;have c5:=s5.trans c6;have c4:=s4.trans c5;have c3:=s3.trans c4;have tL:=fj.same (s1.trans c3);have atL:=Zy.up (tL.upT fe) _ _ at'
     have all:Zy K _ (six ts) [.ref l1,.ref r3,.ref q5,.ref p6,.ref q7,.ref r10] :=
      ⟨_,_,rfl,⟨l1,rfl,.inl ⟨ws,c3 _ _ Zz⟩⟩,_,_,rfl,⟨r3,_,rfl,c5.up _ _ hr3,Zy.append atL (Zy.cut atL (some (-1)) none)⟩,_,_,rfl,⟨q5,_,rfl,c6.up _ _ hq5,Zy.cut atL (some 1) none⟩,
       _,_,rfl,⟨p6,_,rfl,c7.up _ _ (Yv.of Zz),atL.reverse⟩,_,_,rfl,⟨q7,_,rfl,c8.up _ _ hq7,Zy.cut atL none (some (-1))⟩,
       _,_,rfl,⟨r10,_,rfl,s11.up _ _ hr10,Zy.append atL (Zy.one ⟨e8,_,rfl,c9.up _ _ (Yv.of Zz),rfl⟩)⟩,rfl⟩
     refine⟨_,rfl,_,rfl,l,6,r+3 * n,rfl,tL.feed,by decide,by decide,fun x HZ a b tZ=>?_⟩;obtain⟨u,vu,mu,ev,iu⟩:=Zdq all a b;have nL:L≠l:=(fj.same (s1.trans (s3.trans (s4.trans (s5.trans (s6.trans (s7.trans (s8.trans (s9.trans W7))))))))).feed.ne hL;refine⟨L,_,_,_,rfl,rfl,Z0.of (tZ.keep _ _ nL Zz),ev, ?_⟩;exact q vu u HZ (Zb.up (tZ.upT tL.feed) _ _ iu) (Zfd gd u mu) ((tL.trans tZ).m)
    ·refine⟨_,rfl,_,rfl,l,.ref p,.tup ts,r+3 * n,rfl,fj.feed,⟨p,ws,rfl,Az,Oz⟩,gd,fun x u H3 iu ou t3=>?_⟩;exact q x u H3 iu ou ((fj.trans t3).m)
  ·have hno:Gn "tuple" t=false:=by simpa using htup
   refine Yj (by rw[hno];rfl) (Zu ?_);refine⟨_,rfl,_,_,t,rfl,ht,(by simp),_,rfl,Z5 hno ?_⟩;exact⟨_,rfl,_,rfl,l,v,t,r+3 * n+2,rfl,fe,ht,gd,fun x u H3 iu ou t3=>q x u H3 iu ou (t3.m)⟩
abbrev Cv:Stmt:=top 40
abbrev gk:List Str:=["_law_thing","_law_low","_law_high"]
theorem X7:Zp gk ["_law_thing","_law_low","_law_high"] (Zv Cv):=by trivial
abbrev Dt:Stmt:=top 39
abbrev Wn:List Str:=["_law_thing"]
theorem Ee:Zp Wn ["_law_thing"] (Zv Dt):=by trivial
abbrev Df:Stmt:=top 41
abbrev Wc:List Str:=["_law_thing","_law_most"]
theorem Ei:Zp Wc ["_law_thing","_law_most"] (Zv Df):=by trivial
abbrev B8:Stmt:=top 42
abbrev Hl:List Str:=["_law_some"]
theorem jh:Zp Hl ["_law_some"] (Zv B8):=by trivial
abbrev V5:Stmt:=top 57
abbrev Jr:List Str:=["_law_thing","_law_numbers_here","_law_firsts"]
theorem Bh:Zp Jr ["_law_thing","_law_numbers_here"] (Zv V5):=by trivial
def Sz(ts:List Th):List Bool:=List.zipWith Mq ts (ts.drop 1)
theorem jg(ts:List Th):(Sz ts).length=ts.length - 1:=by
 unfold Sz;rw[ud,List.length_drop];omega
theorem Zww(ts:List Th){i:Nat}{a b:Th}(ha:ts[i]?=some a)(hb:ts[i+1]?=some b):(Sz ts)[i]?=some (Mq a b):=by
 unfold Sz;rw[List.getElem?_zipWith,List.getElem?_drop,Nat.add_comm 1 i,ha,hb]
theorem atV{ws:List V}{i:Nat}{v:V}(h:ws[i]?=some v):Pz ws (i:Int)=some v:=V4 h
theorem gd_le{c:Nat}(h:gdC c):(!decide ((⟨#[c]⟩:Str).cps.toList<(" " : Str).cps.toList))=true/\(!decide (("~" : Str).cps.toList<(⟨#[c]⟩:Str).cps.toList))=true:=by
 have e1:(" " : Str).cps.toList=[32]:=by decide +kernel
 have e2:("~" : Str).cps.toList=[126]:=by decide +kernel
 rw[e1,e2];obtain⟨a,b,_⟩:=h;constructor
 ·have:¬ ([c]:List Nat) < [32]:=fun z=>by
   rcases List.cons_lt_cons_iff.mp z with z | ⟨_,z⟩
   ·omega
   ·cases z
  simpa using this
 ·have:¬ ([126]:List Nat) < [c]:=fun z=>by
   rcases List.cons_lt_cons_iff.mp z with z | ⟨_,z⟩
   ·omega
   ·cases z
  simpa using this
inductive ml(K:W.Frag)(vs:List V)(H:Hp)(Q:VK):Prop
 | mk(v t b)(Vg:vs=[v,.bl b])(Vk:Zb K H t v)(V1:Dr t)(Jk:U4 t<=1000000)(Mn:∀H',Zw H H'->Q (.bl (Z7 t && Z8 (!b) ((Za t).map Z6))) H')
def Ep(K:W.Frag):Sp:=fun vs H Q _=>ml K vs H Q
theorem zr(F:Fu K "_law_whole" Cv f fd)(m:Bn mg):Yn P w K mg base Je 1 f fd ["_law_thing","_law_low","_law_high"] (Nh K):=by
 refine F.ok X7 (fun vs H Q E h=>?_) fun _ A _ s H vs Q E hr h=>?_
 ·obtain⟨v,t,lo,hi,rfl,_⟩:=h
  rfl
 obtain⟨v,t,lo,hi,rfl,ht,q⟩:=h;refine⟨_,(@Yx _ _ _ (qr (qa (cB Ze m.isinstance Zh (Zg (pv 0) (Zg (Yy rfl m.int kc (by decide) (by decide)) Zx))) (qa (@zb _ _ _ _ (cB Ze m.isinstance Zh (Zg (pv 0) (Zg (Yy rfl m.bool qb (by decide) (by decide)) Zx)))) (qe (@Kx _ _ _ _ _ _ _ _ _ _ _ _ Wy Wy (pv 1) (pv 0) (pv 2) (by trivial))))))), ?_⟩;refine⟨_,rfl,_,_,t,rfl,ht,(by simp),_,rfl, ?_⟩;cases t with
 | int i =>
  cases Zr ht;refine Zu ⟨_,rfl,_,_,.int i,rfl,ht,(by simp),_,rfl,_,rfl,Zu ?_⟩;refine⟨_,rfl,_,rfl,_,_,rfl,rfl,_,rfl, ?_⟩;refine Vw (fun c=>?_) (fun c=>?_)
  ·refine⟨_,rfl,_,_,rfl,rfl, ?_⟩;have e:Z4 lo hi (.int i)=decide (i<=hi):=by simp only[Z4,c,O9]
   rw[e]at q;exact q
  ·have e:Z4 lo hi (.int i)=false:=by simp only[Z4,Bool.not_eq_true _ ▸ c,Om]
   rw[e]at q;exact q
 | bl b=>exact Zu ⟨_,rfl,_,_,.bl b,rfl,ht,(by simp),_,rfl,_,rfl,Y6 q⟩
 | non=>exact Y6 q
 | str x=>exact Y6 q
 | tup ts=>exact Y6 q
 | opq=>exact Y6 q
theorem Kd(F:Fu K "_law_is_name" Dt f fd)(m:Bn mg):Yn P w K mg base Je 1 f fd ["_law_thing"] (Im K true):=by
 refine F.ok Ee (fun vs H Q E h=>?_) fun _ A _ s H vs Q E hr h=>?_
 ·obtain⟨v,t,rfl,_⟩:=h
  rfl
 obtain⟨v,t,rfl,ht,gd,q⟩:=h;refine⟨_,(@Zf _ _ _ _ _ (qi (qp (qO (qn (Yg (cB Ze m.isinstance Zh (Zg (pv 0) (Zg (Yy rfl m.str Xm (by decide) (by decide)) Zx))) (by intro _;rfl))) (qQ (qn (@j7 _ _ _ _ _ _ _ _ _ _ _ _ Wy Wy Zq (cB Mh m.len Vv (Zg (pv 0) Zx)) Zq (by trivial)))))) (q1 (qr Vz)) Zd) (q1 (qr (cB (Ye rfl) m.all G3 (Zg (pC Wn (Zv Dt) ["_law_sign"] [none] (@zg _ _ _ _ (pv 0)) (fun _ _ _=>(nI 0)) (fun _ _ _=>Z1) (fun _ _ _=>(Ru Pc (pv 0) Zm rfl))) Zx))))), ?_⟩;refine⟨_,rfl,_,_,t,rfl,ht,(by simp),_,rfl, ?_⟩;cases t with
 | str x =>
  cases Zr ht;refine Y6 ⟨_,rfl,x,rfl,Gw gd.2 (by decide),_,_,rfl,rfl,_,rfl, ?_⟩;refine Vw (fun c1=>?_) (fun c1=>?_)
  ·refine⟨_,_,rfl,rfl,_,rfl, ?_⟩;by_cases c2:(x.length:Int)<=8
   ·refine Z5 (by rw[Gq c2];rfl) ?_;refine⟨_,rfl,x,rfl,fun D fp sx hD=>?_⟩;refine Ri (p:=fun ch=>B4 ch LET) (Gw gd.2 (by decide)) hD (fun ch H5 Q5 mc s5 q5=>⟨_,rfl,_,_,rfl,rfl,q5 H5 (Zw.refl H5)⟩) fun H6 s6 h6=>⟨D,_,rfl,Z0.of h6, ?_⟩
    have e:Jb true (.str x)=(x.cps.toList.map fun ch=>B4 ch LET).all id:=by
     have a1:(1:Int)<=x.length:=ph c1;show (decide (1<=x.length) && decide (x.length<=8) && x.cps.toList.all inL)=_;rw[Gq (show 1<=x.length by omega),Gq (show x.length<=8 by omega),List.all_map]
     rfl
    rw[<-e];exact q H6 s6
   ·refine Yj (by rw[My c2];rfl) ?_
    have e:Jb true (.str x)=false:=by
     show (decide (1<=x.length) && decide (x.length<=8) && x.cps.toList.all inL)=_;rw[My (show ¬ x.length<=8 by omega),Bool.and_false,Om]
    rw[<-e];exact q H (Zw.refl H)
  ·refine⟨_,rfl,Zu ?_⟩
   have e:Jb true (.str x)=false:=by
    have a1:¬ (1:Int)<=x.length:=fun z=>c1 (Gq z);show (decide (1<=x.length) && decide (x.length<=8) && x.cps.toList.all inL)=_;rw[My (show ¬ 1<=x.length by omega),Om,Om]
   rw[<-e];exact q H (Zw.refl H)
 | bl b=>exact Zu (Zu (q H (Zw.refl H)))
 | non=>exact Zu (Zu (q H (Zw.refl H)))
 | int x=>exact Zu (Zu (q H (Zw.refl H)))
 | tup ts=>exact Zu (Zu (q H (Zw.refl H)))
 | opq=>exact Zu (Zu (q H (Zw.refl H)))
theorem Km(F:Fu K "_law_is_text" Df f fd)(m:Bn mg):Yn P w K mg base Je 1 f fd ["_law_thing","_law_most"] (B5 K):=by
 refine F.ok Ei (fun vs H Q E h=>?_) fun _ A _ s H vs Q E hr h=>?_
 ·obtain⟨v,t,n,rfl,_⟩:=h
  rfl
 obtain⟨v,t,n,rfl,ht,gd,q⟩:=h;refine⟨_,(@Zf _ _ _ _ _ (qi (qp (qO (qn (Yg (cB Ze m.isinstance Zh (Zg (pv 0) (Zg (Yy rfl m.str Xm (by decide) (by decide)) Zx))) (by intro _;rfl))) (qQ (tQ Ia (cB Mh m.len Vv (Zg (pv 0) Zx)) (pv 1))))) (q1 (qr Vz)) Zd) (q1 (qr (cB (Ye rfl) m.all G3 (Zg (pC Wc (Zv Df) ["_law_sign"] [none] (@zg _ _ _ _ (pv 0)) (fun _ _ _=>(nI 0)) (fun _ _ _=>Z1) (fun _ _ _=>(qa (@Kx _ _ _ _ _ _ _ _ _ _ _ _ Ip Ip Zm (pv 0) Zm (by trivial)) (qe (eQ Oa (cB Zk1 m.ord b_ord (Zg (pv 0) Zx)) Zq))))) Zx))))), ?_⟩;refine⟨_,rfl,_,_,t,rfl,ht,(by simp),_,rfl, ?_⟩;cases t with
 | str x =>
  cases Zr ht;refine Y6 ⟨_,rfl,x,rfl,Gw gd.2 (by decide),_,rfl,_,_,rfl,rfl,_,rfl, ?_⟩;by_cases c2:(x.length:Int)<=n
  ·refine Z5 (My (by omega)) ?_;refine⟨_,rfl,x,rfl,fun D fp sx hD=>?_⟩;refine Ri (p:=fun _=>true) (Gw gd.2 (by decide)) hD (fun ch H5 Q5 mc s5 q5=>?_) fun H6 s6 h6=>⟨D,_,rfl,Z0.of h6, ?_⟩
   ·have g:=gd.1 ch mc;obtain⟨e1,e2⟩:=gd_le g;refine⟨_,rfl,_,_,rfl,rfl,_,rfl,Yj e1 ⟨_,_,rfl,rfl,_,rfl,Yj e2 ?_⟩⟩;refine⟨_,rfl,_,rfl,rfl,rfl, ?_⟩
    have e3:(!decide (V.int ((ch:Nat):Int)=V.int 37))=true:=by
     have:V.int ((ch:Nat):Int)≠V.int 37:=fun z=>by
      injection z with z
      exact g.2.2 (by omega)
     rw[My this];rfl
    have q5:=q5 H5 (Zw.refl H5);rw[<-e3]at q5;exact q5
   ·have e:(x.cps.toList.map fun _=>true).all id=Od n (.str x):=by
     show _=decide _;rw[Gq c2,List.all_map,Wv];exact fun _ _=>rfl
    rw[e];exact q H6 s6
  ·refine Yj (Gq (by omega)) ?_;have e:Od n (.str x)=false:=My c2;rw[<-e];exact q H (Zw.refl H)
 | bl b=>exact Zu (Zu (q H (Zw.refl H)))
 | non=>exact Zu (Zu (q H (Zw.refl H)))
 | int x=>exact Zu (Zu (q H (Zw.refl H)))
 | tup ts=>exact Zu (Zu (q H (Zw.refl H)))
 | opq=>exact Zu (Zu (q H (Zw.refl H)))
theorem wc(F:Fu K "_law_rise" B8 f fd)(m:Bn mg):Yn P w K mg base Je 1 f fd ["_law_some"] (Rt K):=by
 refine F.ok jh (fun vs H Q E h=>?_) fun _ A _ s H vs Q E hr h=>?_
 ·obtain⟨a,ts,ws,rfl,_⟩:=h
  rfl
 obtain⟨a,ts,ws,rfl,ha,at',hl,hk,q⟩:=h;have lw:=at'.length;have el:((ws.length:Int) - 1).toNat=ts.length - 1:=by omega
 refine⟨_,(@Yx _ _ _ (qr (cB (Ye rfl) m.all G3 (Zg (pC Hl (Zv B8) ["_law_k","_law_some"] [none,some 0] (@U9 _ _ _ _ _ _ rfl m.range (Zg (qo Lq (cB Zn m.len Vv (Zg (pv 0) Zx)) Zq) Zx) (by trivial)) (fun _ _ _=>(nI 0)) (fun _ _ _=>Z1) (fun _ _ _=>(eQ il (iX Z2 (pv 1) (pv 0)) (iX Z2 (pv 1) (qo Ju (pv 0) Zq))))) Zx)))), ?_⟩;refine⟨_,rfl,a,_,rfl,.inl ha,_,_,rfl,rfl,_,rfl,by omega,by omega,fun D fp sx hD=>?_⟩;refine Dw (fun i zs σ H5=>(∃o,σ=[o,some (.ref a)])/\zs=((Sz ts).take i).map V.bl/\Zw H H5/\H5 D=some (.lst zs)) ⟨⟨_,rfl⟩,rfl,(Zw.refl H).put hD,Zz⟩ ?_ ?_ ?_
 ·rintro i zs σ H5 hi ⟨_,_,s5,h5⟩;exact h5
 ·rintro i zs σ H5 hi ⟨⟨o,rfl⟩,rfl,s5,h5⟩;have hi:i<((ws.length:Int) - 1).toNat:=hi;rw[el]at hi;have e1:ts[i]?=some ts[i]:=Nn (by omega);have e2:ts[i+1]?=some ts[i+1]:=Nn (by omega);generalize ts[i]=tx at e1;generalize ts[i+1]=ty at e2;obtain⟨x,ex,ix⟩:=at'.get e1;obtain⟨y,ey,iy⟩:=at'.get e2;have hz:=Zww ts e1 e2;refine V2 ?_;refine⟨_,rfl,_,rfl,a,_,_,_,rfl,rfl,s5.seq ha,by rw[Int.zero_add];exact atV ex,_,rfl,_,rfl,_,_,rfl,rfl,a,_,_,_,rfl,rfl,s5.seq ha,by rw[Int.zero_add];exact atV ey, ?_⟩
  have fin:H5 D=some (.lst (((Sz ts).take i).map V.bl))/\(((Sz ts).take i).map V.bl).length<sizeLine/\(∃o',([some (V.int (0+(i:Int))),some (.ref a)]:L2.St)=[o',some (.ref a)])/\((Sz ts).take i).map V.bl++[V.bl (Mq tx ty)]=((Sz ts).take (i+1)).map V.bl/\Zw H (Yq H5 D (.lst (((Sz ts).take i).map V.bl++[V.bl (Mq tx ty)])))/\Yq H5 D (.lst (((Sz ts).take i).map V.bl++[V.bl (Mq tx ty)])) D=some (.lst (((Sz ts).take i).map V.bl++[V.bl (Mq tx ty)])):=by
   refine⟨h5, ?_,⟨_,rfl⟩, ?_,s5.put hD,Zz⟩
   ·rw[Yp,T1,jg];exact Iz (show _<=1000000 by omega) (by decide)
   ·rw[Zs hz,Gj];rfl
  rcases hk with ⟨ss,rfl⟩ | ⟨ns,rfl⟩
  ·rw[Ma]at e1 e2;obtain⟨x1,_,rfl⟩:=Qe.mp e1;obtain⟨y1,_,rfl⟩:=Qe.mp e2;cases Zr ix;cases Zr iy;exact .inr ⟨_,_,rfl,rfl,fin⟩
  ·rw[Ma]at e1 e2;obtain⟨x1,_,rfl⟩:=Qe.mp e1;obtain⟨y1,_,rfl⟩:=Qe.mp e2;cases Zr ix;cases Zr iy;exact .inl ⟨_,_,rfl,rfl,fin⟩
 ·rintro zs σ H5 ⟨_,rfl,s5,h5⟩;refine⟨D,_,rfl,Z0.of h5, ?_⟩;rw[Xt (by rw[jg];exact Nat.le_of_eq el.symm)];exact q H5 s5
theorem Zv3{us:List Th}:Gc (.tup us)=(V.int us.length=V.int 2:Bool):=by
 match us with
 | []=>rfl
 | [_]=>rfl
 | [_,_]=>rfl
 | _::_::_::r =>
  symm
  apply My
  intro z
  injection z with z
  simp only[S6]at z;omega
abbrev gW(P:Program)(w:World)(K:W.Frag)(mg:Bw)(base:Heap):=Fn P w K mg base 1 "_law_whole" ["_law_thing","_law_low","_law_high"] (Nh K)
theorem Ph(F:Fu K "_law_are_pairs" V5 f fd)(m:Bn mg)(Y4:gW P w K mg base)(Ao:Fn P w K mg base 1 "_law_is_name" ["_law_thing"] (Im K true))(l7:Fn P w K mg base 1 "_law_rise" ["_law_some"] (Rt K)):Yn P w K mg base Je 2 f fd ["_law_thing","_law_numbers_here"] (Ep K):=by
 refine F.ok Bh (fun vs H Q E h=>?_) fun _ A _ s H vs Q E hr h=>?_
 ·obtain⟨v,t,b,rfl,_⟩:=h
  rfl
 obtain⟨v,t,b,rfl,ht,gd,hz,q⟩:=h;refine⟨_,(@Zf _ _ _ _ _ (qi (qp (qO (qn (Yg (cB Ze m.isinstance Zh (Zg (pv 0) (Zg (Yy rfl m.tuple Yr (by decide) (by decide)) Zx))) (by intro _;rfl))) (qQ (qn (Yg (cB (Ye rfl) m.all G3 (Zg (pC Jr (Zv V5) ["_law_one"] [none] (qI (pv 0)) (fun _ _ _=>(nI 0)) (fun _ _ _=>Z1) (fun _ _ _=>(qa (cB Ze m.isinstance Zh (Zg (pv 0) (Zg (Yy rfl m.tuple Yr (by decide) (by decide)) Zx))) (qe (eQ Ym (cB Zn m.len Vv (Zg (pv 0) Zx)) Zq))))) Zx)) (by intro _;rfl)))))) (q1 (qr Vz)) Zd) (qs (@Ud _ 2 Jr (Zv V5) ["_law_one"] [none] _ _ _ _ _ _ _ _ _ _ _ _ _ Bh.nd rfl (by trivial) rfl (qI (pv 0)) ⟨rfl,rfl,by decide +kernel,by decide +kernel⟩ (fun _ _ _=>(nI 0)) (fun _ _ _=>Z1) (fun _ _ _=>(iX Zk (pv 0) Zq)) (by trivial) (by trivial) (by trivial)) (qs (qi (qn (Yg (cB (Ye rfl) m.all G3 (Zg (pC Jr (Zv V5) ["_law_one","_law_numbers_here"] [none,some 1] (qL (pv 2)) (fun _ _ _=>(nI 0)) (fun _ _ _=>Z1) (fun _ _ _=>(@Cd _ _ _ _ _ _ _ _ (Yg (pv 1) (by intro _;rfl)) (cF Y4 hr (Zg (pv 0) (Zg Zq (Zg Zq Zx)))) (cF Ao hr (Zg (pv 0) Zx))))) Zx)) (by intro _;rfl))) (q1 (qr Vz)) Zd) (q1 (qr (cF l7 hr (Zg (pv 2) Zx))))))), ?_⟩;refine⟨_,rfl,_,_,t,rfl,ht,(by simp),_,rfl, ?_⟩;cases t with
 | tup ts =>
  obtain⟨a,ws,rfl,ha,at'⟩:=ht;have hl:=Jz hz;refine Y6 ⟨_,rfl,a,rfl,⟨ws,ha⟩,fun D fp sx hD=>?_⟩;refine Dv (p:=Gc) ha at' hl hD (fun t v H5 Q5 mt s5 i5 q5=>?_) fun H6 s6 h6=>⟨D,_,rfl,Z0.of h6,_,rfl, ?_⟩
  ·refine⟨_,rfl,_,_,t,rfl,i5,(by simp),_,rfl, ?_⟩;cases t with
   | tup us =>
    obtain⟨p,xs,rfl,hp,ar⟩:=i5;refine Zu ⟨_,rfl,p,xs,rfl,.inr hp,rfl, ?_⟩;have e:Gc (.tup us)=(V.int xs.length=V.int 2:Bool):=by rw[<-ar.length];exact Zv3
    rw[e]at q5;exact q5 H5 (Zw.refl H5)
   | bl b=>exact Y6 (q5 H5 (Zw.refl H5))
   | non=>exact Y6 (q5 H5 (Zw.refl H5))
   | int x=>exact Y6 (q5 H5 (Zw.refl H5))
   | str ts=>exact Y6 (q5 H5 (Zw.refl H5))
   | opq=>exact Y6 (q5 H5 (Zw.refl H5))
  have e:(ts.map Gc).all id=Z7 (.tup ts):=by rw[List.all_map];rfl
  rw[e];by_cases hp:Z7 (.tup ts)=true
  ·rw[hp]at q ⊢;refine Z5 rfl ?_;refine⟨_,rfl,a,rfl,⟨ws,s6.up _ _ ha⟩,fun D2 fp2 sx2 Ek=>?_⟩;refine Ub (f:=Z6) (s6.up _ _ ha) (Zy.up s6.upT _ _ at') hl Ek (fun t' v' H5 Q5 mt s5 i5 q5=>?_) fun H7 xs s7 h7 ar=>?_
   ·obtain⟨x,y,rfl⟩:=Dl (Wv.mp hp t' mt);obtain⟨p,vx,vy,rfl,Xq,ix,iy⟩:=Bo i5;exact⟨_,rfl,p,_,_,_,rfl,rfl,Xq,rfl,q5 vx H5 (Zw.refl H5) ix⟩
   have gf:yh (ts.map Z6):=Yz.mpr fun t' mt=>by
    obtain⟨t2,m2,rfl⟩:=Dp.mp mt;exact rj (Yz.mp gd t2 m2)
   have lf:(ts.map Z6).length<=1000000:=by rw[Yp];exact hl
   refine⟨_,rfl,D2,rfl,⟨_,Z0.of h7⟩,fun D3 fp3 sx3 hD3=>?_⟩;refine Lr (p:=Jb (!b)) (Z0.of h7) ar lf hD3 (fun t v H5 Q5 mt s5 i5 q5=>?_) fun H8 s8 h8=>⟨D3,_,rfl,Z0.of h8,_,rfl, ?_⟩
   ·refine⟨_,rfl,_,rfl, ?_⟩;cases b with
    | true=>exact Yj rfl ⟨_,rfl,v,t,_,_,rfl,i5,q5 H5 (Zw.refl H5)⟩
    | false=>exact Z5 rfl ⟨_,rfl,v,t,rfl,i5,Yz.mp gf t mt,q5⟩
   have e2:((ts.map Z6).map (Jb (!b))).all id=(ts.map Z6).all (Jb (!b)):=by rw[List.all_map];rfl
   rw[e2];by_cases hb:(ts.map Z6).all (Jb (!b))=true
   ·refine Z5 (by rw[hb];rfl) ?_;refine⟨_,rfl,D2,_,xs,rfl,Z0.of (s8 _ _ h7),Zy.up s8.upT _ _ ar,lf, ?_,fun H9 s9=>?_⟩
    ·cases b with
     | true=>exact .inr (Kp hb)
     | false=>exact .inl (Kh hb)
    ·have e3:(true && Z8 (!b) ((Za (.tup ts)).map Z6))=Jc (ts.map Z6):=by
      show (true && (_ && _))=_;rw[show ((Za (.tup ts)).map Z6)=ts.map Z6 from rfl,hb];rfl
     rw[<-e3];exact q H9 (((s6.trans s7).trans s8).trans s9)
   ·refine Yj (by rw[nf hb];rfl) ?_
    have e3:(true && Z8 (!b) ((Za (.tup ts)).map Z6))=false:=by
     show (true && (_ && _))=_;rw[show ((Za (.tup ts)).map Z6)=ts.map Z6 from rfl,nf hb];rfl
    rw[<-e3];exact q H8 ((s6.trans s7).trans s8)
  ·rw[nf hp]at q ⊢;exact Yj rfl (q H6 s6)
 | bl b=>exact Zu (Zu (q H (Zw.refl H)))
 | non=>exact Zu (Zu (q H (Zw.refl H)))
 | int x=>exact Zu (Zu (q H (Zw.refl H)))
 | str ts=>exact Zu (Zu (q H (Zw.refl H)))
 | opq=>exact Zu (Zu (q H (Zw.refl H)))
abbrev Jg:Stmt:=top 56
abbrev Bv:List Str:=["_law_thing"]
theorem E2:Zp Bv ["_law_thing"] (Zv Jg):=by trivial
theorem Zvw(t:Th):Jn (Vc t)<=Jn t:=by
 unfold Vc
 split
 ·simp only[Jn,Mr];omega
 ·exact Vj _
theorem wx{t u:Th}(m:u∈Za t):Jn u+1<=Jn t:=by
 cases t with
 | tup ts=>have:=Ds (show u∈ts from m);simp only[Jn];omega
 | _=>exact absurd m U6
theorem Ey{t u:Th}(m:u∈Yc t):Jn u+1<=Jn t:=by
 unfold Yc at m
 split at m
 ·rename_i a b
  have hb:∀v∈Za b,Jn v+1<=Jn (.tup [a,b]):=fun v mv=>by have:=wx mv;simp only[Jn,Mr];omega
  split at m
  ·exact hb u m
  ·split at m
   ·obtain⟨v,mv,rfl⟩:=Dp.mp m;have:=hb v mv;have:=Zvw v;omega
   ·exact absurd m U6
 ·rename_i a b c
  rw[N6.mp m];simp only[Jn,Mr];omega
 ·exact absurd m U6
theorem R0{α:Type}{p q:α->Bool}{l:List α}(h:∀x∈l,p x=q x):l.all p=l.all q:=by
 induction l with
 | nil=>rfl
 | cons a l ih=>rw[List.all_cons,List.all_cons,h a Te,ih fun x m=>h x (Rq _ m)]
theorem Zy0:∀{n m:Nat} {t:Th},Jn t<n->Jn t<m->B2 n t=B2 m t
 | 0,_,_,h,_=>absurd h (by omega)
 | _+1,0,_,_,h=>absurd h (by omega)
 | n+1,m+1,t,h1,h2=>by
  show (Vx t && (Yc t).all (B2 n))=(Vx t && (Yc t).all (B2 m));rw[R0 fun u mu=>Zy0 (n:=n) (m:=m) (t:=u) (by have:=Ey mu;omega) (by have:=Ey mu;omega)]
theorem Zye{t:Th}(h:Jn t<=98):B2 100 t=(Vx t && (Yc t).all (B2 100)):=by
 show (Vx t && (Yc t).all (B2 99))=_;rw[R0 fun u mu=>Zy0 (n:=99) (m:=100) (t:=u) (by have:=Ey mu;omega) (by have:=Ey mu;omega)]
theorem C4{a:Th}{z:Str}(h:Gn "str" a=false):Ue a z=false:=by
 cases a with
 | str x=>cases h
 | bl _=>rfl
 | _=>rfl
theorem Zx5{a:Th}{r:List Th}(h:Gn "str" a=false):Vx (.tup (a::r))=false:=by
 match r with
 | []=>rfl
 | [b] =>
  show (!Ue a "arm" && Yk a b)=false
  have:Yk a b=false:=by
   unfold Yk;rw[C4 h,C4 h,C4 h,C4 h,C4 h]
   rfl
  rw[this,Bool.and_false]
 | [b,c] =>
  show (Ue a "arm" && Z4 1 999 b)=false;rw[C4 h,Om]
 | _::_::_::_=>rfl
inductive Zxt(K:W.Frag)(n:Nat)(vs:List V)(H:Hp)(Q:VK):Prop
 | mk(v t)(Vg:vs=[v])(Vk:Zb K H t v)(V1:Dr t)(Jk:U4 t<=1000000)(Mn:Jn t<n)(Wb:∀H',Zw H H'->Q (.bl (B2 100 t)) H')
def Rc(K:W.Frag)(n:Nat):Sp:=fun vs H Q _=>Zxt K n vs H Q
def Zjb:List V:=[.str "whole",.str "text",.str "row",.str "map",.str "rec"]
theorem str_of{t:Th}(h:Gn "str" t=true):∃x,t=.str x:=by
 cases t with
 | str x=>exact⟨x,rfl⟩
 | bl _=>cases h
 | _=>cases h
theorem yw(x:Str):z9 (.str x) Zjb=(Ue (.str x) "whole" || Ue (.str x) "text" || Ue (.str x) "row" || Ue (.str x) "map" || Ue (.str x) "rec"):=by
 have e:∀a b:Str,eqV (.str a) (.str b)=(b == a):=fun a b=>by
  show (a == b)=(b == a);by_cases h:a=b
  ·subst h;rfl
  ·have h':¬ b=a:=fun z=>h z.symm;rw[B0n.mpr h,B0n.mpr h']
 show ([V.str "whole",.str "text",.str "row",.str "map",.str "rec"].any fun y=>eqV y (.str x))=_;simp only[List.any_cons,List.any_nil,Bool.or_false];rw[e,e,e,e,e];show _=((x == "whole") || (x == "text") || (x == "row") || (x == "map") || (x == "rec"));rw[Bool.or_assoc,Bool.or_assoc,Bool.or_assoc]
abbrev gA(P:Program)(w:World)(K:W.Frag)(mg:Bw)(base:Heap):=Fn P w K mg base 2 "_law_are_pairs" ["_law_thing","_law_numbers_here"] (Ep K)
theorem Cu(F:Fu K "_law_is_item" Jg f fd)(m:Bn mg)(bd:G5 K fd ["_law_thing"] [])(mf:mg "_law_is_item" = some (.ref f))(Y4:gW P w K mg base)(Uq:Fn P w K mg base 1 "_law_is_text" ["_law_thing","_law_most"] (B5 K))(Yu:gA P w K mg base) :
  ∀n,n<=99->Yn P w K mg base Je (n+3) f fd ["_law_thing"] (Rc K n)
 | 0,_=>⟨fun vs H Q E h=>by obtain⟨_,_,_,_,_,_,z,_⟩:=h;omega,fun A outer s H args us vs Q E _ _ _ _ h=>by obtain⟨_,_,_,_,_,_,z,_⟩:=h;omega⟩
 | n+1,hn=>by
  have Y0:Fn P w K mg base (n+3) "_law_is_item" ["_law_thing"] (Rc K n):=⟨f,fd,Cu F m bd mf Y4 Uq Yu n (by omega),bd,F.kp,mf⟩;refine F.ok E2 (fun vs H Q E h=>?_) fun _ A outer s H vs Q E hr h=>?_
  ·obtain⟨v,t,rfl,_⟩:=h
   rfl
  obtain⟨v,t,rfl,ht,gd,hz,hd,q⟩:=h;refine⟨_,(@Zf _ _ _ _ _ (qi (qp (qO (qn (Yg (cB Ze m.isinstance Zh (Zg (pv 0) (Zg (Yy rfl m.tuple Yr (by decide) (by decide)) Zx))) (by intro _;rfl))) (qO (tQ F0 (cB Zn m.len Vv (Zg (pv 0) Zx)) Zq) (qQ (qn (Yg (cB Ze m.isinstance Zh (Zg (iX Zk (pv 0) Zq) (Zg (Yy rfl m.str Xm (by decide) (by decide)) Zx))) (by intro _;rfl))))))) (q1 (qr Vz)) Zd) (qs (qi (tQ Vp (iX Zk (pv 0) Zq) Zm) (q1 (qr (qa (eQ Ym (cB Zn m.len Vv (Zg (pv 0) Zx)) Zq) (qa (cF Y4 hr (Zg (iX Zk (pv 0) Zq) (Zg Zq (Zg Zq Zx)))) (qe (cF Y0 hr (Zg (iX Zk (pv 0) Zq) Zx))))))) Zd) (qs (qi (qp (qO (tQ Oa (cB Zn m.len Vv (Zg (pv 0) Zx)) Zq) (qQ (Md Jx (iX Zk (pv 0) Zq) (qt (Zg Zm (Zg Zm (Zg Zm (Zg Zm (Zg Zm Zx)))))) rfl)))) (q1 (qr Vz)) Zd) (qs (qi (tQ Vp (iX Zk (pv 0) Zq) Zm) (q1 (qr (cF Y4 hr (Zg (iX Zk (pv 0) Zq) (Zg (@Cm _ _ _ _ _ _ M4 (qo Bz Zq Zq)) (Zg (qo Bz Zq Zq) Zx)))))) Zd) (qs (qi (tQ Vp (iX Zk (pv 0) Zq) Zm) (q1 (qr (cF Uq hr (Zg (iX Zk (pv 0) Zq) (Zg Zq Zx))))) Zd) (qs (qi (qn (Yg (cB Ze m.isinstance Zh (Zg (iX Zk (pv 0) Zq) (Zg (Yy rfl m.tuple Yr (by decide) (by decide)) Zx))) (by intro _;rfl))) (q1 (qr Vz)) Zd) (qs (qi (tQ Vp (iX Zk (pv 0) Zq) Zm) (q1 (qr (cB (Ye rfl) m.all G3 (Zg (pC Bv (Zv Jg) ["_law_one"] [none] (qI (iX Zk (pv 0) Zq)) (fun _ _ _=>(nI 0)) (fun _ _ _=>Z1) (fun _ _ _=>(cF Y0 hr (Zg (pv 0) Zx)))) Zx)))) Zd) (q1 (qr (qa (cF Yu hr (Zg (iX Zk (pv 0) Zq) (Zg (eQ Vp (iX Zk (pv 0) Zq) Zm) Zx))) (qe (cB (Ye rfl) m.all G3 (Zg (pC Bv (Zv Jg) ["_law_one"] [none] (qI (iX Zk (pv 0) Zq)) (fun _ _ _=>(nI 0)) (fun _ _ _=>Z1) (fun _ _ _=>(cF Y0 hr (Zg (iX Zk (pv 0) Zq) Zx)))) Zx))))))))))))), ?_⟩;have hu:=Ur.units0 hr;have pw:Zjt 10 18:=⟨by decide,by decide,by decide⟩;rw[Zye (show Jn t<=98 by omega)]at q
  have no:Vx t=false->∀H',Zw H H'->Q (.bl false) H':=fun z H' s=>by
   have:=q H' s;rw[z,Om]at this;exact this
  refine⟨_,rfl,_,_,t,rfl,ht,(by simp),_,rfl, ?_⟩;cases t with
  | tup ts =>
   obtain⟨a,ws,rfl,ha,at'⟩:=ht;have lw:=at'.length;refine Y6 ⟨_,rfl,a,ws,rfl,.inr ha,_,_,rfl,rfl,_,rfl, ?_⟩
   match ts,lw with
   | [],lw =>
    rw[<-lw];exact Yj rfl (Zu (no rfl H (Zw.refl H)))
   | [_],lw =>
    rw[<-lw];exact Yj rfl (Zu (no rfl H (Zw.refl H)))
   | x::y::r,lw =>
    refine Z5 (by rw[<-lw];exact My (by simp only[S6];omega)) ?_;obtain⟨v1,w1,rfl,ix,v2,w2,rfl,iy,ar⟩:=at';refine⟨_,rfl,a,_,_,_,rfl,rfl,ha,at0,_,_,x,rfl,ix,(by simp),_,rfl, ?_⟩;by_cases hx:Gn "str" x=true
    ·refine Z5 (by rw[hx];rfl) ?_;obtain⟨x,rfl⟩:=str_of hx;have ix':=ix;cases Zr ix';refine⟨_,rfl,a,_,_,_,rfl,rfl,ha,at0,.str x,_,rfl,rfl,hu,_,rfl, ?_⟩;refine Vw (fun c1=>?_) (fun c1=>?_)
     ·have ex:=Bq c1;cases ex;refine⟨_,rfl,a,_,rfl,.inr ha,rfl,_,rfl, ?_⟩
      match r,w2,ar,lw with
      | [z],_,ar,lw =>
       obtain⟨v3,w3,rfl,iz,e3⟩:=ar;cases Zr e3;refine Yj rfl ?_;refine⟨_,rfl,a,_,_,_,rfl,rfl,ha,Jy,v2,y,_,_,rfl,iy,_,rfl, ?_⟩;refine Vw (fun c2=>?_) (fun c2=>?_)
       ·refine⟨_,rfl,a,_,_,_,rfl,rfl,ha,Oz,v3,z,rfl,iz,gd.2.2.1, ?_, ?_,fun H' s'=>?_⟩
        ·exact fw me3 hz
        ·exact dpM me3 hd
        ·have q':=q H' s';have e1:Vx (.tup [.str "arm",y,z])=true:=by show (Ue (.str "arm") "arm" && Z4 1 999 y)=true;rw[c1,c2];rfl
         rw[e1]at q';have e2:(true && (Yc (.tup [.str "arm",y,z])).all (B2 100))=B2 100 z:=by show (true && (B2 100 z && true))=_;rw[O9,Bool.and_true]
         rw[e2]at q';exact q'
       ·refine no ?_ H (Zw.refl H);show (Ue (.str "arm") "arm" && Z4 1 999 y)=false;rw[nf c2,Bool.and_false]
      | [],_,ar,lw =>
       cases Zr ar;refine Z5 rfl (no ?_ H (Zw.refl H));show (!Ue (.str "arm") "arm" && Yk (.str "arm") y)=false;rw[c1];rfl
      | _::_::_,_,ar,lw =>
       refine Z5 ?_ (no rfl H (Zw.refl H));rw[<-lw];refine My fun z=>?_
       injection z with z
       simp only[S6]at z;omega
     ·refine⟨_,rfl,a,_,rfl,.inr ha,rfl,_,rfl, ?_⟩
      match r,w2,ar,lw with
      | [],_,ar,lw =>
       cases Zr ar;refine Z5 rfl ?_;refine⟨_,rfl,a,_,_,_,rfl,rfl,ha,at0,(sz 5),fun e0 h0=>?_⟩;have s0:=Zw.lay (o:=.tup Zjb) h0;refine⟨e0,Zjb,rfl,.inr (Yv.of Zz),rfl,rfl,_,rfl, ?_⟩;have eo:Vx (.tup [.str x,y])=Yk (.str x) y:=by show (!Ue (.str x) "arm" && Yk (.str x) y)=_;rw[nf c1];rfl
       rw[eo]at q no;have zy:U4 y<=1000000:=fw me2 hz;by_cases c5:z9 (.str x) Zjb=true
       ·refine Z5 (by show (!z9 (.str x) Zjb)=false;rw[c5];rfl) ?_;rw[yw]at c5;have ha0:=s0.up (K:=K) _ _ ha;have iy0:=Zb.up (K:=K) s0.upT _ _ iy;refine⟨_,rfl,a,_,_,_,rfl,rfl,ha0,at0,.str x,_,rfl,rfl,hu,_,rfl, ?_⟩;refine Vw (fun c6=>?_) (fun c6=>?_)
        ·cases Bq c6;refine⟨_,rfl,a,_,_,_,rfl,rfl,ha0,Jy,_,_,rfl,rfl,pw,_,rfl,_,_,rfl,rfl,pw,v2,y,_,_,rfl,iy0, ?_⟩;have q':=q _ s0;have e1:Yk (.str "whole") y=Z4 (-((10:Int) ^ (18:Int).toNat)) ((10:Int) ^ (18:Int).toNat) y:=by unfold Yk;rw[if_pos c6];rfl
         rw[e1,show (Yc (.tup [.str "whole",y]))=[] from rfl,List.all_nil,Bool.and_true]at q';exact q'
        refine⟨_,rfl,a,_,_,_,rfl,rfl,ha0,at0,.str x,_,rfl,rfl,hu,_,rfl, ?_⟩;refine Vw (fun c7=>?_) (fun c7=>?_)
        ·cases Bq c7;refine⟨_,rfl,a,_,_,_,rfl,rfl,ha0,Jy,v2,y,_,rfl,iy0,gd.2.1,fun H' s'=>?_⟩;have q':=q _ (s0.trans s')
         have e1:Yk (.str "text") y=Od 200 y:=by
          unfold Yk;rw[if_neg c6,if_pos c7];cases y with
          | str z=>show decide (z.length<=200)=decide ((z.length:Int)<=200);exact decide_eq_decide.mpr (by omega)
          | _=>rfl
         rw[e1,show (Yc (.tup [.str "text",y]))=[] from rfl,List.all_nil,Bool.and_true]at q';exact q'
        refine⟨_,rfl,a,_,_,_,rfl,rfl,ha0,Jy,_,_,y,rfl,iy0,(by simp),_,rfl, ?_⟩;by_cases hy:Gn "tuple" y=true
        ·refine Z5 (by rw[hy];rfl) ?_;obtain⟨us,rfl⟩:=El hy;have hl:=Jz zy;have kid:∀u∈us,Dr u/\U4 u<=1000000/\Jn u<n:=fun u mu=>⟨Yz.mp gd.2.1 u mu,fw mu zy,dpN mu (Nat.le_of_lt (dpM me2 hd))⟩;refine⟨_,rfl,a,_,_,_,rfl,rfl,ha0,at0,.str x,_,rfl,rfl,hu,_,rfl, ?_⟩;refine Vw (fun c8=>?_) (fun c8=>?_)
         ·cases Bq c8;obtain⟨b,bs,rfl,hb,ab⟩:=iy0;refine⟨_,rfl,a,_,_,_,rfl,rfl,ha0,Jy,b,rfl,⟨_,hb⟩,fun D fp sx hD=>?_⟩;refine Dv (p:=B2 100) hb ab hl hD (fun u v H5 Q5 mu s5 i5 q5=>?_) fun H6 s6 h6=>⟨D,_,rfl,Z0.of h6, ?_⟩
          ·obtain⟨g1,g2,g3⟩:=kid u mu;exact⟨_,rfl,v,u,rfl,i5,g1,g2,g3,q5⟩
          have q':=q _ (s0.trans s6);have e1:Yk (.str "row") (.tup us)=true:=by unfold Yk;rw[if_neg c6,if_neg c7,if_pos c8];rfl
          rw[e1,show (Yc (.tup [.str "row",.tup us]))=us from rfl,O9]at q';rw[List.all_map];exact q'
         ·refine⟨_,rfl,a,_,_,_,rfl,rfl,ha0,Jy,_,rfl,a,_,_,_,rfl,rfl,ha0,at0,.str x,_,rfl,rfl,hu,v2,.tup us,_,rfl,iy0,gd.2.1,zy,fun H1 s1=>⟨_,rfl, ?_⟩⟩
          have bk:Yk (.str x) (.tup us)=(Z7 (.tup us) && Z8 (!Ue (.str x) "rec") ((Za (.tup us)).map Z6))/\Yc (.tup [.str x,.tup us])=us.map Vc:=by
           have c9:Ue (.str x) "map" = true\/(Ue (.str x) "map" = false/\Ue (.str x) "rec" = true):=by
            rw[nf c6,nf c7,nf c8]at c5;cases h1:Ue (.str x) "map" with
            | true=>exact .inl rfl
            | false=>rw[h1]at c5;exact .inr ⟨rfl,by simpa using c5⟩
           rcases c9 with c9 | ⟨c9,c10⟩
           ·cases Bq c9;constructor
            ·unfold Yk;rw[if_neg c6,if_neg c7,if_neg c8,if_pos c9];rfl
            ·show (if Ue (.str "map") "row" = true then us else if (Ue (.str "map") "map" || Ue (.str "map") "rec")=true then us.map Vc else [])=_;rw[if_neg c8,if_pos (by rw[c9];rfl)]
           ·cases Bq c10;constructor
            ·unfold Yk;rw[if_neg c6,if_neg c7,if_neg c8,if_neg (by rw[c9];decide),if_pos c10];rfl
            ·show (if Ue (.str "rec") "row" = true then us else if (Ue (.str "rec") "map" || Ue (.str "rec") "rec")=true then us.map Vc else [])=_;rw[if_neg c8,if_pos (by rw[c10];simp)]
          rw[bk.1,bk.2]at q;by_cases cp:(Z7 (.tup us) && Z8 (!Ue (.str x) "rec") ((Za (.tup us)).map Z6))=true
          ·refine Yj cp ?_;rw[cp]at q;have hp:=(fq.mp cp).1;have ha1:=s1.up (K:=K) _ _ ha0;obtain⟨b,bs,rfl,hb,ab⟩:=Zb.up (K:=K) s1.upT _ _ iy0;refine⟨_,rfl,a,_,_,_,rfl,rfl,ha1,Jy,b,rfl,⟨_,hb⟩,fun D fp sx hD=>?_⟩;refine Dv (p:=fun u=>B2 100 (Vc u)) hb ab hl hD (fun u v H5 Q5 mu s5 i5 q5=>?_) fun H6 s6 h6=>⟨D,_,rfl,Z0.of h6, ?_⟩
           ·obtain⟨g1,g2,g3⟩:=kid u mu;obtain⟨u1,u2,rfl⟩:=Dl (Wv.mp hp u mu);obtain⟨p,vx,vy,rfl,Xq,ix,iy⟩:=Bo i5;refine⟨_,rfl,p,_,_,_,rfl,rfl,Xq,Jy,vy,u2,rfl,iy,g1.2.1,fw me2 g2,dpN me2 (Nat.le_of_lt g3),q5⟩
           have q':=q _ ((s0.trans s1).trans s6);rw[O9,List.all_map]at q';rw[List.all_map];exact q'
          ·refine Z5 (nf cp) ?_;have q':=q _ (s0.trans s1);rw[nf cp,Om]at q';exact q'
        ·refine Yj (by rw[nf hy];rfl) (no ?_ _ s0);unfold Yk;rw[if_neg c6,if_neg c7]
         have hp:Z7 y=false:=by
          cases y with
          | tup us=>exact absurd rfl hy
          | _=>rfl
         rw[nf hy,hp]
         split
         ·rfl
         ·split
          ·rfl
          ·split<;>rfl
       ·refine Yj (by show (!z9 (.str x) Zjb)=true;rw[nf c5];rfl) (no ?_ _ s0);have c5:=nf c5;rw[yw]at c5;simp only[Bool.or_eq_false_iff]at c5;unfold Yk;rw[c5.1.1.1.1,c5.1.1.1.2,c5.1.1.2,c5.1.2,c5.2]
        rfl
      | [z],_,ar,lw =>
       obtain⟨v3,w3,rfl,iz,e3⟩:=ar;cases Zr e3;refine Yj rfl (Zu (no ?_ H (Zw.refl H)));show (Ue (.str x) "arm" && Z4 1 999 y)=false;rw[nf c1];rfl
      | _::_::_,_,ar,lw =>
       refine Yj ?_ (Zu (no rfl H (Zw.refl H)));rw[<-lw];show (!decide _)=true;rw[My fun z=>?_]
       ·rfl
       ·injection z with z
        simp only[S6]at z;omega
    ·refine Yj (by rw[nf hx];rfl) (no (Zx5 (nf hx)) H (Zw.refl H))
  | bl b=>exact Zu (Zu (no rfl H (Zw.refl H)))
  | non=>exact Zu (Zu (no rfl H (Zw.refl H)))
  | int x=>exact Zu (Zu (no rfl H (Zw.refl H)))
  | str ts=>exact Zu (Zu (no rfl H (Zw.refl H)))
  | opq=>exact Zu (Zu (no rfl H (Zw.refl H)))
def Jm(fs:List V6)(n:Int):Option V6:=fs.find? fun f=>decide (f.n=n)
def N0(own:Bool)(fs:List V6)(t:Th):Bool :=
 if own=true then Zyf t else Z7 t && (Z8 false ((Za t).map Z6) && (Za t).all fun p=>(Jm fs (iOf (Z6 p))).isNone && B2 100 (Vc p))
def Ii:Y3->Th->Bool
 | .whole lo hi,t=>Z4 lo hi t
 | .truth,t=>Gn "bool" t
 | .text n,t=>Od n t
 | _,_=>false
def Ox(own:Bool)(fs:List V6)(op:Bool)(a:Th)(k:Int)(u:Th):Option (List (Str×Th)):=match Jm fs k with
 | some f=>if Ue a "arm" = true then some [(f.y,u)] else none
 | none=>if (Ue a "other" && (op && (!own && B2 100 u)))=true then some [] else none
def Yo(own:Bool):Y3->Th->Option (List (Str×Th))
 | .row true y n,.tup ts=>if (ts.length:Int)<=n then some (ts.map fun u=>(y,u)) else none
 | .row false y n,t=>if (Z7 t && (decide (((Za t).length:Int)<=n) && Z8 true ((Za t).map Z6)))=true then some ((Za t).map fun p=>(y,Vc p)) else none
 | .rcd fs _,.tup [.tup ks,o]=>if (decide (ks.length=fs.length) && N0 own fs o)=true then some (List.zipWith (fun f k=>(f.y,k)) fs ks) else none
 | .cho fs _ op,.tup [a,.int k,u]=>if Z4 1 999 (.int k)=true then Ox own fs op a k u else none
 | .whole lo hi,t=>if Ii (.whole lo hi) t=true then some [] else none
 | .truth,t=>if Ii .truth t=true then some [] else none
 | .text n,t=>if Ii (.text n) t=true then some [] else none
 | _,_=>none
def Zz9(own:Bool)(ms:List (Str×Y3)):Nat->Str->Th->Bool
 | 0,_,_=>false
 | n+1,x,t=>match Jf ms x with
  | none=>false
  | some s=>match Yo own s t with
   | none=>false
   | some ps=>ps.all fun p=>Zz9 own ms n p.1 p.2
def T4(own:Bool)(ms:List (Str×Y3))(x:Str)(t:Th):Bool:=Zz9 own ms (Jn t+1) x t
theorem Zk8{own:Bool}{fs:List V6}{op:Bool}{a u:Th}{k:Int}{ps:List (Str×Th)}(h:Ox own fs op a k u=some ps):ps=[]\/∃f,ps=[(f.y,u)]/\f∈fs:=by
 unfold Ox at h
 split at h
 ·rename_i f ef
  split at h
  ·cases h;exact .inr ⟨f,rfl,List.mem_of_find?_eq_some ef⟩
  ·cases h
 ·split at h
  ·cases h;exact .inl rfl
  ·cases h
theorem Xp{fs:List V6}{ks:List Th}{p:Str×Th}(m:p∈List.zipWith (fun f k=>(f.y,k)) fs ks):(∃f∈fs,f.y=p.1)/\p.2∈ks:=by
 induction fs generalizing ks with
 | nil=>simp at m
 | cons f fs ih =>
  cases ks with
  | nil=>simp at m
  | cons k ks =>
   rw[List.zipWith_cons_cons]at m;rcases G2.mp m with rfl | m
   ·exact⟨⟨f,Te,rfl⟩,Te⟩
   ·obtain⟨⟨g,mg,e⟩,h⟩:=ih m;exact⟨⟨g,Rq _ mg,e⟩,Rq _ h⟩
theorem zip_sz{fs:List V6}{ks:List Th}:Yd ((List.zipWith (fun f k=>(f.y,k)) fs ks).map (·.2))<=Yd ks:=by
 induction fs generalizing ks with
 | nil=>simp[Yd]
 | cons f fs ih =>
  cases ks with
  | nil=>simp[Yd]
  | cons k ks =>
   rw[List.zipWith_cons_cons,R5];have:=ih (ks:=ks);simp only[Yd];omega
structure PIn(t:Th)(ps:List (Str×Th)):Prop where
 sz:Yd (ps.map (·.2))+1<=U4 t
 dp:∀p∈ps,Jn p.2+1<=Jn t
 gd:Dr t->∀p∈ps,Dr p.2
theorem ot(t:Th):PIn t []:=⟨by have:=Fy t;simp only[List.map_nil,Yd];omega,fun p m=>absurd m U6,fun _ p m=>absurd m U6⟩
theorem tf{b:Bool}{t:Th}{ps:List (Str×Th)}(h:(if b=true then some [] else none)=some ps):PIn t ps:=by
 split at h
 ·cases h;exact ot t
 ·cases h
theorem Kw{own:Bool}{s:Y3}{t:Th}{ps:List (Str×Th)}(h:Yo own s t=some ps):PIn t ps:=by
 unfold Yo at h
 split at h
 ·rename_i y n ts
  split at h
  ·cases h;refine⟨?_,fun p m=>?_,fun g p m=>?_⟩
   ·rw[List.map_map,show ((fun x=>x.2) ∘ fun u:Th=>(y,u))=id from rfl,List.map_id];exact Vj _
   ·obtain⟨u,mu,rfl⟩:=Dp.mp m;have:=Ds mu;simp only[Jn];omega
   ·obtain⟨u,mu,rfl⟩:=Dp.mp m;exact Yz.mp g u mu
  ·cases h
 ·rename_i t0 y n
  split at h
  ·cases h;refine⟨?_,fun p m=>?_,fun g p m=>?_⟩
   ·rw[List.map_map,show ((fun x=>x.2) ∘ fun p:Th=>(y,Vc p))=Vc from rfl];have:=Pw (Za t);have:=Kj t;omega
   ·obtain⟨u,mu,rfl⟩:=Dp.mp m;have:=wx mu;have:=Zvw u;show Jn (Vc u)+1<=_;omega
   ·obtain⟨u,mu,rfl⟩:=Dp.mp m;exact Zvj (Kv g u mu)
  ·cases h
 ·rename_i fs us ks o
  split at h
  ·cases h;refine⟨?_,fun p m=>?_,fun g p m=>?_⟩
   ·have:=zip_sz (fs:=fs) (ks:=ks);simp only[U4,Yd];omega
   ·have:=Ds (Xp m).2;simp only[Jn,Mr];omega
   ·exact Yz.mp g.1 _ (Xp m).2
  ·cases h
 ·rename_i fs us op a k u
  split at h
  ·rcases Zk8 h with rfl | ⟨f,rfl,_⟩
   ·exact ot _
   ·refine⟨?_,fun p m=>?_,fun g p m=>?_⟩
    ·simp only[R5,List.map_nil,U4,Yd];omega
    ·rw[N6.mp m];simp only[Jn,Mr];omega
    ·rw[N6.mp m];exact g.2.2.1
  ·cases h
 ·exact tf h
 ·exact tf h
 ·exact tf h
 ·cases h
theorem u0{own:Bool}{ms:List (Str×Y3)}:∀{n m:Nat} {x:Str} {t:Th},Jn t<n->Jn t<m->Zz9 own ms n x t=Zz9 own ms m x t
 | 0,_,_,_,h,_=>absurd h (by omega)
 | _+1,0,_,_,_,h=>absurd h (by omega)
 | n+1,m+1,x,t,h1,h2=>by
  simp only[Zz9]
  split
  ·rfl
  ·rename_i s es
   split
   ·rfl
   ·rename_i ps e
    have pi:=Kw e;exact R0 fun(p:Str×Th) mp=>u0 (n:=n) (m:=m) (x:=p.1) (t:=p.2) (by have:=pi.dp p mp;omega) (by have:=pi.dp p mp;omega)
theorem Zwq{own:Bool}{ms:List (Str×Y3)}{x:Str}{t:Th}{s:Y3}(es:Jf ms x=some s):T4 own ms x t=match Yo own s t with
  | none=>false
  | some ps=>ps.all fun p=>T4 own ms p.1 p.2:=by
 unfold T4;simp only[Zz9,es];cases e:Yo own s t with
 | none=>rfl
 | some ps =>
  have pi:=Kw e;exact R0 fun(p:Str×Th) mp=>u0 (n:=Jn t) (m:=Jn p.2+1) (x:=p.1) (t:=p.2) (by have:=pi.dp p mp;omega) (by omega)
theorem Zv2{own:Bool}{ms:List (Str×Y3)}{s:Y3}{t:Th}{ps:List (Str×Th)}(ok:pj ms s)(h:Yo own s t=some ps):∀p∈ps,(Jf ms p.1).isSome=true:=by
 unfold Yo at h
 have one:∀{b:Bool},(if b=true then some ([]:List (Str×Th)) else none)=some ps->∀p∈ps,(Jf ms p.1).isSome=true:=fun {b} h p m=>by
  split at h
  ·cases h;exact absurd m U6
  ·cases h
 intro p m
 split at h
 ·split at h
  ·cases h;obtain⟨u,mu,rfl⟩:=Dp.mp m;exact ok.1
  ·cases h
 ·split at h
  ·cases h;obtain⟨u,mu,rfl⟩:=Dp.mp m;exact ok.1
  ·cases h
 ·split at h
  ·cases h;obtain⟨⟨f,mf,e⟩,_⟩:=Xp m;rw[<-e];exact Us.y ok f mf
  ·cases h
 ·split at h
  ·rcases Zk8 h with rfl | ⟨f,rfl,mf⟩
   ·exact absurd m U6
   ·rw[N6.mp m];exact Us.y ok.1 f mf
  ·cases h
 ·exact one h p m
 ·exact one h p m
 ·exact one h p m
 ·cases h
abbrev Pm:Stmt:=top 25
abbrev Zjk:List Str:=["make","name"]
theorem dk:Zp Zjk ["make","name"] (Zv Pm):=by trivial
abbrev Cw:Stmt:=top 23
abbrev gy:List Str:=["shape","number","member"]
theorem Fl:Zp gy ["shape","number"] (Zv Cw):=by trivial
abbrev Gb:Stmt:=top 22
abbrev Q6:List Str:=["shape","thing"]
theorem Wo:Zp Q6 ["shape","thing"] (Zv Gb):=by trivial
abbrev Gy:Stmt:=top 31
abbrev Rz:List Str:=["shape","thing"]
theorem Sw:Zp Rz ["shape","thing"] (Zv Gy):=by trivial
abbrev U5:Stmt:=top 32
abbrev Nk:List Str:=["shape","thing"]
theorem Sv:Zp Nk ["shape","thing"] (Zv U5):=by trivial
abbrev Gm:Stmt:=top 34
abbrev Tc:List Str:=["shape","thing","own"]
theorem Ag:Zp Tc ["shape","thing","own"] (Zv Gm):=by trivial
abbrev U3:Stmt:=top 33
abbrev N4:List Str:=["shape","thing","own","known"]
theorem M5:Zp N4 ["shape","thing","own"] (Zv U3):=by trivial
abbrev Gk:Stmt:=top 35
abbrev Q0:List Str:=["shape","thing","own","arm","is_other"]
theorem Js:Zp Q0 ["shape","thing","own"] (Zv Gk):=by trivial
abbrev We:Stmt:=top 30
abbrev pe:List Str:=["shape","thing","own","sort"]
theorem Oh:Zp pe ["shape","thing","own"] (Zv We):=by trivial
theorem rd_up{K:W.Frag}{H H':Hp}(u:Mz K H H'){a:Addr}{k:List (Um×V)}(h:Rd H a (.dK k)):Rd H' a (.dK k):=h.imp (u.dct _ _) fun⟨o,z⟩=>⟨o,u.frz _ _ _ z⟩
theorem E7{H:Hp}{a:Addr}{k:List (Um×V)}(h:Rd H a (.dK k))(x:Um):Nl H a (kV x) (Bt k x):=.inl ⟨k,x,h,rfl,rfl⟩
structure T5(K:W.Frag)(H:Hp)(e S:Addr)(ms:List (Str×Y3)):Prop where
 e:∃v,Yv K H e [v,.ref S]
 d:∃kvs,Rd H S (.dK kvs)/\Dm K H kvs ms
theorem T5.up{K:W.Frag}{H H':Hp}{e S:Addr}{ms:List (Str×Y3)}(h:T5 K H e S ms)(u:Mz K H H'):T5 K H' e S ms :=
 let ⟨v,hv⟩:=h.e
 let ⟨kvs,q,d⟩:=h.d
 ⟨⟨v,u.tup _ _ hv⟩,kvs,rd_up u q,d.up (bf u)⟩
theorem T5.get{K:W.Frag}{H:Hp}{e S:Addr}{ms:List (Str×Y3)}(h:T5 K H e S ms){x:Str}{s:Y3}(es:Jf ms x=some s):∃kvs v,Rd H S (.dK kvs)/\Bt kvs (.inr x)=some v/\Zb K H s.t v:=by
 obtain⟨kvs,q,d⟩:=h.d;rcases d.val x with ⟨z,_⟩ | ⟨s',v,e1,e2,e3⟩
 ·rw[es]at z;cases z
 ·rw[es]at e1;cases e1;exact⟨kvs,v,q,e2,e3⟩
inductive Zw8(K:W.Frag)(vs:List V)(H:Hp)(Q:VK):Prop
 | mk(e S:Addr)(ms:List (Str×Y3))(x:Str)(s:Y3)(Vg:vs=[.ref e,.str x])(Vk:T5 K H e S ms)(V1:Jf ms x=some s)(Jk:∀v,Zb K H s.t v->Q v H)
def m8(K:W.Frag):Sp:=fun vs H Q _=>Zw8 K vs H Q
inductive Zfw(K:W.Frag)(vs:List V)(H:Hp)(Q:VK):Prop
 | mk(sv:V)(w0:Th)(r:List Th)(g:V6->Th)(fs:List V6)(n:Int)(Vg:vs=[sv,.int n])(Vk:Zb K H (.tup (w0::.tup (fs.map g)::r)) sv)(V1:(∀f,∃r,g f=.tup (.int f.n::r)))(Jk:(Jm fs n=none->Q .non H))(Mn:∀f v,Jm fs n=some f->Zb K H (g f) v->Q v H)
def au(K:W.Frag):Sp:=fun vs H Q _=>Zfw K vs H Q
def dh(p:Str×Th):Th:=.tup [.str p.1,p.2]
def PQ(K:W.Frag)(H:Hp)(Q:VK):Option (List (Str×Th))->Prop
 | none=>∀H',Zw H H'->Q .non H'
 | some ps=>∀(l:Addr) (ys:List V) (H':Hp),H l=none->Zw H H'->H' l=some (.lst ys)->Zy K H' (ps.map dh) ys->Q (.ref l) H'
def Sng:Y3->Prop
 | .whole _ _=>True
 | .truth=>True
 | .text _=>True
 | _=>False
inductive Zg9(K:W.Frag)(vs:List V)(H:Hp)(Q:VK):Prop
 | mk(sv v s t)(Vg:vs=[sv,v])(Vk:Sng s)(V1:Zb K H (Y3.t s) sv)(Jk:Zb K H t v)(Mn:Dr t)(Wb:∀H',Zw H H'->Q (.bl (Ii s t)) H')
def Zwo(K:W.Frag):Sp:=fun vs H Q _=>Zg9 K vs H Q
inductive spPR_I(K:W.Frag)(b:Bool)(vs:List V)(H:Hp)(Q:VK):Prop
 | mk(sv v y n t)(Vg:vs=[sv,v])(Vk:Zb K H (Y3.row b y n).t sv)(V1:Zb K H t v)(Jk:Dr t)(Mn:U4 t<=1000000)(Wb:PQ K H Q (Yo false (.row b y n) t))
def Zxm(K:W.Frag)(b:Bool):Sp:=fun vs H Q _=>spPR_I K b vs H Q
inductive Zfq(K:W.Frag)(vs:List V)(H:Hp)(Q:VK):Prop
 | mk(sv v fs us own t)(Vg:vs=[sv,v,.bl own])(Vk:Zb K H (Y3.rcd fs us).t sv)(V1:fs.length<=5)(Jk:Zb K H t v)(Mn:Dr t)(Wb:U4 t<=1000000)(fm:∀H',Zw H H'->Q (.bl (N0 own fs t)) H')
def Zw0(K:W.Frag):Sp:=fun vs H Q _=>Zfq K vs H Q
inductive spPD_I(K:W.Frag)(vs:List V)(H:Hp)(Q:VK):Prop
 | mk(sv v fs us own t)(Vg:vs=[sv,v,.bl own])(Vk:Zb K H (Y3.rcd fs us).t sv)(V1:fs.length<=5)(Jk:Zb K H t v)(Mn:Dr t)(Wb:U4 t<=1000000)(fm:PQ K H Q (Yo own (.rcd fs us) t))
def spPD(K:W.Frag):Sp:=fun vs H Q _=>spPD_I K vs H Q
inductive spPC_I(K:W.Frag)(vs:List V)(H:Hp)(Q:VK):Prop
 | mk(sv v fs us op own t)(Vg:vs=[sv,v,.bl own])(Vk:Zb K H (Y3.cho fs us op).t sv)(V1:fs.length<=5)(Jk:Zb K H t v)(Mn:Dr t)(Wb:U4 t<=1000000)(fm:PQ K H Q (Yo own (.cho fs us op) t))
def spPC(K:W.Frag):Sp:=fun vs H Q _=>spPC_I K vs H Q
inductive spPI_I(K:W.Frag)(vs:List V)(H:Hp)(Q:VK):Prop
 | mk(sv v s ms own t)(Vg:vs=[sv,v,.bl own])(Vk:Zb K H (Y3.t s) sv)(V1:pj ms s)(Jk:Zb K H t v)(Mn:Dr t)(Wb:U4 t<=1000000)(fm:PQ K H Q (Yo own s t))
def spPI(K:W.Frag):Sp:=fun vs H Q _=>spPI_I K vs H Q
theorem Yf{K:W.Frag}{H:Hp}{Q:VK}{o:Option (List (Str×Th))}(p:PQ K H Q o)(e:o=none){H':Hp}(s:Zw H H'):Q .non H':=by subst e;exact p H' s
theorem zw{K:W.Frag}{H:Hp}{Q:VK}{o:Option (List (Str×Th))}{ps:List (Str×Th)}(p:PQ K H Q o)(e:o=some ps){l:Addr}{ys:List V}{H':Hp}(f:H l=none)(s:Zw H H')(h:H' l=some (.lst ys))(a:Zy K H' (ps.map dh) ys):Q (.ref l) H':=by subst e;exact p l ys H' f s h a
theorem fld_at{fs:List V6}{n:Int}{i:Nat}{h:V6}(e:fs[i]?=some h)(no:∀g∈fs.take i,g.n≠n)(c:h.n=n):Jm fs n=some h:=by
 have hi:i<fs.length:=(Q8.mp e).1;have eh:fs[i]=h:=(Q8.mp e).2;have sp:fs=fs.take i++h::fs.drop (i+1):=by rw[<-eh, <-List.drop_eq_getElem_cons hi,List.take_append_drop]
 unfold Jm;rw[sp,List.find?_append];have n1:(fs.take i).find? (fun f=>decide (f.n=n))=none:=List.find?_eq_none.mpr fun g mg z=>no g mg (ph z);rw[n1,List.find?_cons,Gq c]
 rfl
theorem cc(F:Fu K "form_of" Pm f fd)(m:Bn mg):Yn P w K mg base Je 1 f fd ["make","name"] (m8 K):=by
 refine F.ok dk (fun vs H Q E h=>?_) fun _ A _ s H vs Q E hr h=>?_
 ·obtain⟨e,S,ms,x,s,rfl,_⟩:=h
  rfl
 obtain⟨e,S,ms,x,sh,rfl,mk,es,q⟩:=h;obtain⟨v0,he⟩:=mk.e;obtain⟨kvs,v,hS,ev,iv⟩:=mk.get es;refine⟨_,(@Yx _ _ _ (qr (@Zv0 _ _ _ _ _ _ _ (To hr) (iX Zk (pv 0) Zq) (pv 1) ⟨rfl,rfl,rfl,rfl⟩))), ?_⟩;refine⟨_,rfl,e,_,_,_,rfl,rfl,he,Jy,S,rfl,.inl ⟨_,hS⟩,_,rfl,_,E7 hS (.inr x), ?_⟩;rw[ev];exact q v iv
theorem zc(F:Fu K "member_of" Cw f fd)(m:Bn mg):Yn P w K mg base Je 1 f fd ["shape","number"] (au K):=by
 refine F.ok Fl (fun vs H Q E h=>?_) fun _ A _ s H vs Q E hr h=>?_
 ·obtain⟨sv,w0,r,g,fs,n,rfl,_⟩:=h
  rfl
 obtain⟨sv,w0,r,g,fs,n,rfl,is,hg,qn,q⟩:=h;obtain⟨a,ws,rfl,ha,w1,ws',rfl,i1,w2,ws2,rfl,i2,i3⟩:=is;obtain⟨pa,xs,rfl,fg,axs⟩:=i2;refine⟨_,(@Zf _ _ _ _ _ (Dz PassesOwn.never rfl (qI (iX Zk (pv 0) Zq)) (nJ 2 Fl.nd) (q1 (qi (tQ Ym (iX Zk (pv 2) Zq) (pv 1)) (q1 (qr (pv 2))) Zd))) (q1 (qr Gd))), ?_⟩;refine⟨_,rfl,a,_,_,_,rfl,rfl,ha,Jy,pa,rfl,⟨_,fg⟩, ?_⟩;refine Zzl (K:=K) (xs:=xs) (fun i σ H5=>(∃o',σ=[some (.ref a),some (.int n),o'])/\H5=H/\∀h∈fs.take i,h.n≠n) ⟨⟨_,rfl⟩,rfl,fun h m=>absurd m U6⟩ ?_ ?_ ?_
 ·intro i σ H5 hi la;refine Zc fun _ Y5=>?_;obtain⟨_,rfl,_⟩:=la;refine Y5 ?_;exact fg
 ·intro i x σ H5 hx K2;refine Zc fun _ Vm=>?_;obtain⟨⟨o',rfl⟩,rfl,no⟩:=K2;obtain⟨t,et,it⟩:=axs.got hx;rw[Ma]at et;obtain⟨h,eh,rfl⟩:=Qe.mp et;have it0:=it;obtain⟨rr,er⟩:=hg h;rw[er]at it;obtain⟨b,ys,rfl,hb,y1,yr,rfl,j1,_⟩:=it;cases Zr j1;refine Vm ?_;refine⟨_,rfl,b,_,_,_,rfl,rfl,hb,at0,_,rfl,rfl,_,rfl, ?_⟩;refine Vw (fun c=>?_) (fun c=>?_)
  ·have c:h.n=n:=by injection ph c
   exact⟨_,rfl,q h _ (fld_at eh no c) it0⟩
  ·refine⟨⟨_,rfl⟩,rfl,fun z mz=>?_⟩;rw[Zs eh]at mz;rcases T6.mp mz with mz | mz
   ·exact no z mz
   ·rw[N6.mp mz];exact fun e=>c (by rw[e];exact Gq rfl)
 ·intro σ H5 K1;refine Zc fun _ Vh=>?_;obtain⟨_,rfl,no⟩:=K1;refine Vh ?_;rw[<-axs.length,Yp,fc]at no;exact qn (List.find?_eq_none.mpr fun g mg z=>no g mg (ph z))
theorem Ly(F:Fu K "is_single_value" Gb f fd)(m:Bn mg)(Nj:Fn P w K mg base 1 "is_whole" ["thing","low","high"] (Nh K))(P2:Fn P w K mg base 1 "is_text" ["thing","most"] (B5 K)):Yn P w K mg base Je 2 f fd ["shape","thing"] (Zwo K):=by
 refine F.ok Wo (fun vs H Q E h=>?_) fun _ A _ s H vs Q E hr h=>?_
 ·obtain⟨sv,v,s,t,rfl,_⟩:=h
  rfl
 obtain⟨sv,v,s0,t,rfl,sg,is,ht,gd,q⟩:=h;refine⟨_,(@Zf _ _ _ _ _ (qi (tQ Ym (iX Zk (pv 0) Zq) Zm) (q1 (qr (cF Nj hr (Zg (pv 1) (Zg (iX Zk (pv 0) Zq) (Zg (iX Zk (pv 0) Zq) Zx)))))) Zd) (qs (qi (tQ Ym (iX Zk (pv 0) Zq) Zm) (q1 (qr (cB Ze m.isinstance Zh (Zg (pv 1) (Zg (Yy rfl m.bool qb (by decide) (by decide)) Zx))))) Zd) (q1 (qr (qa (eQ Ym (iX Zk (pv 0) Zq) Zm) (qe (cF P2 hr (Zg (pv 1) (Zg (iX Zk (pv 0) Zq) Zx))))))))), ?_⟩;cases s0 with
 | whole lo hi =>
  refine Zc fun _ Vs=>?_;obtain⟨a,ws,rfl,ha,at'⟩:=is;obtain⟨w1,w2,w3,rfl,i1,i2,i3⟩:=Mu at';cases Zr i1;cases Zr i2;cases Zr i3;refine Vs ?_;refine⟨_,rfl,a,_,_,_,rfl,rfl,ha,at0,rfl,_,rfl,iY ?_⟩;exact⟨_,rfl,_,rfl,a,_,_,_,rfl,rfl,ha,Jy,_,rfl,a,_,_,_,rfl,rfl,ha,Oz,v,t,_,_,rfl,ht,q H (Zw.refl H)⟩
 | truth =>
  refine Zc fun _ Vu=>?_;obtain⟨a,ws,rfl,ha,at'⟩:=is;obtain⟨w1,rfl,i1⟩:=A7 at';cases Zr i1;refine Vu ?_;refine⟨_,rfl,a,_,_,_,rfl,rfl,ha,at0,rfl,_,rfl,iN ?_⟩;refine⟨_,rfl,a,_,_,_,rfl,rfl,ha,at0,rfl,_,rfl,iY ?_⟩;exact⟨_,rfl,_,_,t,rfl,ht,(by simp),q H (Zw.refl H)⟩
 | text n =>
  refine Zc fun _ Ug=>?_;obtain⟨a,ws,rfl,ha,at'⟩:=is;obtain⟨w1,w2,rfl,i1,i2⟩:=A6 at';cases Zr i1;cases Zr i2;refine Ug ?_
  iterate 2 refine⟨_,rfl,a,_,_,_,rfl,rfl,ha,at0,rfl,_,rfl,iN ?_⟩
  refine⟨_,rfl,a,_,_,_,rfl,rfl,ha,at0,rfl,_,rfl,iY ?_⟩;exact⟨_,rfl,_,rfl,a,_,_,_,rfl,rfl,ha,Jy,v,t,n,rfl,ht,gd,q⟩
 | row _ _ _=>exact sg.elim
 | rcd _ _=>exact sg.elim
 | cho _ _ _=>exact sg.elim
theorem Sy(F:Fu K "parts_in_row" Gy f fd)(m:Bn mg):Yn P w K mg base Je 1 f fd ["shape","thing"] (Zxm K true):=by
 refine F.ok Sw (fun vs H Q E h=>?_) fun _ A _ s H vs Q E hr h=>?_
 ·obtain⟨sv,v,y,n,t,rfl,_⟩:=h
  rfl
 obtain⟨sv,v,y,n,t,rfl,is,ht,gd,hz,q⟩:=h;obtain⟨a,ws,rfl,ha,at'⟩:=is;obtain⟨w1,w2,w3,rfl,i1,i2,i3⟩:=Mu at';cases Zr i2;cases Zr i3;refine⟨_,(@Zf _ _ _ _ _ (qi (qp (qO (qn (Yg (cB Ze m.isinstance Zh (Zg (pv 1) (Zg (Yy rfl m.tuple Yr (by decide) (by decide)) Zx))) (by intro _;rfl))) (qQ (tQ Ia (cB Zn m.len Vv (Zg (pv 1) Zx)) (iX Zk (pv 0) Zq))))) (q1 (qr Gd)) Zd) (q1 (qr (pC Rz (Zv Gy) ["part","shape"] [none,some 0] (qI (pv 1)) (fun _ _ _=>(nI 0)) (fun _ _ _=>Z1) (fun _ _ _=>(qt (Zg (iX Zk (pv 1) Zq) (Zg (pv 0) Zx)))))))), ?_⟩;refine⟨_,rfl,_,_,t,rfl,ht,(by simp),_,rfl, ?_⟩;cases t with
 | tup ts =>
  refine Zc fun _ Uk=>?_;obtain⟨b,xs,rfl,hb,ab⟩:=ht;refine Uk ?_;have hl:=Jz hz;refine Y6 ⟨_,rfl,b,xs,rfl,.inr hb,_,rfl,a,_,_,_,rfl,rfl,ha,Oz,_,_,rfl,rfl,_,rfl, ?_⟩;by_cases c:(ts.length:Int)<=n
  ·refine Z5 (My (by rw[<-ab.length];omega)) ?_;refine⟨_,rfl,b,rfl,⟨_,hb⟩,fun D fp sx hD=>?_⟩;refine Ub (f:=fun u=>dh (y,u)) hb ab hl hD (fun u v H5 Q5 mu s5 i5 q5=>?_) fun H6 w6 s6 h6 a6=>zw q (if_pos c) hD s6 h6 ?_
   ·refine⟨_,rfl,a,_,_,_,rfl,rfl,s5.up _ _ ha,Jy,_,rfl,(sz 2),fun e he=>?_⟩;have s6:=Zw.lay (o:=.tup [.str y,v]) he;exact q5 (.ref e) _ s6 ⟨e,_,rfl,Yv.of Zz,_,_,rfl,rfl,_,_,rfl,Zb.up s6.upT _ _ i5,rfl⟩
   ·rw[List.map_map];exact a6
  ·refine Yj (Gq (by rw[<-ab.length];omega)) (Yf q (if_neg c) (Zw.refl H))
 | bl b=>exact Zu (Zu (Yf q rfl (Zw.refl H)))
 | non=>exact Zu (Zu (Yf q rfl (Zw.refl H)))
 | int x=>exact Zu (Zu (Yf q rfl (Zw.refl H)))
 | str ts=>exact Zu (Zu (Yf q rfl (Zw.refl H)))
 | opq=>exact Zu (Zu (Yf q rfl (Zw.refl H)))
theorem Zzn{ts:List Th}(gd:Dr (.tup ts)):yh (ts.map Z6):=Yz.mpr fun t' mt=>by
 obtain⟨t2,m2,rfl⟩:=Dp.mp mt;exact rj (Yz.mp gd t2 m2)
theorem Pd{t:Th}(h:Z7 t=true):∃ts,t=.tup ts:=by
 cases t with
 | tup ts=>exact⟨ts,rfl⟩
 | _=>cases h
theorem Sk(F:Fu K "parts_in_map" U5 f fd)(m:Bn mg)(Gz:Fn P w K mg base 1 "are_pairs" ["thing"] (Ff K))(Jj:Fn P w K mg base 3 "are_labels" ["things","is_label"] (Bc P w K mg base)){f1:Addr}(Pj:mg "is_name" = some (.ref f1))(l1:gh P w K mg base true f1):Yn P w K mg base Je 4 f fd ["shape","thing"] (Zxm K false):=by
 refine F.ok Sv (fun vs H Q E h=>?_) fun _ A _ s H vs Q E hr h=>?_
 ·obtain⟨sv,v,y,n,t,rfl,_⟩:=h
  rfl
 obtain⟨sv,v,y,n,t,rfl,is,ht,gd,hz,q⟩:=h;obtain⟨a,ws,rfl,ha,at'⟩:=is;obtain⟨w1,w2,w3,rfl,i1,i2,i3⟩:=Mu at';cases Zr i2;cases Zr i3;refine⟨_,(@Zf _ _ _ _ _ (qi (qp (qO (qn (Yg (cF Gz hr (Zg (pv 1) Zx)) (by intro _;rfl))) (qO (tQ Ia (cB Zn m.len Vv (Zg (pv 1) Zx)) (iX Zk (pv 0) Zq)) (qQ (qn (Yg (cF Jj hr (Zg (pC Nk (Zv U5) ["pair"] [none] (qI (pv 1)) (fun _ _ _=>(nI 0)) (fun _ _ _=>Z1) (fun _ _ _=>(iX Zk (pv 0) Zq))) (Zg (@Fo _ _ _ _ rfl Pj (by decide)) Zx))) (by intro _;rfl))))))) (q1 (qr Gd)) Zd) (q1 (qr (pC Nk (Zv U5) ["pair","shape"] [none,some 0] (qI (pv 1)) (fun _ _ _=>(nI 0)) (fun _ _ _=>Z1) (fun _ _ _=>(qt (Zg (iX Zk (pv 1) Zq) (Zg (iX Zk (pv 0) Zq) Zx)))))))), ?_⟩;have un:Yo false (.row false y n) t=if (Z7 t && (decide (((Za t).length:Int)<=n) && Z8 true ((Za t).map Z6)))=true then some ((Za t).map fun p=>(y,Vc p)) else none:=by cases t<;>rfl
 rw[un]at q;refine⟨_,rfl,v,t,rfl,ht,hz,fun H1 s1=>⟨_,rfl, ?_⟩⟩;by_cases c1:Z7 t=true
 ·refine Z5 (by rw[c1];rfl) ?_;refine Zc fun _ U1=>?_;obtain⟨ts,rfl⟩:=Pd c1;have ht1:=Zb.up (K:=K) s1.upT _ _ ht;have ht1':=ht1;obtain⟨b,xs,rfl,hb,ab⟩:=ht1;refine U1 ?_;have hl:=Jz hz;have ha1:=s1.up (K:=K) _ _ ha;refine⟨_,rfl,b,xs,rfl,.inr hb,_,rfl,a,_,_,_,rfl,rfl,ha1,Oz,_,_,rfl,rfl,_,rfl, ?_⟩;by_cases c:(ts.length:Int)<=n
  ·refine Z5 (My (by rw[<-ab.length];omega)) ⟨_,rfl, ?_⟩;refine⟨b,rfl,⟨_,hb⟩,fun D fp sx hD=>?_⟩;refine Ub (f:=Z6) hb ab hl hD (fun t' v' H5 Q5 mt s5 i5 q5=>?_) fun H6 xs s6 h6 ar=>⟨D,f1,true,ts.map Z6,xs,rfl,l1,Z0.of h6,ar,by rw[Yp];exact hl,Zzn gd,fun H2 s2=>⟨_,rfl, ?_⟩⟩
   ·refine Zc fun _ Y5=>?_;obtain⟨x,y,rfl⟩:=Dl (Wv.mp c1 t' mt);obtain⟨p,vx,vy,rfl,Xq,ix,iy⟩:=Bo i5;refine Y5 ?_;exact⟨_,rfl,p,_,_,_,rfl,rfl,Xq,at0,q5 vx H5 (Zw.refl H5) ix⟩
   have s2:=s6.trans s2;have Bm:=s1.trans s2;rw[c1,show decide (((Za (.tup ts)).length:Int)<=n)=true from Gq c,O9,O9]at q;by_cases c3:Z8 true ((Za (.tup ts)).map Z6)=true
   ·refine Z5 (by rw[show Z8 true (ts.map Z6)=true from c3];rfl) ?_;refine⟨_,rfl,b,rfl,⟨_,s2.up _ _ hb⟩,fun D fp sx hD=>?_⟩;refine Ub (f:=fun u=>dh (y,Vc u)) (s2.up _ _ hb) (Zy.up s2.upT _ _ ab) hl hD (fun u v H5 Q5 mu s5 i5 q5=>?_) fun H6 w6 s6 h6 a6=>zw q (if_pos c3) (Bm.free hD) (Bm.trans s6) h6 ?_
    ·refine Zc fun _ Vm=>?_;obtain⟨x,z,rfl⟩:=Dl (Wv.mp c1 u mu);obtain⟨p,vx,vy,rfl,Xq,ix,iy⟩:=Bo i5;refine Vm ?_;refine⟨_,rfl,a,_,_,_,rfl,rfl,(Bm.trans s5).up _ _ ha,Jy,_,rfl,p,_,_,_,rfl,rfl,Xq,Jy,(sz 2),fun e he=>?_⟩;have s6:=Zw.lay (o:=.tup [.str y,vy]) he;exact q5 (.ref e) _ s6 ⟨e,_,rfl,Yv.of Zz,_,_,rfl,rfl,_,_,rfl,Zb.up s6.upT _ _ iy,rfl⟩
    ·rw[List.map_map];exact a6
   ·exact Yj (by rw[show Z8 true (ts.map Z6)=false from nf c3];rfl) (Yf q (if_neg c3) Bm)
  ·refine Yj (Gq (by rw[<-ab.length];omega)) (Zu (Yf q (if_neg ?_) s1));rw[show decide (((Za (.tup ts)).length:Int)<=n)=false from My c,Om,Bool.and_false]
   decide
 ·refine Yj (by rw[nf c1];rfl) (Zu (Yf q (if_neg ?_) s1));rw[nf c1,Om]
  decide
abbrev Jh:Stmt:=top 29
abbrev Lu:List Str:=["make","name","thing","own","waiting","part","inner"]
theorem Uw:Zp Lu ["make","name","thing","own"] (Zv Jh):=by trivial
abbrev W6:Stmt:=top 27
abbrev uf:List Str:=["make","name","thing"]
theorem ji:Zp uf ["make","name","thing"] (Zv W6):=by trivial
abbrev E3:Stmt:=top 28
abbrev Zgw:List Str:=["make","name","thing"]
theorem Zxh:Zp Zgw ["make","name","thing"] (Zv E3):=by trivial
def Nt(fs:List V6)(p:Th):Bool:=(Jm fs (iOf (Z6 p))).isNone && B2 100 (Vc p)
theorem fld_t(f:V6):∃r,f.t=.tup (.int f.n::r):=⟨_,rfl⟩
theorem fld_a(f:V6):∃r,f.a=.tup (.int f.n::r):=⟨_,rfl⟩
theorem Zzk{ts:List Th}{a b:Th}(h:Z8 false (ts.map Z6)=true)(m:.tup [a,b]∈ts):∃k,a=.int k:=by
 have h1:=(fq.mp h).1;have h2:=Wv.mp h1 a (Dp.mpr ⟨_,m,rfl⟩);cases a with
 | int k=>exact⟨k,rfl⟩
 | _=>exact absurd h2 (by simp[Jb,Z4])
inductive Zwu(K:W.Frag)(vs:List V)(H:Hp)(Q:VK):Prop
 | mk(e S:Addr)(ms:List (Str×Y3))(x:Str)(v:V)(t:Th)(own:Bool)(Vg:vs=[.ref e,.str x,v,.bl own])(Vk:T5 K H e S ms)(V1:Rx ms)(Jk:(Jf ms x).isSome=true)(Mn:Zb K H t v)(Wb:Dr t)(fm:U4 t<=1000000)(h7_:∀H',Zw H H'->Q (.bl (T4 own ms x t)) H')
def X1(K:W.Frag):Sp:=fun vs H Q _=>Zwu K vs H Q
inductive Zfg(K:W.Frag)(own:Bool)(vs:List V)(H:Hp)(Q:VK):Prop
 | mk(e S:Addr)(ms:List (Str×Y3))(x:Str)(v:V)(t:Th)(Vg:vs=[.ref e,.str x,v])(Vk:T5 K H e S ms)(V1:Rx ms)(Jk:(Jf ms x).isSome=true)(Mn:Zb K H t v)(Wb:Dr t)(fm:U4 t<=1000000)(h7_:∀H',Zw H H'->Q (.bl (T4 own ms x t)) H')
def Oc(K:W.Frag)(own:Bool):Sp:=fun vs H Q _=>Zfg K own vs H Q
theorem ba:∀ps:List (Str×Th),ps.length<=Yd (ps.map (·.2))
 | []=>Vj _
 | p::ps=>by
  have:=ba ps;have:=Fy p.2;simp only[R5,Yd,S6];omega
theorem zq{own:Bool}{fs:List V6}{us:List Int}{ts:List Th}(h:ts.length≠2):Yo own (.rcd fs us) (.tup ts)=none:=by
 match ts with
 | []=>rfl
 | [x]=>cases x<;>rfl
 | [_,_]=>exact absurd rfl h
 | x::_::_::_=>cases x<;>rfl
theorem Ef{own:Bool}{fs:List V6}{us:List Int}{op:Bool}{ts:List Th}(h:ts.length≠3):Yo own (.cho fs us op) (.tup ts)=none:=by
 match ts with
 | []=>rfl
 | [x]=>rfl
 | [_,y]=>cases y<;>rfl
 | [_,_,_]=>exact absurd rfl h
 | x::y::_::_::_=>cases y<;>rfl
theorem Ac(F:Fu K "are_others" Gm f fd)(m:Bn mg)(Gz:Fn P w K mg base 1 "are_pairs" ["thing"] (Ff K))(Jj:Fn P w K mg base 3 "are_labels" ["things","is_label"] (Bc P w K mg base)){f2:Addr}(T9:mg "is_number" = some (.ref f2))(l2:gh P w K mg base false f2)(C1:Fn P w K mg base 1 "member_of" ["shape","number"] (au K))(P4:Fn P w K mg base 6 "is_item" ["thing"] (Fm K)):Yn P w K mg base Je 7 f fd ["shape","thing","own"] (Zw0 K):=by
 refine F.ok Ag (fun vs H Q E h=>?_) fun _ A _ s H vs Q E hr h=>?_
 ·obtain⟨sv,v,fs,us,own,t,rfl,_⟩:=h
  rfl
 obtain⟨sv,v,fs,us,own,t,rfl,is,l5,ht,gd,hz,q⟩:=h;refine⟨_,(@Zf _ _ _ _ _ (qi (Yg (pv 2) (by intro _;rfl)) (q1 (qr (eQ tj (pv 1) (qt Zx)))) Zd) (qs (qi (qp (qO (qn (Yg (cF Gz hr (Zg (pv 1) Zx)) (by intro _;rfl))) (qQ (qn (Yg (cF Jj hr (Zg (pC Tc (Zv Gm) ["pair"] [none] (qI (pv 1)) (fun _ _ _=>(nI 0)) (fun _ _ _=>Z1) (fun _ _ _=>(iX Zk (pv 0) Zq))) (Zg (@Fo _ _ _ _ rfl T9 (by decide)) Zx))) (by intro _;rfl)))))) (q1 (qr Vz)) Zd) (q1 (qr (cB (Ye rfl) m.all G3 (Zg (pC Tc (Zv Gm) ["number","item","shape"] [none,none,some 0] (qI (pv 1)) (fun _ _ _=>(N9 rfl (Ys (nI 0) (Ys (nI 1) Dn)))) (fun _ _ _=>Z1) (fun _ _ _=>(qa (eQ tq (cF C1 hr (Zg (pv 2) (Zg (pv 0) Zx))) Gd) (qe (cF P4 hr (Zg (pv 1) Zx)))))) Zx)))))), ?_⟩;have hu:=Ur.units0 hr;refine⟨_,rfl,_,rfl, ?_⟩;cases own with
 | true =>
  refine Yj rfl ⟨_,rfl,(sz 0),fun e0 h0=>?_⟩;have s0:=Zw.lay (o:=.tup []) h0;exact⟨t,e0,Zb.up s0.upT _ _ ht,rfl,Yv.of Zz,hu,q _ s0⟩
 | false =>
  have q:∀H',Zw H H'->Q (.bl (Z7 t && (Z8 false ((Za t).map Z6) && (Za t).all (Nt fs)))) H':=q;refine Z5 rfl ⟨_,rfl,v,t,rfl,ht,hz,fun H1 s1=>⟨_,rfl, ?_⟩⟩;by_cases c1:Z7 t=true
  ·refine Z5 (by rw[c1];rfl) ⟨_,rfl, ?_⟩;obtain⟨ts,rfl⟩:=Pd c1;obtain⟨b,xs,rfl,hb,ab⟩:=Zb.up (K:=K) s1.upT _ _ ht;have hl:=Jz hz;refine⟨b,rfl,⟨_,hb⟩,fun D fp sx hD=>?_⟩;refine Ub (f:=Z6) hb ab hl hD (fun t' v' H5 Q5 mt s5 i5 q5=>?_) fun H6 ys s6 h6 ar=>⟨D,f2,false,ts.map Z6,ys,rfl,l2,Z0.of h6,ar,by rw[Yp];exact hl,Zzn gd,fun H2 s2=>⟨_,rfl, ?_⟩⟩
   ·obtain⟨x,y,rfl⟩:=Dl (Wv.mp c1 t' mt);obtain⟨p,vx,vy,rfl,Xq,ix,iy⟩:=Bo i5;exact⟨_,rfl,p,_,_,_,rfl,rfl,Xq,at0,q5 vx H5 (Zw.refl H5) ix⟩
   have s2:=s6.trans s2;have Bm:=s1.trans s2;rw[c1,O9]at q;by_cases c3:Z8 false (ts.map Z6)=true
   ·refine Z5 (by rw[c3];rfl) ?_;have c3':Z8 false ((Za (.tup ts)).map Z6)=true:=c3;rw[c3',O9]at q;refine⟨_,rfl,b,rfl,⟨_,s2.up _ _ hb⟩,fun D fp sx hD=>?_⟩;have hD0:=hD;refine D6 (K:=K) (a:=b) (xs:=xs) (fun i ys σ H5=>(∃o1 o2,σ=[o1,o2,some sv])/\ys=((ts.take i).map (Nt fs)).map V.bl/\Zw H2 H5/\H5 D=some (.lst ys)) ⟨⟨_,_,rfl⟩,rfl,(Zw.refl H2).put hD,Zz⟩ ?_ ?_ ?_
    ·rintro i ys σ H5 hi ⟨_,_,s5,h5⟩;exact⟨(s2.trans s5).up _ _ hb,h5⟩
    ·rintro i x ys σ H5 hx ⟨⟨o1,o2,rfl⟩,rfl,s5,h5⟩;obtain⟨t',et,it⟩:=ab.got hx;have mt:=Ow et;obtain⟨u,z,rfl⟩:=Dl (Wv.mp c1 t' mt);obtain⟨k,rfl⟩:=Zzk c3 mt;have s25:=s2.trans s5;obtain⟨p,vx,vy,rfl,Xq,ix,iy⟩:=Bo (Zb.up s25.upT _ _ it);cases Zr ix
     have fin:∀H7,Zw H5 H7->H7 D=some (.lst (((ts.take i).map (Nt fs)).map V.bl))/\(((ts.take i).map (Nt fs)).map V.bl).length<sizeLine/\(∃o1 o2,([some (V.int k),some vy,some sv]:L2.St)=[o1,o2,some sv])/\((ts.take i).map (Nt fs)).map V.bl++[V.bl (Nt fs (.tup [.int k,z]))]=((ts.take (i+1)).map (Nt fs)).map V.bl/\Zw H2 (Yq H7 D (.lst (((ts.take i).map (Nt fs)).map V.bl++[V.bl (Nt fs (.tup [.int k,z]))])))/\Yq H7 D (.lst (((ts.take i).map (Nt fs)).map V.bl++[V.bl (Nt fs (.tup [.int k,z]))])) D=some (.lst (((ts.take i).map (Nt fs)).map V.bl++[V.bl (Nt fs (.tup [.int k,z]))])):=fun H7 s7=>by
      refine⟨s7 _ _ h5, ?_,⟨_,_,rfl⟩, ?_,(s5.trans s7).put hD0,Zz⟩
      ·rw[Yp,Yp,T1];exact Iz (Gw (Nat.min_le_right _ _) hl) (by decide)
      ·rw[Zs et,Gj,Gj];rfl
     have gz:=Yz.mp gd _ mt
     have zz:U4 z<=1000000:=by
      have:=Fk mt;simp only[U4,Yd]at this hz;omega
     refine⟨p,_,rfl,Xq,rfl,_,_,rfl,_,_,rfl,rfl,Qo ?_⟩;refine⟨_,rfl,_,rfl,sv,_,_,V6.t,fs,k,rfl,Zb.up (Bm.trans s5).upT _ _ is,fld_t,fun en=>⟨rfl,_,rfl,Yj rfl ?_⟩,fun g gv eg ig=>⟨rfl,_,rfl,Z5 ?_ ?_⟩⟩
     ·refine⟨_,rfl,vy,z,rfl,iy,gz.2.1,zz,fun H7 s7=>?_⟩;have e1:Nt fs (.tup [.int k,z])=B2 100 z:=by show ((Jm fs k).isNone && B2 100 z)=_;rw[en];rfl
      rw[<-e1];exact fin H7 s7
     ·obtain⟨_,_,rfl,_⟩:=ig
      rfl
     ·have e1:Nt fs (.tup [.int k,z])=false:=by show ((Jm fs k).isNone && B2 100 z)=_;rw[eg];rfl
      rw[<-e1];exact fin H5 (Zw.refl H5)
    ·rintro ys σ H5 ⟨_,rfl,s5,h5⟩;refine⟨D,_,rfl,Z0.of h5, ?_⟩;rw[<-ab.length,fc,List.all_map];exact q H5 (Bm.trans s5)
   ·refine Yj (by rw[nf c3];rfl) ?_;have c3':Z8 false ((Za (.tup ts)).map Z6)=false:=nf c3;rw[c3',Om]at q;exact q _ Bm
  ·refine Yj (by rw[nf c1];rfl) (Zu ?_);rw[nf c1,Om]at q;exact q _ s1
theorem Lw(F:Fu K "parts_in_record" U3 f fd)(m:Bn mg)(xu:Fn P w K mg base 7 "are_others" ["shape","thing","own"] (Zw0 K)):Yn P w K mg base Je 8 f fd ["shape","thing","own"] (spPD K):=by
 refine F.ok M5 (fun vs H Q E h=>?_) fun _ A _ s H vs Q E hr h=>?_
 ·obtain⟨sv,v,fs,us,own,t,rfl,_⟩:=h
  rfl
 obtain⟨sv,v,fs,us,own,t,rfl,is,l5,ht,gd,hz,q⟩:=h;have is0:=is;obtain⟨a,ws,rfl,ha,at'⟩:=is;obtain⟨w1,w2,w3,rfl,i1,i2,i3⟩:=Mu at';obtain⟨fa,fws,rfl,O1,afs⟩:=i2;refine⟨_,(@Zf _ _ _ _ _ (qi (qp (qO (qn (Yg (cB Ze m.isinstance Zh (Zg (pv 1) (Zg (Yy rfl m.tuple Yr (by decide) (by decide)) Zx))) (by intro _;rfl))) (qQ (tQ Oa (cB Zn m.len Vv (Zg (pv 1) Zx)) Zq)))) (q1 (qr Gd)) Zd) (qs (sI 3 M5.nd (iX Zk (pv 1) Zq)) (qs (qi (qp (qO (qn (Yg (cB Ze m.isinstance Zh (Zg (pv 3) (Zg (Yy rfl m.tuple Yr (by decide) (by decide)) Zx))) (by intro _;rfl))) (qO (tQ Oa (cB Zn m.len Vv (Zg (pv 3) Zx)) (cB Zn m.len Vv (Zg (iX Zk (pv 0) Zq) Zx))) (qQ (qn (Yg (cF xu hr (Zg (pv 0) (Zg (iX Zk (pv 1) Zq) (Zg (pv 2) Zx)))) (by intro _;rfl))))))) (q1 (qr Gd)) Zd) (q1 (qr (pC N4 (Zv U3) ["field","part"] [none,none] (@zv _ _ _ _ _ _ _ _ _ rfl m.zip (Zg (iX Zk (pv 0) Zq) (Zg (pv 3) Zx)) (by trivial) (by trivial)) (fun _ _ _=>(N9 rfl (Ys (nI 0) (Ys (nI 1) Dn)))) (fun _ _ _=>Z1) (fun _ _ _=>(qt (Zg (iX Zk (pv 0) Zq) (Zg (pv 1) Zx)))))))))), ?_⟩;have lfw:fws.length=fs.length:=by rw[<-afs.length,Yp]
 refine⟨_,rfl,_,_,t,rfl,ht,(by simp),_,rfl, ?_⟩;cases t with
 | tup ts =>
  have ht0:=ht;obtain⟨b,xs,rfl,hb,ab⟩:=ht;refine Y6 ⟨_,rfl,b,xs,rfl,.inr hb,rfl,_,rfl, ?_⟩
  match ts,ab with
  | [k,o],ab =>
   obtain⟨v1,v2,rfl,ik,io⟩:=A6 ab;refine Z5 rfl ?_;refine⟨_,rfl,b,_,_,_,rfl,rfl,hb,at0, ?_⟩;refine⟨_,rfl,_,_,k,rfl,ik,(by simp),_,rfl, ?_⟩;by_cases ck:Gn "tuple" k=true
   ·obtain⟨ks,rfl⟩:=El ck;obtain⟨ka,kx,rfl,hka,akx⟩:=ik;refine Y6 ⟨_,rfl,ka,kx,rfl,.inr hka,_,rfl,a,_,_,_,rfl,rfl,ha,Jy,fa,fws,rfl,.inr O1,rfl,_,rfl, ?_⟩;have un:Yo own (.rcd fs us) (.tup [.tup ks,o])=if (decide (ks.length=fs.length) && N0 own fs o)=true then some (List.zipWith (fun f k=>(f.y,k)) fs ks) else none:=rfl
    rw[un]at q;by_cases cl:ks.length=fs.length
    ·refine Z5 (by rw[<-akx.length,cl,lfw];show (!decide _)=false;rw[Gq rfl];rfl) ?_;rw[Gq cl,O9]at q;have zo:U4 o<=1000000:=fw me2 hz;refine⟨_,rfl,_,rfl,b,_,_,_,rfl,rfl,hb,Jy,_,rfl,.ref a,v2,fs,us,own,o,rfl,is0,l5,io,gd.2.1,zo,fun H1 s1=>⟨_,rfl, ?_⟩⟩;by_cases co:N0 own fs o=true
     ·refine Z5 (by rw[co];rfl) ?_;have hfa1:=s1.up (K:=K) _ _ O1;have hka1:=s1.up (K:=K) _ _ hka;refine⟨_,rfl,a,_,_,_,rfl,rfl,s1.up _ _ ha,Jy,_,rfl,fa,ka,rfl,⟨_,hfa1⟩,⟨_,hka1⟩,fun D fp sx hD=>?_⟩;have lkx:kx.length=fs.length:=by rw[<-akx.length];exact cl
      refine P7 (K:=K) (xs:=fws) (ys:=kx) (fun i ys σ H5=>(∃o1 o2,σ=[o1,o2])/\Zw H1 H5/\H5 D=some (.lst ys)/\Zy K H5 (((List.zipWith (fun f k=>(f.y,k)) fs ks).take i).map dh) ys)
       ⟨⟨_,_,rfl⟩,Zw.lay hD,Zz,rfl⟩ ?_ ?_ ?_
      ·rintro i ys σ H5 hi ⟨_,s5,h5,_⟩;exact⟨s5.up _ _ hfa1,s5.up _ _ hka1,h5⟩
      ·rintro i xv yv p ys σ H5 hx hy ⟨⟨o1,o2,rfl⟩,s5,h5,a1⟩ hpn;obtain⟨t,et,it⟩:=afs.got hx;rw[Ma]at et;obtain⟨g,eg,rfl⟩:=Qe.mp et;obtain⟨k,ek,ik⟩:=akx.got hy;have ez:(List.zipWith (fun f k=>(f.y,k)) fs ks)[i]?=some (g.y,k):=by rw[List.getElem?_zipWith,eg,ek]
       have sP:=Zw.lay (o:=.tup [xv,yv]) hpn;have s6:=s5.trans sP;have s16:=s1.trans s6;obtain⟨c,cs,rfl,hc,ac⟩:=it;obtain⟨c1,c2,c3,c4,rfl,j1,j2,j3,j4⟩:=A5 ac;cases Zr j3;refine⟨p,_,rfl,Yv.of Zz,rfl,_,_,rfl,_,_,rfl,rfl,Qo ?_⟩;refine⟨_,rfl,c,_,_,_,rfl,rfl,s16.up _ _ hc,Oz,_,rfl,(sz 2),fun e he=>?_⟩;have sE:=Zw.lay (o:=.tup [.str g.y,yv]) he;have hD6:=sE _ _ (sP _ _ h5);have uS:Mz K _ (Yq _ D (.lst (ys++[.ref e]))):=Y8 hD6;refine⟨hD6, ?_,⟨_,_,rfl⟩,(s6.trans sE).put hD,Zz, ?_⟩
       ·rw[<-a1.length,Yp,T1,ud];exact Yi (by omega)
       ·rw[Zs ez,Gj];exact Zy.append (Zy.up ((sP.trans sE).upT.trans uS) _ _ a1) (Zy.one (Zb.up uS _ _ ⟨e,_,rfl,Yv.of Zz,_,_,rfl,rfl,_,_,rfl,Zb.up (s16.trans sE).upT _ _ ik,rfl⟩))
      ·rintro ys σ H5 ⟨_,s5,h5,a1⟩;rw[lfw,lkx,Nat.min_self,Xt (by rw[ud];omega)]at a1;exact zw q (if_pos co) (s1.free hD) (s1.trans s5) h5 a1
     ·exact Yj (by rw[nf co];rfl) (Yf q (if_neg co) s1)
    ·refine Yj (by rw[<-akx.length,lfw];show (!decide _)=true;rw[My (fun z=>cl (by injection z with z;omega))];rfl) (Zu (Yf q (if_neg ?_) (Zw.refl H)));rw[My cl,Om]
     decide
   ·refine Yj (by rw[nf ck];rfl) (Zu (Yf q ?_ (Zw.refl H)));cases k with
    | tup ks=>exact absurd rfl ck
    | _=>rfl
  | [],ab =>
   cases Zr ab;exact Yj rfl (Yf q rfl (Zw.refl H))
  | [_],ab =>
   obtain⟨v1,rfl,_⟩:=A7 ab;exact Yj rfl (Yf q (zq (by show 1≠2;decide)) (Zw.refl H))
  | x1::x2::x3::r,ab =>
   refine Yj ?_ (Yf q ?_ (Zw.refl H))
   ·rw[<-ab.length];show (!decide _)=true;rw[My (fun z=>by injection z with z;simp only[S6]at z;omega)];rfl
   ·exact zq (by simp only[S6];omega)
 | bl b=>exact Zu (Zu (Yf q rfl (Zw.refl H)))
 | non=>exact Zu (Zu (Yf q rfl (Zw.refl H)))
 | int x=>exact Zu (Zu (Yf q rfl (Zw.refl H)))
 | str ts=>exact Zu (Zu (Yf q rfl (Zw.refl H)))
 | opq=>exact Zu (Zu (Yf q rfl (Zw.refl H)))
theorem Zz0{own:Bool}{fs:List V6}{us:List Int}{op:Bool}{a b u:Th}(h:Z4 1 999 b=false):Yo own (.cho fs us op) (.tup [a,b,u])=none:=by
 cases b with
 | int k=>show (if Z4 1 999 (.int k)=true then _ else _)=none;rw[h];rfl
 | _=>rfl
theorem jd(as bs:List Th):Yd (as++bs)=Yd as+Yd bs:=V7 as bs
theorem Ks{α:Type}{l:List α}(h:l≠[]):∃i a,l=i++[a]:=⟨l.dropLast,l.getLast h,(List.dropLast_concat_getLast h).symm⟩
theorem Zgx{α:Type}{p:α->Bool}{l:List α}{a:α}:(l++[a]).all p=(p a && l.all p):=by
 rw[List.all_append,List.all_cons,List.all_nil,Bool.and_true,Bool.and_comm]
end
def Y3.w:Y3->Str
 | .whole _ _ => "whole"
 | .truth => "truth"
 | .text _ => "text"
 | .row b _ _=>if b=true then "row" else "map"
 | .rcd _ _ => "record"
 | .cho _ _ _ => "choice"
section
variable{P:Program}{w:World}{K:W.Frag}{mg:Bw}{base:Heap}{f:Addr}{fd:FuncData}
theorem a8{K:W.Frag}{H:Hp}{s:Y3}{sv:V}(h:Zb K H s.t sv):∃a r,sv=.ref a/\Yv K H a (.str s.w::r):=by
 have e:∃ts,s.t=.tup (.str s.w::ts):=by cases s<;>exact⟨_,rfl⟩
 obtain⟨ts,e⟩:=e;rw[e]at h;obtain⟨a,ws,rfl,ha,w1,wr,rfl,i1,_⟩:=h;cases Zr i1;exact⟨a,wr,rfl,ha⟩
theorem Lv(F:Fu K "parts_in_choice" Gk f fd)(m:Bn mg)(C2:Fn P w K mg base 2 "is_number" ["thing"] (bo K 1 999))(C1:Fn P w K mg base 1 "member_of" ["shape","number"] (au K))(P4:Fn P w K mg base 6 "is_item" ["thing"] (Fm K)):Yn P w K mg base Je 7 f fd ["shape","thing","own"] (spPC K):=by
 refine F.ok Js (fun vs H Q E h=>?_) fun _ A _ s H vs Q E hr h=>?_
 ·obtain⟨sv,v,fs,us,op,own,t,rfl,_⟩:=h
  rfl
 obtain⟨sv,v,fs,us,op,own,t,rfl,is,l5,ht,gd,hz,q⟩:=h;have hu:=Ur.units0 hr;have is0:=is;obtain⟨a,ws,rfl,ha,at'⟩:=is;obtain⟨w1,w2,w3,w4,rfl,i1,i2,i3,i4⟩:=A5 at';cases Zr i4;refine⟨_,(@Zf _ _ _ _ _ (qi (qp (qO (qn (Yg (cB Ze m.isinstance Zh (Zg (pv 1) (Zg (Yy rfl m.tuple Yr (by decide) (by decide)) Zx))) (by intro _;rfl))) (qO (tQ Oa (cB Zn m.len Vv (Zg (pv 1) Zx)) Zq) (qQ (qn (Yg (cF C2 hr (Zg (iX Zk (pv 1) Zq) Zx)) (by intro _;rfl))))))) (q1 (qr Gd)) Zd) (@Zf _ _ _ _ _ (sI 3 Js.nd (cF C1 hr (Zg (pv 0) (Zg (iX Zk (pv 1) Zq) Zx)))) (@Zf _ _ _ _ _ (@J3 _ _ _ _ _ _ _ _ (qp (@pw_and _ _ _ _ _ _ _ (tQ Vp (iX Zk (pv 1) Zq) Zm) (@pw_and1 _ _ _ _ (tQ Zbq (pv 3) Gd)))) (@Yx _ _ _ (@Ux _ _ _ _ (@Yt _ _ _ _ (@Zj _ _ _ _ _ (@Ya _ _ _ _ _ (@Zj _ _ _ _ _ (@Ut _ _ _ _ _ _ _ Zk (pv 3) Zq (fun _ _=>rfl)) (@Zj _ _ _ _ _ (@Ut _ _ _ _ _ _ _ Zk (pv 1) Zq (fun _ _=>rfl)) Zx rfl) rfl)) Zx rfl)))) Zd) (qs (sI 4 Js.nd (qa (eQ Vp (iX Zk (pv 1) Zq) Zm) (qa (eQ tq (pv 3) Gd) (qa (iX Zk (pv 0) Zq) (qa (@zb _ _ _ _ (pv 2)) (qe (cF P4 hr (Zg (iX Zk (pv 1) Zq) Zx)))))))) (q1 (qr (@Cd _ _ _ _ _ _ _ _ (Yg (pv 4) (by intro _;rfl)) (ql Zx) Gd))))))), ?_⟩;refine⟨_,rfl,_,_,t,rfl,ht,(by simp),_,rfl, ?_⟩;cases t with
 | tup ts =>
  obtain⟨b,xs,rfl,hb,ab⟩:=ht;refine Y6 ⟨_,rfl,b,xs,rfl,.inr hb,rfl,_,rfl, ?_⟩
  match ts,ab with
  | [x,y,z],ab =>
   obtain⟨v1,v2,v3,rfl,ix,iy,iz⟩:=Mu ab;refine Z5 rfl ⟨_,rfl,b,_,_,_,rfl,rfl,hb,Jy,v2,y,rfl,iy,_,rfl, ?_⟩;by_cases cy:Z4 1 999 y=true
   ·refine Z5 (by rw[cy];rfl) ?_
    obtain⟨k,rfl⟩:∃k,y=.int k:=by
     cases y with
     | int k=>exact⟨k,rfl⟩
     | _=>cases cy
    cases Zr iy;have un:Yo own (.cho fs us op) (.tup [x,.int k,z])=Ox own fs op x k z:=by show (if Z4 1 999 (.int k)=true then _ else _)=_;rw[if_pos cy]
    rw[un]at q;unfold Ox at q;have zz:U4 z<=1000000:=fw me3 hz;refine⟨_,rfl,_,rfl,b,_,_,_,rfl,rfl,hb,Jy,.ref a,_,_,V6.a,fs,k,rfl,is0,fld_a,fun en=>?_,fun g gv eg ig=>?_⟩
    ·rw[en]at q;refine⟨_,rfl,b,_,_,_,rfl,rfl,hb,at0,x,_,ix,rfl,hu,_,rfl, ?_⟩;refine Vw (fun c1=>⟨_,rfl,rfl,_,rfl,Z5 rfl ?_⟩) (fun c1=>?_)
     all_goals
      refine⟨_,rfl,b,_,_,_,rfl,rfl,hb,at0,x,_,ix,rfl,hu,_,rfl, ?_⟩;by_cases c2:Ue x "other" = true
      ·refine Yj c2 ⟨_,rfl,rfl,_,rfl,Yj rfl ⟨_,rfl,a,_,_,_,rfl,rfl,ha,at3,_,rfl, ?_⟩⟩;rw[c2,O9]at q;cases op with
       | false=>exact Z5 rfl ⟨_,rfl,_,rfl,Z5 rfl (Yf q rfl (Zw.refl H))⟩
       | true =>
        refine Yj rfl ⟨_,rfl,_,rfl,_,rfl, ?_⟩;cases own with
        | true=>exact Z5 rfl ⟨_,rfl,_,rfl,Z5 rfl (Yf q rfl (Zw.refl H))⟩
        | false =>
         refine Yj rfl ⟨_,rfl,b,_,_,_,rfl,rfl,hb,Oz,v3,z,rfl,iz,gd.2.2.1,zz,fun H1 s1=>⟨_,rfl,_,rfl, ?_⟩⟩;rw[show (true && (!false && B2 100 z))=B2 100 z from rfl]at q;refine Vw (fun c3=>?_) (fun c3=>?_)
         ·rw[if_pos c3]at q;exact⟨(sz 0),fun l hl=>q l [] _ (s1.free hl) (s1.trans (Zw.lay hl)) Zz rfl⟩
         ·rw[if_neg c3]at q;exact q _ s1
      ·refine Z5 (nf c2) ⟨_,rfl,_,rfl,Z5 rfl ?_⟩;rw[nf c2,Om]at q;exact q _ (Zw.refl H)
    ·rw[eg]at q;have q:PQ K H Q (if Ue x "arm" = true then some [(g.y,z)] else none):=q;refine⟨_,rfl,b,_,_,_,rfl,rfl,hb,at0,x,_,ix,rfl,hu,_,rfl, ?_⟩;have ig0:=ig;obtain⟨gp,gw,rfl,hgp,agw⟩:=ig;refine Vw (fun c1=>⟨_,rfl,rfl,_,rfl,Yj rfl ?_⟩) (fun c1=>?_)
     ·obtain⟨g1,g2,g3,rfl,j1,j2,j3⟩:=Mu agw;cases Zr j3;refine⟨_,rfl,gp,_,_,_,rfl,rfl,hgp,Oz,_,rfl,b,_,_,_,rfl,rfl,hb,Oz,(sz 2),fun e he=>⟨(sz 1),fun l hl=>?_⟩⟩;have s1:=Zw.lay (o:=.tup [.str g.y,v3]) he;have s2:=Zw.lay (o:=.lst [.ref e]) hl;have Bm:=s1.trans s2;rw[if_pos c1]at q;exact q l [.ref e] _ (s1.free hl) Bm Zz (Zy.one ⟨e,_,rfl,s2.up _ _ (Yv.of Zz),_,_,rfl,rfl,_,_,rfl,Zb.up Bm.upT _ _ iz,rfl⟩)
     ·refine⟨_,rfl,b,_,_,_,rfl,rfl,hb,at0,x,_,ix,rfl,hu,_,rfl, ?_⟩;rw[if_neg c1]at q;refine Vw (fun c2=>⟨_,rfl,rfl,_,rfl,Z5 rfl ⟨_,rfl,_,rfl,Z5 rfl (q _ (Zw.refl H))⟩⟩) (fun c2=>⟨_,rfl,_,rfl,Z5 rfl (q _ (Zw.refl H))⟩)
   ·exact Yj (by rw[nf cy];rfl) (Yf q (Zz0 (nf cy)) (Zw.refl H))
  | [],ab =>
   cases Zr ab;exact Yj rfl (Zu (Yf q rfl (Zw.refl H)))
  | [_],ab =>
   obtain⟨v1,rfl,_⟩:=A7 ab;exact Yj rfl (Zu (Yf q (Ef (by show 1≠3;decide)) (Zw.refl H)))
  | [_,_],ab =>
   obtain⟨v1,v2,rfl,_⟩:=A6 ab;exact Yj rfl (Zu (Yf q (Ef (by show 2≠3;decide)) (Zw.refl H)))
  | x1::x2::x3::x4::r,ab =>
   refine Yj ?_ (Zu (Yf q ?_ (Zw.refl H)))
   ·rw[<-ab.length];show (!decide _)=true;rw[My (fun z=>by injection z with z;simp only[S6]at z;omega)];rfl
   ·exact Ef (by simp only[S6];omega)
 | bl b=>exact Zu (Zu (Yf q rfl (Zw.refl H)))
 | non=>exact Zu (Zu (Yf q rfl (Zw.refl H)))
 | int x=>exact Zu (Zu (Yf q rfl (Zw.refl H)))
 | str ts=>exact Zu (Zu (Yf q rfl (Zw.refl H)))
 | opq=>exact Zu (Zu (Yf q rfl (Zw.refl H)))
theorem wm(F:Fu K "parts_in" We f fd)(m:Bn mg)(Qm:Fn P w K mg base 2 "is_single_value" ["shape","thing"] (Zwo K))(K6:Fn P w K mg base 1 "parts_in_row" ["shape","thing"] (Zxm K true))(K7:Fn P w K mg base 4 "parts_in_map" ["shape","thing"] (Zxm K false))(Qk:Fn P w K mg base 8 "parts_in_record" ["shape","thing","own"] (spPD K))(Qg:Fn P w K mg base 7 "parts_in_choice" ["shape","thing","own"] (spPC K)):Yn P w K mg base Je 9 f fd ["shape","thing","own"] (spPI K):=by
 refine F.ok Oh (fun vs H Q E h=>?_) fun _ A _ s H vs Q E hr h=>?_
 ·obtain⟨sv,v,s,ms,own,t,rfl,_⟩:=h
  rfl
 obtain⟨sv,v,s0,ms,own,t,rfl,is,ok,ht,gd,hz,q⟩:=h;obtain⟨a,r,rfl,ha⟩:=a8 is;obtain⟨x,ex⟩:∃x,x=s0.w:=⟨_,rfl⟩;refine⟨_,(@Zf _ _ _ _ _ (sI 3 Oh.nd (iX Zk (pv 0) Zq)) (qs (qi (tQ Ym (pv 3) Zm) (q1 (qr (cF K6 hr (Zg (pv 0) (Zg (pv 1) Zx))))) Zd) (qs (qi (tQ Ym (pv 3) Zm) (q1 (qr (cF K7 hr (Zg (pv 0) (Zg (pv 1) Zx))))) Zd) (qs (qi (tQ Ym (pv 3) Zm) (q1 (qr (cF Qk hr (Zg (pv 0) (Zg (pv 1) (Zg (pv 2) Zx)))))) Zd) (qs (qi (tQ Ym (pv 3) Zm) (q1 (qr (cF Qg hr (Zg (pv 0) (Zg (pv 1) (Zg (pv 2) Zx)))))) Zd) (q1 (qr (@Cd _ _ _ _ _ _ _ _ (Yg (cF Qm hr (Zg (pv 0) (Zg (pv 1) Zx))) (by intro _;rfl)) (ql Zx) Gd)))))))), ?_⟩;rw[<-ex]at ha;refine⟨_,rfl,a,_,_,_,rfl,rfl,ha,at0, ?_⟩
 have sing:Sng s0->Yo own s0 t=(if Ii s0 t=true then some [] else none):=fun z=>by
  cases s0 with
  | whole _ _=>cases t<;>rfl
  | truth=>cases t<;>rfl
  | text _=>cases t<;>rfl
  | row _ _ _=>exact z.elim
  | rcd _ _=>exact z.elim
  | cho _ _ _=>exact z.elim
 have e4:∀w0∈(["whole","truth","text"]:List Str),decide (V.str w0=V.str "row")=false/\decide (V.str w0=V.str "map")=false/\decide (V.str w0=V.str "record")=false/\decide (V.str w0=V.str "choice")=false:=by decide +kernel
 rcases Classical.em (Sng s0) with z | z
 ·have mx:x∈(["whole","truth","text"]:List Str):=by
   rw[ex];cases s0 with
   | whole _ _=>exact Te
   | truth=>exact Rq _ Te
   | text _=>exact Rq _ (Rq _ Te)
   | row _ _ _=>exact z.elim
   | rcd _ _=>exact z.elim
   | cho _ _ _=>exact z.elim
  obtain⟨n1,n2,n3,n4⟩:=e4 x mx;refine⟨_,rfl,rfl,_,rfl,Z5 n1 ⟨_,rfl,rfl,_,rfl,Z5 n2 ⟨_,rfl,rfl,_,rfl,Z5 n3 ⟨_,rfl,rfl,_,rfl,Z5 n4 ⟨_,rfl,_,rfl,.ref a,v,s0,t,rfl,z,is,ht,gd,fun H1 s1=>⟨_,rfl, ?_⟩⟩⟩⟩⟩⟩;rw[sing z]at q;refine Vw (fun c=>?_) (fun c=>?_)
  ·rw[if_pos c]at q;exact⟨(sz 0),fun l hl=>q l [] _ (s1.free hl) (s1.trans (Zw.lay hl)) Zz rfl⟩
  ·rw[if_neg c]at q;exact q _ s1
 cases s0 with
 | whole lo hi=>exact absurd trivial z
 | truth=>exact absurd trivial z
 | text n=>exact absurd trivial z
 | row b y n =>
  have un:Yo own (.row b y n) t=Yo false (.row b y n) t:=by cases b<;>cases t<;>rfl
  rw[un]at q;cases b with
  | true =>
   have ex:x = "row" := ex;subst ex;exact⟨_,rfl,rfl,_,rfl,Yj (by decide +kernel) ⟨_,rfl,_,rfl,.ref a,v,y,n,t,rfl,is,ht,gd,hz,q⟩⟩
  | false =>
   have ex:x = "map" := ex;subst ex;exact⟨_,rfl,rfl,_,rfl,Z5 (by decide +kernel) ⟨_,rfl,rfl,_,rfl,Yj (by decide +kernel) ⟨_,rfl,_,rfl,.ref a,v,y,n,t,rfl,is,ht,gd,hz,q⟩⟩⟩
 | rcd fs us =>
  have ex:x = "record" := ex;subst ex;have ok:Us ms fs:=ok;exact⟨_,rfl,rfl,_,rfl,Z5 (by decide +kernel) ⟨_,rfl,rfl,_,rfl,Z5 (by decide +kernel) ⟨_,rfl,rfl,_,rfl,Yj (by decide +kernel) ⟨_,rfl,_,rfl,_,rfl,.ref a,v,fs,us,own,t,rfl,is,ok.len,ht,gd,hz,q⟩⟩⟩⟩
 | cho fs us op =>
  have ex:x = "choice" := ex;subst ex;have ok:Us ms fs:=ok.1;exact⟨_,rfl,rfl,_,rfl,Z5 (by decide +kernel) ⟨_,rfl,rfl,_,rfl,Z5 (by decide +kernel) ⟨_,rfl,rfl,_,rfl,Z5 (by decide +kernel) ⟨_,rfl,rfl,_,rfl,Yj (by decide +kernel) ⟨_,rfl,_,rfl,_,rfl,.ref a,v,fs,us,op,own,t,rfl,is,ok.len,ht,gd,hz,q⟩⟩⟩⟩⟩
theorem R9(F:Fu K "is_right_through" Jh f fd)(m:Bn mg)(Zqi:Fn P w K mg base 1 "form_of" ["make","name"] (m8 K))(l4:Fn P w K mg base 9 "parts_in" ["shape","thing","own"] (spPI K)):Yn P w K mg base Je 10 f fd ["make","name","thing","own"] (X1 K):=by
 refine F.ok Uw (fun vs H Q E h=>?_) fun _ A _ s H vs Q E hr h=>?_
 ·obtain⟨e,S,ms,x,v,t,own,rfl,_⟩:=h
  rfl
 obtain⟨e,S,ms,x,v,t,own,rfl,mk,mo,ix,ht,gd,hz,q⟩:=h;refine⟨_,(@Zf _ _ _ _ _ (@Dc _ 4 _ _ _ _ _ Uw.nd rfl (by trivial) (@Yt _ _ _ _ (@Zj _ _ _ _ _ (@Ya _ _ _ _ _ (@Zj _ _ _ _ _ (pv 1) (@Zj _ _ _ _ _ (pv 2) Zx rfl) rfl)) Zx rfl)) rfl (by trivial)) (qs (@j8 _ _ _ _ _ _ PassesOwn.never (@E8 _ _ _ (pv 4) (fun _=>rfl)) (qs (sI 5 Uw.nd (@pe_bm0 _ _ _ _ _ _ _ _ _ PySem.F.plainAttrs_list PySem.F.slot_list_pop PySem.F.type_list_pop mt_pop (pv 4) (by trivial) (by trivial))) (qs (sI 6 Uw.nd (cF l4 hr (Zg (cF Zqi hr (Zg (pv 0) (Zg (iX Zk (pv 5) Zq) Zx))) (Zg (iX Zk (pv 5) Zq) (Zg (pv 3) Zx))))) (qs (qi (tQ tq (pv 6) Gd) (q1 (qr Vz)) Zd) (q1 (@Ez _ _ _ _ (@oi _ _ _ _ _ _ _ _ _ _ _ _ PySem.F.plainAttrs_list PySem.F.slot_list_extend PySem.F.type_list_extend Ie (pv 4) (Zg (pv 6) Zx) (by trivial) (by trivial) (by trivial) (by trivial) (by trivial)) rfl)))))) (q1 (qr Vz)))), ?_⟩;refine⟨_,rfl,_,rfl,(sz 2),fun e0 h0=>⟨(sz 1),fun wt hw=>?_⟩⟩;have s0:=Zw.lay (o:=.tup [.str x,v]) h0;have s1:=Zw.lay (o:=.lst [.ref e0]) hw;have s01:=s0.trans s1;have hw0:H wt=none:=s0.free hw
 refine⟨fun j σ H2=>∃(L:List (Str×Th)) (ys:List V) (o1 o2:Option V),σ=[some (.ref e),some (.str x),some v,some (.bl own),some (.ref wt),o1,o2]/\Yd (L.map (·.2))<=j/\j<=1000000/\Zw H H2/\H2 wt=some (.lst ys)/\Zy K H2 (L.map dh) ys/\(∀p∈L,Dr p.2/\(Jf ms p.1).isSome=true)/\(L.all fun p=>T4 own ms p.1 p.2)=T4 own ms x t,
  ⟨U4 t,[(x,t)],[.ref e0],none,none,rfl,by simp only[R5,List.map_nil,Yd];omega,hz,s01,Zz,Zy.one ⟨e0,_,rfl,s1.up _ _ (Yv.of Zz),_,_,rfl,rfl,_,_,rfl,Zb.up s01.upT _ _ ht,rfl⟩,fun p mp=>by rw[N6.mp mp];exact⟨gd,ix⟩,by simp⟩, ?_⟩
 rintro j σ H2 ⟨L,ys,o1,o2,rfl,hs,hj,s2,h2,a2,g2,e2⟩;refine⟨_,rfl,_,.inl ⟨ys,Z0.of h2,rfl⟩, ?_⟩;cases L with
 | nil =>
  cases Zr a2;refine Z5 rfl ?_;have e2:true=T4 own ms x t:=e2;rw[<-e2]at q;exact q H2 s2
 | cons p0 L0 =>
  obtain⟨L,p,eL⟩:=Ks (List.cons_ne_nil p0 L0);rw[eL]at hs a2 g2 e2;rw[Gj]at a2
  clear eL p0 L0
  have ly:ys.length=L.length+1:=by rw[<-a2.length,Xs,Yp];rfl
  obtain⟨yi,y,rfl⟩:∃yi y,ys=yi++[y]:=Ks (fun z=>by rw[z]at ly;simp at ly);have ny:(yi++[y]).isEmpty=false:=by cases yi<;>rfl
  refine Yj (by rw[ny];rfl) ?_;have lyi:yi.length=L.length:=by simpa using ly
  have aT:=a2.take L.length;have aD:=a2.drop L.length;rw[List.take_append_of_le_length (by rw[Yp];exact Vj _),Xt (by rw[Yp];exact Vj _),List.take_append_of_le_length (by omega),Xt (by omega)]at aT;rw[List.drop_append_of_le_length (by rw[Yp];exact Vj _),List.drop_of_length_le (by rw[Yp];exact Vj _),List.drop_append_of_le_length (by omega),List.drop_of_length_le (by omega)]at aD;obtain⟨y',ey,iy⟩:=A7 aD;cases ey;obtain⟨gp,lp⟩:=g2 p (M0r _ Te);have gL:∀r∈L,Dr r.2/\(Jf ms r.1).isSome=true:=fun r mr=>g2 r (List.mem_append_left _ mr);rw[Zgx]at e2;rw[Gj,jd]at hs;have hs:Yd (L.map (·.2))+U4 p.2<=j:=by simp only[R5,List.map_nil,Yd]at hs;omega
  refine⟨fun σ' H'=>∃j',j'<j/\∃(L:List (Str×Th)) (ys:List V) (o1 o2:Option V),σ'=[some (.ref e),some (.str x),some v,some (.bl own),some (.ref wt),o1,o2]/\Yd (L.map (·.2))<=j'/\j'<=1000000/\Zw H H'/\H' wt=some (.lst ys)/\Zy K H' (L.map dh) ys/\(∀p∈L,Dr p.2/\(Jf ms p.1).isSome=true)/\(L.all fun p=>T4 own ms p.1 p.2)=T4 own ms x t,fun σ' H' z=>z, ?_⟩;have pl:(yi++[y])[(yi++[y]).length - 1]?=some y:=by simp
  have dl:(yi++[y]).dropLast=yi:=by simp
  refine⟨_,rfl,.inl ⟨rfl,_,Z0.of h2⟩,wt,_,y,rfl,rfl,h2,pl, ?_⟩;rw[dl];have u3:Mz K H2 (Yq H2 wt (.lst yi)):=Y8 h2;have s3:Zw H (Yq H2 wt (.lst yi)):=s2.put hw0;have aT3:=Zy.up u3 _ _ aT;obtain⟨pa,px,py,rfl,fg,ipx,ipy⟩:=Bo (Zb.up u3 _ _ iy);cases Zr ipx;obtain⟨sh,es⟩:=Option.isSome_iff_exists.mp lp;have ok:=mo.ok p.1 sh es;have zp:U4 p.2<=1000000:=by omega
  have un:=Zwq (own:=own) (t:=p.2) es;refine⟨_,rfl,_,rfl,pa,_,_,_,rfl,rfl,fg,at0,e,S,ms,p.1,sh,rfl,mk.up s3.upT,es,fun shv ishv=>?_⟩;refine⟨_,rfl,pa,_,_,_,rfl,rfl,fg,Jy,_,rfl,shv,py,sh,ms,own,p.2,rfl,ishv,ok,ipy,gp,zp, ?_⟩;cases ep:Yo own sh p.2 with
  | none =>
   rw[ep]at un;intro H4 s4;refine⟨_,rfl,rfl,_,rfl,Yj rfl ?_⟩;rw[un]at e2;have e2:false=T4 own ms x t:=e2;rw[<-e2]at q;exact q H4 (s3.trans s4)
  | some ps =>
   rw[ep]at un;have pi:=Kw ep;intro l zs H4 hl s4 h4 a4;refine⟨_,rfl,rfl,_,rfl,Z5 rfl ?_⟩;have h4w:H4 wt=some (.lst yi):=s4 _ _ Zz;have nl:l≠wt:=fun z=>by rw[z,Zz]at hl;cases hl
   refine⟨_,rfl,.inl ⟨rfl,_,Z0.of h4w⟩,_,rfl,wt,l,yi,zs,rfl,rfl,h4w,h4, ?_, ?_⟩
   ·have l1:=ba L;have l2:=ba ps;have:=a4.length;rw[Yp]at this;have:=pi.sz;exact Gw (show yi.length+zs.length<=1000000 by omega) (by decide)
   have u5:Mz K H4 (Yq H4 wt (.lst (yi++zs))):=Y8 h4w;refine⟨j - 1,by have:=Fy p.2;omega,L++ps,yi++zs,_,_,rfl, ?_,by omega,(s3.trans s4).put hw0,Zz, ?_,fun r mr=>?_, ?_⟩
   ·rw[Gj,jd];have:=pi.sz;omega
   ·rw[Gj];exact Zy.append (Zy.up (s4.upT.trans u5) _ _ aT3) (Zy.up u5 _ _ a4)
   ·rcases T6.mp mr with mr | mr
    ·exact gL r mr
    ·exact⟨pi.gd gp r mr,Zv2 ok ep r mr⟩
   ·rw[List.all_append, <-e2,un,Bool.and_comm]
theorem we(F:Fu K "is_value" W6 f fd)(m:Bn mg)(Ja:Fn P w K mg base 10 "is_right_through" ["make","name","thing","own"] (X1 K)):Yn P w K mg base Je 11 f fd ["make","name","thing"] (Oc K false):=by
 refine F.ok ji (fun vs H Q E h=>?_) fun _ A _ s H vs Q E hr h=>?_
 ·obtain⟨e,S,ms,x,v,t,rfl,_⟩:=h
  rfl
 obtain⟨e,S,ms,x,v,t,rfl,mk,mo,ix,ht,gd,hz,q⟩:=h;refine⟨_,(@Yx _ _ _ (qr (cF Ja hr (Zg (pv 0) (Zg (pv 1) (Zg (pv 2) (Zg Vz Zx))))))), ?_⟩;exact⟨_,rfl,_,rfl,_,rfl,e,S,ms,x,v,t,false,rfl,mk,mo,ix,ht,gd,hz,q⟩
theorem Zqj(F:Fu K "is_own" E3 f fd)(m:Bn mg)(Ja:Fn P w K mg base 10 "is_right_through" ["make","name","thing","own"] (X1 K)):Yn P w K mg base Je 11 f fd ["make","name","thing"] (Oc K true):=by
 refine F.ok Zxh (fun vs H Q E h=>?_) fun _ A _ s H vs Q E hr h=>?_
 ·obtain⟨e,S,ms,x,v,t,rfl,_⟩:=h
  rfl
 obtain⟨e,S,ms,x,v,t,rfl,mk,mo,ix,ht,gd,hz,q⟩:=h;refine⟨_,(@Yx _ _ _ (qr (cF Ja hr (Zg (pv 0) (Zg (pv 1) (Zg (pv 2) (Zg Vz Zx))))))), ?_⟩;exact⟨_,rfl,_,rfl,_,rfl,e,S,ms,x,v,t,true,rfl,mk,mo,ix,ht,gd,hz,q⟩
abbrev Bp:Stmt:=top 58
abbrev Hr:List Str:=["_law_make_here","_law_name","_law_thing","_law_own","_law_shape"]
theorem Ic:Zp Hr ["_law_make_here","_law_name","_law_thing","_law_own"] (Zv Bp):=by trivial
abbrev Vr:Stmt:=top 59
abbrev Jl:List Str:=["_law_make_here","_law_shape","_law_thing","_law_own","_law_numbers_here"]
theorem Br:Zp Jl ["_law_make_here","_law_shape","_law_thing","_law_own"] (Zv Vr):=by trivial
abbrev Uu:Stmt:=top 60
abbrev Ti:List Str:=["_law_make_here","_law_shape","_law_thing","_law_own","_law_inner"]
theorem Bs:Zp Ti ["_law_make_here","_law_shape","_law_thing","_law_own"] (Zv Uu):=by trivial
def Et(own:Bool)(ms:List (Str×Y3)):Option (List (Str×Th))->Bool
 | none=>false
 | some ps=>ps.all fun p=>T4 own ms p.1 p.2
theorem Ed{own:Bool}{ms:List (Str×Y3)}{x:Str}{t:Th}{s:Y3}(es:Jf ms x=some s):T4 own ms x t=Et own ms (Yo own s t):=by
 rw[Zwq es];cases Yo own s t<;>rfl
inductive Zfk(K:W.Frag)(n:Nat)(vs:List V)(H:Hp)(Q:VK):Prop
 | mk(e S:Addr)(ms:List (Str×Y3))(x:Str)(v:V)(t:Th)(own:Bool)(Vg:vs=[.ref e,.str x,v,.bl own])(Vk:T5 K H e S ms)(V1:Rx ms)(Jk:(Jf ms x).isSome=true)(Mn:Zb K H t v)(Wb:Dr t)(fm:U4 t<=1000000)(h7_:Jn t<n)(h8_:∀H',Zw H H'->Q (.bl (T4 own ms x t)) H')
def Eu(K:W.Frag)(n:Nat):Sp:=fun vs H Q _=>Zfk K n vs H Q
inductive Zw3(K:W.Frag)(n:Nat)(vs:List V)(H:Hp)(Q:VK):Prop
 | mk(e S:Addr)(ms:List (Str×Y3))(fs:List V6)(us:List Int)(sv v:V)(ts:List Th)(own:Bool)(Vg:vs=[.ref e,sv,v,.bl own])(Vk:T5 K H e S ms)(V1:Rx ms)(Jk:Zb K H (Y3.rcd fs us).t sv)(Mn:Us ms fs)(Wb:Zb K H (.tup ts) v)(fm:Dr (.tup ts))(h7_:U4 (.tup ts)<=1000000)(h8_:Jn (.tup ts)<=n)(h9_:∀H',Zw H H'->Q (.bl (Et own ms (Yo own (.rcd fs us) (.tup ts)))) H')
def Zw4(K:W.Frag)(n:Nat):Sp:=fun vs H Q _=>Zw3 K n vs H Q
inductive Zw5(K:W.Frag)(n:Nat)(vs:List V)(H:Hp)(Q:VK):Prop
 | mk(e S:Addr)(ms:List (Str×Y3))(fs:List V6)(us:List Int)(op:Bool)(sv v:V)(ts:List Th)(own:Bool)(Vg:vs=[.ref e,sv,v,.bl own])(Vk:T5 K H e S ms)(V1:Rx ms)(Jk:Zb K H (Y3.cho fs us op).t sv)(Mn:Us ms fs)(Wb:Zb K H (.tup ts) v)(fm:Dr (.tup ts))(h7_:U4 (.tup ts)<=1000000)(h8_:Jn (.tup ts)<=n)(h9_:∀H',Zw H H'->Q (.bl (Et own ms (Yo own (.cho fs us op) (.tup ts)))) H')
def Zw6(K:W.Frag)(n:Nat):Sp:=fun vs H Q _=>Zw5 K n vs H Q
theorem Zkt{fs:List V6}{k:Int}:(Jm fs k).isNone=!z9 (.int k) ((fs.map V6.n).map V.int):=by
 rw[Qj];unfold Jm;by_cases h:k∈fs.map V6.n
 ·rw[Gq h];obtain⟨f,mf,e⟩:=Dp.mp h;cases z:fs.find? fun f=>decide (f.n=k) with
  | some _=>rfl
  | none=>exact absurd (Gq e) (List.find?_eq_none.mp z f mf)
 ·rw[My h];have z:fs.find? (fun f=>decide (f.n=k))=none:=List.find?_eq_none.mpr fun f mf z=>h (Dp.mpr ⟨f,mf,ph z⟩);rw[z];rfl
theorem rm{fs:List V6}{k:Int}:(fs.filter fun f=>decide (f.n=k)).head?=Jm fs k:=by
 unfold Jm
 induction fs with
 | nil=>rfl
 | cons f fs ih =>
  by_cases h:f.n=k
  ·rw[List.filter_cons,if_pos (Gq h),List.find?_cons,Gq h];rfl
  ·rw[List.filter_cons,if_neg (by simpa using h),List.find?_cons,My h,ih]
theorem Zvg{X Y:TS}{D:Fx}{σ:L2.St}{H:Hp}(N:L2.St->Hp->Prop)(hY:∀σ' H',N σ' H'->Y D σ' H')(hX:∀M:L2.St->Hp->Prop,(∀σ' H',N σ' H'->M σ' H')->X { D with nx:=M } σ H):bh X Y D σ H:=hX (Y D) hY
theorem nx_by{X Y:TS}{D:Fx}{rt:VK}{bk ct:L2.St->Hp->Prop}{σ:L2.St}{H:Hp}(N:L2.St->Hp->Prop)(hY:∀σ' H',N σ' H'->Y D σ' H')(hX:∀M:L2.St->Hp->Prop,(∀σ' H',N σ' H'->M σ' H')->X { D with nx:=M } σ H):Zm5 ⟨bh X Y D,rt,bk,ct⟩ σ H:=hX (Y D) hY
theorem len2{ts:List Th}(h:ts.length=2):∃a b,ts=[a,b]:=by
 match ts,h with
 | [a,b],_=>exact⟨a,b,rfl⟩
theorem len3{ts:List Th}(h:ts.length=3):∃a b c,ts=[a,b,c]:=by
 match ts,h with
 | [a,b,c],_=>exact⟨a,b,c,rfl⟩
theorem Zwr{K:W.Frag}{H:Hp}:∀ss:List Str,Vy K H (ss.map D.str) (ss.map V.str)
 | []=>rfl
 | s::ss=>⟨_,_,rfl,rfl,Zwr ss⟩
theorem Zzh:∀ss:List Str,C5 (ss.map D.str)=0
 | []=>rfl
 | s::ss=>by show max 0 (C5 (ss.map D.str))=0;rw[Zzh ss];rfl
theorem Pl{n:Nat}(hn:n<=40)(F:Fu K "_law_is_record" Vr f fd)(m:Bn mg)(Yu:gA P w K mg base)(Y0:Fn P w K mg base 43 "_law_is_item" ["_law_thing"] (Rc K 40))(Ua:Fn P w K mg base (2 * n+44) "_law_is" ["_law_make_here","_law_name","_law_thing","_law_own"] (Eu K n)):Yn P w K mg base Je (2 * n+45) f fd ["_law_make_here","_law_shape","_law_thing","_law_own"] (Zw4 K n):=by
 refine F.ok Br (fun vs H Q E h=>?_) fun _ A _ s H vs Q E hr h=>?_
 ·obtain⟨e,S,ms,fs,us,sv,v,ts,own,rfl,_⟩:=h
  rfl
 obtain⟨e,S,ms,fs,us,sv,v,ts,own,rfl,mk,mo,is,pr,ht,gd,hz,hd,q⟩:=h;have hu:=Ur.units0 hr;obtain⟨a,ws,rfl,ha,at'⟩:=is;obtain⟨w1,w2,w3,rfl,i1,i2,i3⟩:=Mu at';obtain⟨fa,fws,rfl,O1,afs⟩:=i2;have l5:=pr.len;have lfw:fws.length=fs.length:=by rw[<-afs.length,Yp]
 obtain⟨b,xs,rfl,hb,ab⟩:=ht;refine⟨_,(@Zf _ _ _ _ _ (qi (qp (qO (tQ Oa (cB Zn m.len Vv (Zg (pv 2) Zx)) Zq) (qO (qn (Yg (cB Ze m.isinstance Zh (Zg (iX Zk (pv 2) Zq) (Zg (Yy rfl m.tuple Yr (by decide) (by decide)) Zx))) (by intro _;rfl))) (qQ (tQ Oa (cB Zn m.len Vv (Zg (iX Zk (pv 2) Zq) Zx)) (cB Zn m.len Vv (Zg (iX Zk (pv 1) Zq) Zx))))))) (q1 (qr Vz)) Zd) (qs (qi (qp (qO (qn (Yg (cF Yu hr (Zg (iX Zk (pv 2) Zq) (Zg Vz Zx))) (by intro _;rfl))) (qQ (qp (@pw_and _ _ _ _ _ _ _ (Yg (pv 3) (by intro _;rfl)) (@pw_and1 _ _ _ _ (tQ Zx9 (iX Zk (pv 2) Zq) (qt Zx)))))))) (q1 (qr Vz)) Zd) (qs (sI 4 Br.nd (pC Jl (Zv Vr) ["_law_field"] [none] (qI (iX Zk (pv 1) Zq)) (fun _ _ _=>(nI 0)) (fun _ _ _=>Z1) (fun _ _ _=>(iX Zk (pv 0) Zq)))) (qs (qi (qn (Yg (cB (Ye rfl) m.all G3 (Zg (pC Jl (Zv Vr) ["_law_one","_law_numbers_here"] [none,some 4] (qI (iX Zk (pv 2) Zq)) (fun _ _ _=>(nI 0)) (fun _ _ _=>Z1) (fun _ _ _=>(qa (Ru Jx (iX Zk (pv 0) Zq) (pv 1) rfl) (qe (cF Y0 hr (Zg (iX Zk (pv 0) Zq) Zx)))))) Zx)) (by intro _;rfl))) (q1 (qr Vz)) Zd) (q1 (qr (cB (Ye rfl) m.all G3 (Zg (pC Jl (Zv Vr) ["_law_field","_law_one","_law_make_here","_law_own"] [none,none,some 0,some 3] (@zv _ _ _ _ _ _ _ _ _ rfl m.zip (Zg (iX Zk (pv 1) Zq) (Zg (iX Zk (pv 2) Zq) Zx)) (by trivial) (by trivial)) (fun _ _ _=>(N9 rfl (Ys (nI 0) (Ys (nI 1) Dn)))) (fun _ _ _=>Z1) (fun _ _ _=>(cF Ua hr (Zg (pv 2) (Zg (iX Zk (pv 0) Zq) (Zg (pv 1) (Zg (pv 3) Zx))))))) Zx)))))))), ?_⟩;refine⟨_,rfl,b,xs,rfl,.inr hb,rfl,_,rfl, ?_⟩;by_cases l2:ts.length=2
 ·obtain⟨k,o,rfl⟩:=len2 l2;obtain⟨v1,v2,rfl,ik,io⟩:=A6 ab;refine Z5 rfl ⟨_,rfl,b,_,_,_,rfl,rfl,hb,at0,_,_,k,rfl,ik,(by simp),_,rfl, ?_⟩;by_cases ck:Gn "tuple" k=true
  ·obtain⟨ks,rfl⟩:=El ck;obtain⟨ka,kx,rfl,hka,akx⟩:=ik;refine Y6 ⟨_,rfl,b,_,_,_,rfl,rfl,hb,at0,ka,kx,rfl,.inr hka,_,rfl,a,_,_,_,rfl,rfl,ha,Jy,fa,fws,rfl,.inr O1,rfl,_,rfl, ?_⟩;have un:Yo own (.rcd fs us) (.tup [.tup ks,o])=if (decide (ks.length=fs.length) && N0 own fs o)=true then some (List.zipWith (fun f k=>(f.y,k)) fs ks) else none:=rfl
   rw[un]at q;by_cases cl:ks.length=fs.length
   ·refine Z5 (by rw[<-akx.length,cl,lfw];show (!decide _)=false;rw[Gq rfl];rfl) ?_;rw[Gq cl,O9]at q;have lkx:kx.length=fs.length:=by rw[<-akx.length];exact cl
    have zo:U4 o<=1000000:=fw me2 hz;have no:N0 own fs o=false->∀H',Zw H H'->Q (.bl false) H':=fun z=>by rw[z]at q;exact q
    have yes:N0 own fs o=true->∀H',Zw H H'->Q (.bl ((List.zipWith (fun f k=>(f.y,k)) fs ks).all fun p=>T4 own ms p.1 p.2)) H':=fun z=>by rw[z]at q;exact q
    have oF:own=false->N0 own fs o=(Z7 o && (Z8 false ((Za o).map Z6) && (Za o).all (Nt fs))):=fun z=>by rw[z];rfl
    have oT:own=true->N0 own fs o=Zyf o:=fun z=>by rw[z];rfl
    refine nx_by (fun σ' H2=>(∃o4,σ'=[some (.ref e),some (.ref a),some (.ref b),some (.bl own),o4])/\Zw H H2/\∃os,o=.tup os/\os.all Gc=true/\Z8 false (os.map Z6)=true/\(own=true->os=[])) ?_ fun M hM=>?_
    ·rintro σ' H2 ⟨⟨o4,rfl⟩,s2,os,rfl,c1,c2,c3⟩
     have ox:N0 own fs (.tup os)=os.all (Nt fs):=by
      cases own with
      | true=>rw[oT rfl,c3 rfl];rfl
      | false=>rw[oF rfl,show Z7 (.tup os)=true from c1,show Z8 false ((Za (.tup os)).map Z6)=true from c2];rfl
     have lo:=Jz zo;have hfa2:=s2.up (K:=K) _ _ O1;obtain⟨oa,xo,rfl,hoa,aox⟩:=Zb.up (K:=K) s2.upT _ _ io;refine⟨_,rfl,a,_,_,_,rfl,rfl,s2.up _ _ ha,Jy,fa,rfl,⟨_,hfa2⟩,fun D fp sx hD=>?_⟩;refine Ub (f:=Kt) hfa2 (Zy.up s2.upT _ _ afs) (by rw[Yp];omega) hD (fun t v H5 Q5 mt s5 i5 q5=>?_) fun H6 w6 s6 h6 a6=>?_
     ·obtain⟨fl,mfl,rfl⟩:=Dp.mp mt;obtain⟨c,cs,rfl,hc,y1,yr,rfl,iy,_⟩:=i5;exact⟨_,rfl,c,_,_,_,rfl,rfl,hc,at0,q5 y1 H5 (Zw.refl H5) iy⟩
     rw[(C3 fs).1]at a6;have ew:=B0 a6;subst ew;have s26:=s2.trans s6;have hoa6:=s6.up (K:=K) _ _ hoa;refine⟨_,rfl,b,_,_,_,rfl,rfl,s26.up _ _ hb,Jy,oa,rfl,⟨_,hoa6⟩,fun D3 fp3 sx3 hD3=>?_⟩;refine Dv (p:=Nt fs) hoa6 (Zy.up s6.upT _ _ aox) lo hD3 (fun t v H5 Q5 mt s5 i5 q5=>?_) fun H7 s7 h7=>⟨D3,_,rfl,Z0.of h7,_,rfl, ?_⟩
     ·obtain⟨u,z,rfl⟩:=Dl (Wv.mp c1 t mt);obtain⟨k,rfl⟩:=Zzk c2 mt;obtain⟨p,vx,vy,rfl,Xq,ix,iy⟩:=Bo i5;cases Zr ix;have e1:Nt fs (.tup [.int k,z])=(!z9 (.int k) ((fs.map V6.n).map V.int) && B2 100 z):=by show ((Jm fs k).isNone && B2 100 z)=_;rw[Zkt]
      rw[e1]at q5;refine⟨_,rfl,p,_,_,_,rfl,rfl,Xq,at0,_,rfl,D,_,rfl,.inl (Z0.of (s5 _ _ h6)),rfl,Ro _,_,rfl, ?_⟩;show if (!z9 (.int k) ((fs.map V6.n).map V.int))=true then _ else _
      refine Vw (fun c=>?_) (fun c=>?_)
      ·rw[c,O9]at q5;have gz:=Yz.mp gd.2.1 _ mt;refine⟨_,rfl,p,_,_,_,rfl,rfl,Xq,Jy,vy,z,rfl,iy,gz.2.1,fw me2 (fw mt zo),Hh (dpN me2 (dpL mt (dpL me2 hd))) hn,q5⟩
      ·rw[nf c,Om]at q5;exact q5 _ (Zw.refl H5)
     have s27:=s26.trans s7;rw[List.all_map,show (id ∘ Nt fs)=Nt fs from rfl];by_cases co:os.all (Nt fs)=true
     ·refine Z5 (by rw[co];rfl) ?_;have yes:=yes (ox.trans co);have hfa7:=s27.up (K:=K) _ _ O1;have hka7:=s27.up (K:=K) _ _ hka;have hb7:=s27.up (K:=K) _ _ hb;refine⟨_,rfl,a,_,_,_,rfl,rfl,s27.up _ _ ha,Jy,_,rfl,b,_,_,_,rfl,rfl,hb7,at0,fa,ka,rfl,⟨_,hfa7⟩,⟨_,hka7⟩,fun D fp sx hD=>?_⟩
      refine P7 (K:=K) (xs:=fws) (ys:=kx) (fun i ys σ H5=>(∃o1 o2,σ=[o1,o2,some (.ref e),some (.bl own)])/\Zw H7 H5/\H5 D=some (.lst ys)/\ys=(((List.zipWith (fun f k=>(f.y,k)) fs ks).take i).map fun p=>T4 own ms p.1 p.2).map V.bl)
       ⟨⟨_,_,rfl⟩,Zw.lay hD,Zz,rfl⟩ ?_ ?_ ?_
      ·rintro i ys σ H5 hi ⟨_,s5,h5,_⟩;exact⟨s5.up _ _ hfa7,s5.up _ _ hka7,h5⟩
      ·rintro i xv yv p ys σ H5 hx hy ⟨⟨o1,o2,rfl⟩,s5,h5,ey⟩ hpn;obtain⟨t,et,it⟩:=afs.got hx;rw[Ma]at et;obtain⟨g,eg,rfl⟩:=Qe.mp et;obtain⟨k,ek,ik⟩:=akx.got hy;have ez:(List.zipWith (fun f k=>(f.y,k)) fs ks)[i]?=some (g.y,k):=by rw[List.getElem?_zipWith,eg,ek]
       have sP:=Zw.lay (o:=.tup [xv,yv]) hpn;have s6:=s5.trans sP;have s16:=s27.trans s6;obtain⟨c,cs,rfl,hc,ac⟩:=it;obtain⟨c1,c2,c3,c4,rfl,j1,j2,j3,j4⟩:=A5 ac;cases Zr j3;have mk':=Ow ek;refine⟨p,_,rfl,Yv.of Zz,rfl,_,_,rfl,_,_,rfl,rfl,Qo ?_⟩;refine⟨_,rfl,_,rfl,c,_,_,_,rfl,rfl,s16.up _ _ hc,Oz,_,rfl,_,rfl,e,S,ms,g.y,yv,k,own,rfl,mk.up s16.upT,mo,pr.y g (Ow eg),Zb.up s16.upT _ _ ik,Yz.mp gd.1 k mk', ?_, ?_,fun H8 s8=>?_⟩
       ·exact fw mk' (fw (.head _) hz)
       ·exact dpN mk' (dpL (.head _) hd)
       ·refine⟨s8 _ _ (sP _ _ h5), ?_,⟨_,_,rfl⟩,(s6.trans s8).put hD,Zz, ?_⟩
        ·rw[ey,Yp,Yp,T1,ud];exact Yi (by omega)
        ·rw[Zs ez,Gj,Gj,ey];rfl
      ·rintro ys σ H5 ⟨_,s5,h5,rfl⟩;rw[lfw,lkx,Nat.min_self,Xt (by rw[ud];omega)]at h5;refine⟨D,_,rfl,Z0.of h5, ?_⟩;rw[List.all_map];exact yes H5 (s27.trans s5)
     ·exact Yj (by rw[nf co];rfl) (no (ox.trans (nf co)) _ s27)
    refine⟨_,rfl,b,_,_,_,rfl,rfl,hb,Jy,v2,o,true,rfl,io,gd.2.1,zo,fun H1 s1=>⟨_,rfl, ?_⟩⟩;show if (!(Z7 o && Z8 false ((Za o).map Z6)))=true then _ else _
    by_cases cp:(Z7 o && Z8 false ((Za o).map Z6))=true
    ·refine Z5 (by rw[cp];rfl) ⟨_,rfl,_,rfl, ?_⟩;obtain⟨cp1,cp2⟩:=fq.mp cp;obtain⟨os,rfl⟩:=Pd cp1;cases own with
     | false=>exact Z5 rfl (Y6 (hM _ _ ⟨⟨_,rfl⟩,s1,os,rfl,cp1,cp2,fun z=>nomatch z⟩))
     | true =>
      obtain⟨oa,xo,rfl,hoa,aox⟩:=Zb.up (K:=K) s1.upT _ _ io;refine Yj rfl ⟨_,rfl,b,_,_,_,rfl,rfl,s1.up _ _ hb,Jy,(sz 0),fun e0 h0=>?_⟩;have s0:=Zw.lay (o:=.tup []) h0;have W7:=s1.trans s0;refine⟨oa,e0,xo,rfl,rfl,s0.up _ _ hoa,Yv.of Zz,hu,_,rfl, ?_⟩;cases os with
      | nil =>
       cases Zr aox;exact Z5 rfl (hM _ _ ⟨⟨_,rfl⟩,W7,[],rfl,rfl,rfl,fun _=>rfl⟩)
      | cons o1 os =>
       obtain⟨_,_,rfl,_⟩:=aox;exact Yj rfl (no (by rw[oT rfl];rfl) _ W7)
    ·refine Yj (by rw[nf cp];rfl) (Zu (no ?_ _ s1));cases own with
     | true =>
      rw[oT rfl];cases o with
      | tup os =>
       cases os with
       | nil=>exact absurd rfl cp
       | cons _ _=>rfl
      | _=>rfl
     | false=>rw[oF rfl, <-Bool.and_assoc,nf cp,Om]
   ·refine Yj (by rw[<-akx.length,lfw];show (!decide _)=true;rw[My (fun z=>cl (by injection z with z;omega))];rfl) ?_;rw[My cl,Om]at q;exact q _ (Zw.refl H)
  ·refine Yj (by rw[nf ck];rfl) (Zu ?_)
   have un:Yo own (.rcd fs us) (.tup [k,o])=none:=by
    cases k with
    | tup ks=>exact absurd rfl ck
    | _=>rfl
   rw[un]at q;exact q _ (Zw.refl H)
 ·refine Yj ?_ (Zu ?_)
  ·rw[<-ab.length];show (!decide _)=true;rw[My (fun z=>l2 (by injection z with z;omega))];rfl
  ·rw[zq l2]at q;exact q _ (Zw.refl H)
theorem Zjj{own:Bool}{fs:List V6}{op:Bool}{a u:Th}{k:Int}(h:Gn "str" a=false):Ox own fs op a k u=none:=by
 unfold Ox;rw[C4 h,C4 h]
 split<;>rfl
theorem Pr{n:Nat}(hn:n<=40)(F:Fu K "_law_is_choice" Uu f fd)(m:Bn mg)(Y4:gW P w K mg base)(Y0:Fn P w K mg base 43 "_law_is_item" ["_law_thing"] (Rc K 40))(Ua:Fn P w K mg base (2 * n+44) "_law_is" ["_law_make_here","_law_name","_law_thing","_law_own"] (Eu K n)):Yn P w K mg base Je (2 * n+45) f fd ["_law_make_here","_law_shape","_law_thing","_law_own"] (Zw6 K n):=by
 refine F.ok Bs (fun vs H Q E h=>?_) fun _ A _ s H vs Q E hr h=>?_
 ·obtain⟨e,S,ms,fs,us,op,sv,v,ts,own,rfl,_⟩:=h
  rfl
 obtain⟨e,S,ms,fs,us,op,sv,v,ts,own,rfl,mk,mo,is,pr,ht,gd,hz,hd,q⟩:=h;have hu:=Ur.units0 hr;obtain⟨a,ws,rfl,ha,at'⟩:=is;obtain⟨w1,w2,w3,w4,rfl,i1,i2,i3,i4⟩:=A5 at';cases Zr i4;obtain⟨fa,fws,rfl,O1,afs⟩:=i2;have l5:=pr.len;have lfw:fws.length=fs.length:=by rw[<-afs.length,Yp]
 obtain⟨b,xs,rfl,hb,ab⟩:=ht;refine⟨_,(@Zf _ _ _ _ _ (qi (qp (qO (tQ Oa (cB Zn m.len Vv (Zg (pv 2) Zx)) Zq) (qO (qn (Yg (cF Y4 hr (Zg (iX Zk (pv 2) Zq) (Zg Zq (Zg Zq Zx)))) (by intro _;rfl))) (qQ (qn (Yg (cB Ze m.isinstance Zh (Zg (iX Zk (pv 2) Zq) (Zg (Yy rfl m.str Xm (by decide) (by decide)) Zx))) (by intro _;rfl))))))) (q1 (qr Vz)) Zd) (qs (@Ud _ 4 Ti (Zv Uu) ["_law_arm","_law_thing"] [none,some 2] _ _ _ _ _ _ _ _ _ _ _ _ _ Bs.nd rfl (by trivial) rfl (qI (iX Zk (pv 1) Zq)) ⟨rfl,rfl,by decide +kernel,by decide +kernel⟩ (fun _ _ _=>(nI 0)) (fun _ _ _=>(@Rp _ _ _ (tQ Ym (iX Zk (pv 0) Zq) (iX Zk (pv 1) Zq)))) (fun _ _ _=>(iX Zk (pv 0) Zq)) (by trivial) (by trivial) (by trivial)) (qs (qi (tQ tz (pv 4) (ql Zx)) (q1 (qr (qa (eQ Vp (iX Zk (pv 2) Zq) Zm) (qe (cF Ua hr (Zg (pv 0) (Zg (iX Z2 (pv 4) Zq) (Zg (iX Zk (pv 2) Zq) (Zg (pv 3) Zx))))))))) Zd) (q1 (qr (qa (eQ Vp (iX Zk (pv 2) Zq) Zm) (qa (iX Zk (pv 1) Zq) (qa (@zb _ _ _ _ (pv 3)) (qe (cF Y0 hr (Zg (iX Zk (pv 2) Zq) Zx))))))))))), ?_⟩;refine⟨_,rfl,b,xs,rfl,.inr hb,rfl,_,rfl, ?_⟩;by_cases l3:ts.length=3
 ·refine Zc fun _ Y5=>?_;obtain⟨x,y,z,rfl⟩:=len3 l3;obtain⟨v1,v2,v3,rfl,ix,iy,iz⟩:=Mu ab;refine Y5 ?_;refine Z5 rfl ⟨_,rfl,b,_,_,_,rfl,rfl,hb,Jy,v2,y,_,_,rfl,iy,_,rfl, ?_⟩;by_cases cy:Z4 1 999 y=true
  ·refine Z5 (by rw[cy];rfl) ⟨_,rfl,b,_,_,_,rfl,rfl,hb,at0,_,_,x,rfl,ix,(by simp),_,rfl, ?_⟩;refine Zc fun _ Vm=>?_
   obtain⟨k,rfl⟩:∃k,y=.int k:=by
    cases y with
    | int k=>exact⟨k,rfl⟩
    | _=>cases cy
   cases Zr iy;refine Vm ?_;have un:Yo own (.cho fs us op) (.tup [x,.int k,z])=Ox own fs op x k z:=by show (if Z4 1 999 (.int k)=true then _ else _)=_;rw[if_pos cy]
   rw[un]at q;have zz:U4 z<=1000000:=fw me3 hz;by_cases cx:Gn "str" x=true
   ·refine Z5 (by rw[cx];rfl) ?_;refine⟨_,rfl,a,_,_,_,rfl,rfl,ha,Jy,fa,rfl,⟨_,O1⟩,fun D fp sx hD=>?_⟩;refine D6 (K:=K) (xs:=fws) (fun i ys σ H5=>(∃o,σ=[o,some (.ref b)])/\ys=(((fs.take i).filter fun f=>decide (f.n=k)).map V6.y).map V.str/\Zw H H5/\H5 D=some (.lst ys)) ⟨⟨_,rfl⟩,rfl,Zw.lay hD,Zz⟩ ?_ ?_ ?_
    ·intro i ys σ H5 hi K1;refine Zc fun _ Vh=>?_;obtain⟨_,_,s5,h5⟩:=K1;refine Vh ?_;exact⟨s5.up _ _ O1,h5⟩
    ·intro i xv ys σ H5 hx xt;refine Zc fun _ Vs=>?_;obtain⟨⟨o,rfl⟩,ey,s5,h5⟩:=xt;obtain⟨t,et,it⟩:=afs.got hx;rw[Ma]at et;obtain⟨g,eg,rfl⟩:=Qe.mp et;obtain⟨c,cs,rfl,hc,ac⟩:=it;obtain⟨c1,c2,c3,rfl,j1,j2,j3⟩:=Mu ac;cases Zr j1;cases Zr j3;refine Vs ?_;have hc5:=s5.up (K:=K) _ _ hc;refine Zqa ?_;refine⟨_,rfl,c,_,_,_,rfl,rfl,hc5,at0,_,rfl,b,_,_,_,rfl,rfl,s5.up _ _ hb,Jy,rfl,_,rfl, ?_⟩;refine Vw (fun cm=>?_) (fun cm=>?_)
     ·have cm:g.n=k:=by injection ph cm
      refine⟨_,rfl,c,_,_,_,rfl,rfl,hc5,Oz,h5, ?_,⟨_,rfl⟩, ?_,s5.put hD,Zz⟩
      ·rw[ey,Yp,Yp];exact Yi (Gw (List.length_filter_le _ _) (by rw[T1];omega))
      ·rw[Zs eg,List.filter_append,Gj,Gj, <-ey,List.filter_cons,if_pos (Gq cm)];rfl
     ·have cm:¬ g.n=k:=fun z=>cm (Gq (by rw[z]));refine⟨⟨_,rfl⟩, ?_,s5,h5⟩;rw[Zs eg,List.filter_append,Gj,Gj, <-ey,List.filter_cons,if_neg (by simpa using cm)];exact(List.append_nil _).symm
    ·intro ys σ H5 xm;refine Zc fun _ Vu=>?_;obtain⟨⟨o,rfl⟩,rfl,s5,h5⟩:=xm;refine Vu ?_;rw[lfw,fc]at h5;have hb5:=s5.up (K:=K) _ _ hb;refine⟨_,rfl,(sz 0),fun e0 h0=>?_⟩;have s0:=Zw.lay (o:=.lst []) h0;have s50:=s5.trans s0;have hb0:=s50.up (K:=K) _ _ hb;have hD0:=s0 _ _ h5;have ef:=rm (fs:=fs) (k:=k);generalize fs.filter (fun f=>decide (f.n=k))=gs at ef hD0;refine⟨.lst ((gs.map V6.y).map L2.D.str),.lst [],⟨D,_,rfl,Z0.of hD0,Zwr _⟩,⟨e0,[],rfl,Z0.of Zz,rfl⟩, ?_,_,rfl, ?_⟩
     ·have uN:=hr.un;show A.units+3+(C5 _+1)<cLine;rw[Zzh];have uN:A.units+3+16 * (2 * n+44)+200<cLine:=uN;omega
     unfold Ox at q;rw[<-ef]at q;cases gs with
     | nil =>
      refine Z5 rfl ?_;have q:∀H',Zw H H'->Q (.bl (Et own ms (if (Ue x "other" && (op && (!own && B2 100 z)))=true then some [] else none))) H':=q
      have q:∀H',Zw H H'->Q (.bl (Ue x "other" && (op && (!own && B2 100 z)))) H':=fun H' s'=>by
       have q':=q H' s';have on:∀{b:Bool},Et own ms (if b=true then some [] else none)=b:=fun {b}=>by cases b<;>rfl
       rw[on]at q';exact q'
      refine⟨_,rfl,b,_,_,_,rfl,rfl,hb0,at0,x,_,Zb.up s50.upT _ _ ix,rfl,hu,_,rfl, ?_⟩;by_cases c2:Ue x "other" = true
      ·refine Yj c2 ⟨_,rfl,a,_,_,_,rfl,rfl,s50.up _ _ ha,at3,_,rfl, ?_⟩;rw[c2,O9]at q;cases op with
       | false=>exact Z5 rfl (q _ s50)
       | true =>
        refine Yj rfl ⟨_,rfl,_,rfl,_,rfl, ?_⟩;cases own with
        | true=>exact Z5 rfl (q _ s50)
        | false =>
         refine Yj rfl ⟨_,rfl,b,_,_,_,rfl,rfl,hb0,Oz,v3,z,rfl,Zb.up s50.upT _ _ iz,gd.2.2.1,zz, ?_,fun H1 s1=>q _ (s50.trans s1)⟩;exact Hh (dpN me3 hd) hn
      ·refine Z5 (nf c2) ?_;rw[nf c2,Om]at q;exact q _ s50
     | cons g gs =>
      refine Yj rfl ?_;have mg':g∈fs:=List.mem_of_find?_eq_some ef.symm;have q:∀H',Zw H H'->Q (.bl (Et own ms (if Ue x "arm" = true then some [(g.y,z)] else none))) H':=q;refine⟨_,rfl,b,_,_,_,rfl,rfl,hb0,at0,x,_,Zb.up s50.upT _ _ ix,rfl,hu,_,rfl, ?_⟩;refine Vw (fun c1=>?_) (fun c1=>?_)
      ·rw[if_pos c1]at q;refine⟨_,rfl,_,rfl,D,_,_,_,rfl,rfl,Z0.of hD0,at0,_,rfl,b,_,_,_,rfl,rfl,hb0,Oz,_,rfl,e,S,ms,g.y,v3,z,own,rfl,mk.up s50.upT,mo,pr.y g mg',Zb.up s50.upT _ _ iz,gd.2.2.1,zz, ?_,fun H1 s1=>?_⟩
       ·exact dpN me3 hd
       ·have q':=q _ (s50.trans s1);have e1:Et own ms (some [(g.y,z)])=T4 own ms g.y z:=by show (T4 own ms g.y z && true)=_;rw[Bool.and_true]
        rw[e1]at q';exact q'
      ·rw[if_neg c1]at q;exact q _ s50
   ·refine Yj (by rw[nf cx];rfl) ?_;rw[Zjj (nf cx)]at q;exact q _ (Zw.refl H)
  ·refine Yj (by rw[nf cy];rfl) (Zu ?_);rw[Zz0 (nf cy)]at q;exact q _ (Zw.refl H)
 ·refine Yj ?_ (Zu ?_)
  ·rw[<-ab.length];show (!decide _)=true;rw[My (fun z=>l3 (by injection z with z;omega))];rfl
  ·rw[Ef l3]at q;exact q _ (Zw.refl H)
theorem Zqq{n:Nat}(hn:n<=40)(F:Fu K "_law_is" Bp f fd)(m:Bn mg)(Y4:gW P w K mg base)(Uq:Fn P w K mg base 1 "_law_is_text" ["_law_thing","_law_most"] (B5 K))(Yu:gA P w K mg base)(Ua:Fn P w K mg base (2 * n+44) "_law_is" ["_law_make_here","_law_name","_law_thing","_law_own"] (Eu K n))
  (Sn:Fn P w K mg base (2 * n+45) "_law_is_record" ["_law_make_here","_law_shape","_law_thing","_law_own"] (Zw4 K n)) (Sl:Fn P w K mg base (2 * n+45) "_law_is_choice" ["_law_make_here","_law_shape","_law_thing","_law_own"] (Zw6 K n)):Yn P w K mg base Je (2 * n+46) f fd ["_law_make_here","_law_name","_law_thing","_law_own"] (Eu K (n+1)):=by
 refine F.ok Ic (fun vs H Q E h=>?_) fun _ A _ s H vs Q E hr h=>?_
 ·obtain⟨e,S,ms,x,v,t,own,rfl,_⟩:=h
  rfl
 obtain⟨e,S,ms,x,v,t,own,rfl,mk,mo,lx,ht,gd,hz,hd,q⟩:=h;obtain⟨sh,es⟩:=Option.isSome_iff_exists.mp lx;obtain⟨v0,he⟩:=mk.e;obtain⟨kvs,sv,hS,ev,isv⟩:=mk.get es;refine⟨_,(@Zf _ _ _ _ _ (sI 4 Ic.nd (@Fi _ _ _ _ _ _ (To hr) (iX Zk (pv 0) Zq) (pv 1) (fun _ _=>rfl))) (qs (qi (tQ Ym (iX Zk (pv 4) Zq) Zm) (q1 (qr (cF Y4 hr (Zg (pv 2) (Zg (iX Zk (pv 4) Zq) (Zg (iX Zk (pv 4) Zq) Zx)))))) Zd) (qs (qi (tQ Ym (iX Zk (pv 4) Zq) Zm) (q1 (qr (cB Ze m.isinstance Zh (Zg (pv 2) (Zg (Yy rfl m.bool qb (by decide) (by decide)) Zx))))) Zd) (qs (qi (tQ Ym (iX Zk (pv 4) Zq) Zm) (q1 (qr (cF Uq hr (Zg (pv 2) (Zg (iX Zk (pv 4) Zq) Zx))))) Zd) (qs (qi (qn (Yg (cB Ze m.isinstance Zh (Zg (pv 2) (Zg (Yy rfl m.tuple Yr (by decide) (by decide)) Zx))) (by intro _;rfl))) (q1 (qr Vz)) Zd) (qs (qi (tQ Ym (iX Zk (pv 4) Zq) Zm) (q1 (qr (qa (eQ Wy (cB Zn m.len Vv (Zg (pv 2) Zx)) (iX Zk (pv 4) Zq)) (qe (cB (Ye rfl) m.all G3 (Zg (pC Hr (Zv Bp) ["_law_one","_law_make_here","_law_own","_law_shape"] [none,some 0,some 3,some 4] (qI (pv 2)) (fun _ _ _=>(nI 0)) (fun _ _ _=>Z1) (fun _ _ _=>(cF Ua hr (Zg (pv 1) (Zg (iX Zk (pv 3) Zq) (Zg (pv 0) (Zg (pv 2) Zx))))))) Zx)))))) Zd) (qs (qi (tQ Ym (iX Zk (pv 4) Zq) Zm) (qs (qi (qp (qO (tQ Ia (cB Zn m.len Vv (Zg (pv 2) Zx)) (iX Zk (pv 4) Zq)) (qQ (qn (Yg (cF Yu hr (Zg (pv 2) (Zg Vz Zx))) (by intro _;rfl)))))) (q1 (qr Vz)) Zd) (q1 (qr (cB (Ye rfl) m.all G3 (Zg (pC Hr (Zv Bp) ["_law_one","_law_make_here","_law_own","_law_shape"] [none,some 0,some 3,some 4] (qI (pv 2)) (fun _ _ _=>(nI 0)) (fun _ _ _=>Z1) (fun _ _ _=>(cF Ua hr (Zg (pv 1) (Zg (iX Zk (pv 3) Zq) (Zg (iX Zk (pv 0) Zq) (Zg (pv 2) Zx))))))) Zx))))) Zd) (q1 (qr (@Cd _ _ _ _ _ _ _ _ (tQ Ym (iX Zk (pv 4) Zq) Zm) (cF Sn hr (Zg (pv 0) (Zg (pv 4) (Zg (pv 2) (Zg (pv 3) Zx))))) (cF Sl hr (Zg (pv 0) (Zg (pv 4) (Zg (pv 2) (Zg (pv 3) Zx))))))))))))))), ?_⟩;have shk:=mo.ok x sh es;rw[Ed es]at q;refine⟨_,rfl,e,_,_,_,rfl,rfl,he,Jy,_,rfl,S,_,rfl,(show Nl H S (kV (.inr x)) (some sv) from ev ▸ E7 hS (.inr x)), ?_⟩;have yq:=isv
 have nt:∀{s:Y3},¬ Sng s->Gn "tuple" t=false->Et own ms (Yo own s t)=false:=fun {s} z c=>by
  cases s with
  | whole _ _=>exact absurd trivial z
  | truth=>exact absurd trivial z
  | text _=>exact absurd trivial z
  | row b y k =>
   cases t with
   | tup _=>cases c
   | _=>cases b<;>rfl
  | rcd _ _ =>
   cases t with
   | tup _=>cases c
   | _=>rfl
  | cho _ _ _ =>
   cases t with
   | tup _=>cases c
   | _=>rfl
 have on:∀{b:Bool},Et own ms (if b=true then some [] else none)=b:=fun {b}=>by cases b<;>rfl
 have sing:Sng sh->Yo own sh t=(if Ii sh t=true then some [] else none):=fun z=>by
  cases sh with
  | whole _ _=>cases t<;>rfl
  | truth=>cases t<;>rfl
  | text _=>cases t<;>rfl
  | row _ _ _=>exact z.elim
  | rcd _ _=>exact z.elim
  | cho _ _ _=>exact z.elim
 cases sh with
 | whole lo hi =>
  rw[sing trivial,on]at q;refine Zc fun _ Ug=>?_;obtain⟨a,ws,rfl,ha,at'⟩:=isv;obtain⟨w1,w2,w3,rfl,i1,i2,i3⟩:=Mu at';cases Zr i1;cases Zr i2;cases Zr i3;refine Ug ?_;refine⟨_,rfl,a,_,_,_,rfl,rfl,ha,at0,rfl,_,rfl,iY ?_⟩;exact⟨_,rfl,_,rfl,a,_,_,_,rfl,rfl,ha,Jy,_,rfl,a,_,_,_,rfl,rfl,ha,Oz,v,t,_,_,rfl,ht,q H (Zw.refl H)⟩
 | truth =>
  rw[sing trivial,on]at q;refine Zc fun _ Uk=>?_;obtain⟨a,ws,rfl,ha,at'⟩:=isv;obtain⟨w1,rfl,i1⟩:=A7 at';cases Zr i1;refine Uk ?_;refine⟨_,rfl,a,_,_,_,rfl,rfl,ha,at0,rfl,_,rfl,iN ?_⟩;refine⟨_,rfl,a,_,_,_,rfl,rfl,ha,at0,rfl,_,rfl,iY ?_⟩;exact⟨_,rfl,_,_,t,rfl,ht,(by simp),q H (Zw.refl H)⟩
 | text k =>
  rw[sing trivial,on]at q;refine Zc fun _ U1=>?_;obtain⟨a,ws,rfl,ha,at'⟩:=isv;obtain⟨w1,w2,rfl,i1,i2⟩:=A6 at';cases Zr i1;cases Zr i2;refine U1 ?_
  iterate 2 refine⟨_,rfl,a,_,_,_,rfl,rfl,ha,at0,rfl,_,rfl,iN ?_⟩
  refine⟨_,rfl,a,_,_,_,rfl,rfl,ha,at0,rfl,_,rfl,iY ?_⟩;exact⟨_,rfl,_,rfl,a,_,_,_,rfl,rfl,ha,Jy,v,t,k,rfl,ht,gd,q⟩
 | row b y k =>
  refine Zc fun _ Y5=>?_;obtain⟨a,ws,rfl,ha,at'⟩:=isv;obtain⟨w1,w2,w3,rfl,i1,i2,i3⟩:=Mu at';cases Zr i2;cases Zr i3;have hbb:∀b:Bool,decide (V.str (if b=true then ("row" : Str) else "map")=V.str "whole")=false/\decide (V.str (if b=true then ("row" : Str) else "map")=V.str "truth")=false/\decide (V.str (if b=true then ("row" : Str) else "map")=V.str "text")=false:=by decide +kernel
  cases Zr i1;refine Y5 ?_;refine⟨_,rfl,a,_,_,_,rfl,rfl,ha,at0,rfl,_,rfl,Z5 (hbb b).1 ?_⟩;refine⟨_,rfl,a,_,_,_,rfl,rfl,ha,at0,rfl,_,rfl,Z5 (hbb b).2.1 ?_⟩;refine⟨_,rfl,a,_,_,_,rfl,rfl,ha,at0,rfl,_,rfl,Z5 (hbb b).2.2 ?_⟩;refine⟨_,rfl,_,_,t,rfl,ht,(by simp),_,rfl, ?_⟩;by_cases ct:Gn "tuple" t=true
  ·refine Zc fun _ Vm=>?_;obtain⟨ts,rfl⟩:=El ct;refine Vm ?_;refine Y6 ⟨_,rfl,a,_,_,_,rfl,rfl,ha,at0,rfl,_,rfl, ?_⟩;have ht0:=ht;refine Zc fun _ Vh=>?_;obtain⟨p,xs,rfl,hp,ap⟩:=ht;refine Vh ?_;have hl:=Jz hz
   have kid:∀u∈ts,Dr u/\U4 u<=1000000/\Jn u<n:=fun u mu=>by
    refine⟨Yz.mp gd u mu, ?_, ?_⟩
    ·exact fw mu hz
    ·exact dpM mu hd
   cases b with
   | true =>
    refine Yj (by decide +kernel) ⟨_,rfl,p,xs,rfl,.inr hp,_,rfl,a,_,_,_,rfl,rfl,ha,Oz,_,_,rfl,rfl,_,rfl, ?_⟩;rw[<-ap.length];have un:Yo own (.row true y k) (.tup ts)=if (ts.length:Int)<=k then some (ts.map fun u=>(y,u)) else none:=rfl
    rw[un]at q;by_cases cl:(ts.length:Int)<=k
    ·rw[if_pos cl]at q;refine Yj (Gq cl) ⟨_,rfl,p,rfl,⟨_,hp⟩,fun D fp sx hD=>?_⟩;refine Dv (p:=fun u=>T4 own ms y u) hp ap hl hD (fun u v H5 Q5 mu s5 i5 q5=>?_) fun H6 s6 h6=>⟨D,_,rfl,Z0.of h6, ?_⟩
     ·refine Zc fun _ Vs=>?_;obtain⟨g1,g2,g3⟩:=kid u mu;refine Vs ?_;exact⟨_,rfl,_,rfl,a,_,_,_,rfl,rfl,s5.up _ _ ha,Jy,_,rfl,_,rfl,e,S,ms,y,v,u,own,rfl,mk.up s5.upT,mo,shk.1,i5,g1,g2,g3,q5⟩
     ·have q':=q _ s6;have e1:Et own ms (some (ts.map fun u=>(y,u)))=ts.all fun u=>T4 own ms y u:=by show List.all _ _=_;rw[List.all_map];rfl
      rw[e1]at q';rw[List.all_map];exact q'
    ·rw[if_neg cl]at q;exact Z5 (My cl) (q _ (Zw.refl H))
   | false =>
    refine Z5 (by decide +kernel) ⟨_,rfl,a,_,_,_,rfl,rfl,ha,at0,rfl,_,rfl,iY ?_⟩;refine⟨_,rfl,p,xs,rfl,.inr hp,_,rfl,a,_,_,_,rfl,rfl,ha,Oz,_,_,rfl,rfl,_,rfl, ?_⟩;rw[<-ap.length];have un:Yo own (.row false y k) (.tup ts)=if (Z7 (.tup ts) && (decide ((ts.length:Int)<=k) && Z8 true (ts.map Z6)))=true then some (ts.map fun p=>(y,Vc p)) else none:=rfl
    rw[un]at q;by_cases cl:(ts.length:Int)<=k
    ·refine Z5 (My (by omega)) ⟨_,rfl,_,.tup ts,false,rfl,ht0,gd,hz,fun H1 s1=>⟨_,rfl, ?_⟩⟩;show if (!(Z7 (.tup ts) && Z8 true (ts.map Z6)))=true then _ else _
     rw[Gq cl,O9]at q;by_cases cp:(Z7 (.tup ts) && Z8 true (ts.map Z6))=true
     ·rw[if_pos cp]at q;refine Z5 (by rw[cp];rfl) ⟨_,rfl,p,rfl,⟨_,s1.up _ _ hp⟩,fun D fp sx hD=>?_⟩;refine Dv (p:=fun u=>T4 own ms y (Vc u)) (s1.up _ _ hp) (Zy.up s1.upT _ _ ap) hl hD (fun u v H5 Q5 mu s5 i5 q5=>?_) fun H6 s6 h6=>⟨D,_,rfl,Z0.of h6, ?_⟩
      ·refine Zc fun _ Vu=>?_;obtain⟨g1,g2,g3⟩:=kid u mu;obtain⟨u1,u2,rfl⟩:=Dl (Wv.mp (fq.mp cp).1 u mu);obtain⟨pq,vx,vy,rfl,Xq,ix,iy⟩:=Bo i5;refine Vu ?_;have s15:=s1.trans s5;refine⟨_,rfl,_,rfl,a,_,_,_,rfl,rfl,s15.up _ _ ha,Jy,_,rfl,pq,_,_,_,rfl,rfl,Xq,Jy,_,rfl,e,S,ms,y,vy,u2,own,rfl,mk.up s15.upT,mo,shk.1,iy,g1.2.1, ?_, ?_,q5⟩
       ·exact fw me2 g2
       ·exact dpN me2 (Nat.le_of_lt g3)
      ·have q':=q _ (s1.trans s6);have e1:Et own ms (some (ts.map fun p=>(y,Vc p)))=ts.all fun u=>T4 own ms y (Vc u):=by show List.all _ _=_;rw[List.all_map];rfl
       rw[e1]at q';rw[List.all_map];exact q'
     ·rw[if_neg cp]at q;exact Yj (by rw[nf cp];rfl) (q _ s1)
    ·rw[My cl,Om,Bool.and_false]at q;exact Yj (Gq (by omega)) (Zu (q _ (Zw.refl H)))
  ·have q':=q _ (Zw.refl H);rw[nt (s:=.row b y k) (fun z=>z) (nf ct)]at q';exact Yj (by rw[nf ct];rfl) q'
 | rcd fs us =>
  refine Zc fun _ Ug=>?_;obtain⟨a,ws,rfl,ha,at'⟩:=isv;obtain⟨w1,w2,w3,rfl,i1,i2,i3⟩:=Mu at';cases Zr i1;refine Ug ?_
  iterate 3 refine⟨_,rfl,a,_,_,_,rfl,rfl,ha,at0,rfl,_,rfl,iN ?_⟩
  refine⟨_,rfl,_,_,t,rfl,ht,(by simp),_,rfl, ?_⟩;by_cases ct:Gn "tuple" t=true
  ·refine Zc fun _ Uk=>?_;obtain⟨ts,rfl⟩:=El ct;refine Uk ?_;refine Y6 ⟨_,rfl,a,_,_,_,rfl,rfl,ha,at0,rfl,_,rfl,iN ?_⟩;refine⟨_,rfl,a,_,_,_,rfl,rfl,ha,at0,rfl,_,rfl,iN ?_⟩;refine⟨_,rfl,a,_,_,_,rfl,rfl,ha,at0,rfl,_,rfl,iY ?_⟩;exact⟨_,rfl,_,rfl,_,rfl,_,rfl,e,S,ms,fs,us,.ref a,v,ts,own,rfl,mk,mo,yq,shk,ht,gd,hz,by omega,q⟩
  ·have q':=q _ (Zw.refl H);rw[nt (s:=.rcd fs us) (fun z=>z) (nf ct)]at q';exact Yj (by rw[nf ct];rfl) q'
 | cho fs us op =>
  refine Zc fun _ U1=>?_;obtain⟨a,ws,rfl,ha,at'⟩:=isv;obtain⟨w1,w2,w3,w4,rfl,i1,i2,i3,i4⟩:=A5 at';cases Zr i1;refine U1 ?_
  iterate 3 refine⟨_,rfl,a,_,_,_,rfl,rfl,ha,at0,rfl,_,rfl,iN ?_⟩
  refine⟨_,rfl,_,_,t,rfl,ht,(by simp),_,rfl, ?_⟩;by_cases ct:Gn "tuple" t=true
  ·refine Zc fun _ Y5=>?_;obtain⟨ts,rfl⟩:=El ct;refine Y5 ?_;refine Y6 ⟨_,rfl,a,_,_,_,rfl,rfl,ha,at0,rfl,_,rfl,iN ?_⟩
   iterate 2 refine⟨_,rfl,a,_,_,_,rfl,rfl,ha,at0,rfl,_,rfl,iN ?_⟩
   exact⟨_,rfl,_,rfl,_,rfl,_,rfl,e,S,ms,fs,us,op,.ref a,v,ts,own,rfl,mk,mo,yq,shk.1,ht,gd,hz,by omega,q⟩
  ·have q':=q _ (Zw.refl H);rw[nt (s:=.cho fs us op) (fun z=>z) (nf ct)]at q';exact Yj (by rw[nf ct];rfl) q'
theorem g_is{f1 f2 f3:Addr}{d1 d2 d3:FuncData}(F1:Fu K "_law_is" Bp f1 d1)(F2:Fu K "_law_is_record" Vr f2 d2)(F3:Fu K "_law_is_choice" Uu f3 d3)(m:Bn mg)
  (b1:G5 K d1 ["_law_make_here","_law_name","_law_thing","_law_own"] []) (b2:G5 K d2 ["_law_make_here","_law_shape","_law_thing","_law_own"] []) (b3:G5 K d3 ["_law_make_here","_law_shape","_law_thing","_law_own"] []) (m1:mg "_law_is" = some (.ref f1)) (m2:mg "_law_is_record" = some (.ref f2)) (m3:mg "_law_is_choice" = some (.ref f3))
  (Y4:gW P w K mg base) (Uq:Fn P w K mg base 1 "_law_is_text" ["_law_thing","_law_most"] (B5 K)) (Yu:gA P w K mg base) (Y0:Fn P w K mg base 43 "_law_is_item" ["_law_thing"] (Rc K 40)) :
  ∀n,n<=40->Fn P w K mg base (2 * n+44) "_law_is" ["_law_make_here","_law_name","_law_thing","_law_own"] (Eu K n)
 | 0,_=>⟨f1,d1,⟨fun vs H Q E h=>by obtain⟨_,_,_,_,_,_,_,_,_,_,_,_,_,_,z,_⟩:=h;omega,fun A outer s H args us vs Q E _ _ _ _ h=>by obtain⟨_,_,_,_,_,_,_,_,_,_,_,_,_,_,z,_⟩:=h;omega⟩,b1,F1.kp,m1⟩
 | n+1,hn=>by
  have g:=g_is F1 F2 F3 m b1 b2 b3 m1 m2 m3 Y4 Uq Yu Y0 n (by omega);exact⟨f1,d1,Zqq (by omega) F1 m Y4 Uq Yu g ⟨f2,d2,Pl (by omega) F2 m Yu Y0 g,b2,F2.kp,m2⟩ ⟨f3,d3,Pr (by omega) F3 m Y4 Y0 g,b3,F3.kp,m3⟩,b1,F1.kp,m1⟩
mutual
def thD:Th->D
 | .non=>.non
 | .bl b=>.bl b
 | .int i=>.int i
 | .str x=>.str x
 | .tup ts=>.tup (Zxj ts)
 | .opq=>.non
def Zxj:List Th->List D
 | []=>[]
 | t::ts=>thD t::Zxj ts
end
mutual
theorem Ki{K:W.Frag}{H:Hp}:∀(t:Th) (v:V),nqT t->Zb K H t v->Gp K H (thD t) v
 | .non,_,_,h=>h
 | .bl _,_,_,h=>h
 | .int _,_,_,h=>h
 | .str _,_,_,h=>h
 | .tup ts,v,n,h=>by
  obtain⟨a,vs,e,q,r⟩:=h;exact⟨a,vs,e,q,Zz2 ts vs n r⟩
 | .opq,v,n,h=>n.elim
theorem Zz2{K:W.Frag}{H:Hp}:∀(ts:List Th) (vs:List V),Zyv ts->Zy K H ts vs->Vy K H (Zxj ts) vs
 | [],_,_,h=>h
 | t::ts,vs,n,h=>by
  obtain⟨v,r,e,q,w⟩:=h;exact⟨v,r,e,Ki t v n.1 q,Zz2 ts r n.2 w⟩
end
mutual
theorem qz:∀t:Th,N2 (thD t)=Jn t
 | .non=>rfl
 | .bl _=>rfl
 | .int _=>rfl
 | .str _=>rfl
 | .opq=>rfl
 | .tup ts=>by show C5 (Zxj ts)+1=Mr ts+1;rw[Zzs ts]
theorem Zzs:∀ts:List Th,C5 (Zxj ts)=Mr ts
 | []=>rfl
 | t::ts=>by show max (N2 (thD t)) (C5 (Zxj ts))=max (Jn t) (Mr ts);rw[qz t,Zzs ts]
end
structure Bd(c d:Nat)(t:Th):Prop where
 nq:nqT t
 gd:Dr t
 sz:U4 t<=c
 dp:Jn t<=d
 wd:jw t<=6
theorem Bd.mono{c d c' d':Nat}{t:Th}(h:Bd c d t)(hc:c<=c')(hd:d<=d'):Bd c' d' t:=⟨h.nq,h.gd,Gw h.sz hc,Gw h.dp hd,h.wd⟩
theorem bd_int(i:Int):Bd 1 0 (.int i):=⟨trivial,trivial,Vj _,Vj _,Wl _⟩
theorem Zdh(b:Bool):Bd 1 0 (.bl b):=⟨trivial,trivial,Vj _,Vj _,Wl _⟩
theorem kj{x:Str}(h:ke x):Bd 1 0 (.str x):=⟨trivial,⟨h.1,Gw h.2 (by decide)⟩,Vj _,Vj _,Wl _⟩
theorem aw{x:Str}(h:(x.cps.toList.all fun c=>decide (gdC c))=true)(hl:x.length<=200):ke x:=⟨fun c mc=>ph (Wv.mp h c mc),hl⟩
theorem C8{c d:Nat}{ts:List Th}(h:∀t∈ts,Bd c d t)(hl:ts.length<=6):Bd (ts.length * c+1) (d+1) (.tup ts):=by
 refine⟨Ca fun t m=>(h t m).nq,Yz.mpr fun t m=>(h t m).gd, ?_, ?_, ?_⟩
 ·have:∀l:List Th,(∀t∈l,Bd c d t)->Yd l<=l.length * c:=fun l=>by
   induction l with
   | nil=>intro _;simp[Yd]
   | cons t l ih =>
    intro hl;have i:=ih fun x m=>hl x (Rq _ m);have g:=(hl t Te).sz;simp only[Yd,S6,Nat.add_mul,Nat.one_mul];omega
  have:=this ts h;simp only[U4];omega
 ·have:=Qn fun t m=>(h t m).dp;simp only[Jn];omega
 ·have:=Fj fun t m=>(h t m).wd;simp only[jw];omega
theorem bd2{c c' d:Nat}{a b:Th}(ha:Bd c d a)(hb:Bd c' d b):Bd (c+c'+1) (d+1) (.tup [a,b]):=by
 obtain⟨a1,a2,a3,a4,a5⟩:=ha;obtain⟨b1,b2,b3,b4,b5⟩:=hb;refine⟨⟨a1,b1,trivial⟩,⟨a2,b2,trivial⟩, ?_, ?_, ?_⟩
 ·simp only[U4,Yd];omega
 ·simp only[Jn,Mr];omega
 ·simp only[jw,R7,S6,List.length_nil];omega
theorem bd3{c c' c'' d:Nat}{a b e:Th}(ha:Bd c d a)(hb:Bd c' d b)(he:Bd c'' d e):Bd (c+c'+c''+1) (d+1) (.tup [a,b,e]):=by
 obtain⟨a1,a2,a3,a4,a5⟩:=ha;obtain⟨b1,b2,b3,b4,b5⟩:=hb;obtain⟨e1,e2,e3,e4,e5⟩:=he;refine⟨⟨a1,b1,e1,trivial⟩,⟨a2,b2,e2,trivial⟩, ?_, ?_, ?_⟩
 ·simp only[U4,Yd];omega
 ·simp only[Jn,Mr];omega
 ·simp only[jw,R7,S6,List.length_nil];omega
theorem Tf{d:Nat}{x:Str}(h:(x.cps.toList.all fun c=>decide (gdC c))=true)(hl:x.length<=200):Bd 1 d (.str x):=(kj (aw h hl)).mono (Vj _) (Wl _)
theorem N3{d:Nat}(i:Int):Bd 1 d (.int i):=(bd_int i).mono (Vj _) (Wl _)
structure jx(c d:Nat)(t:Th):Prop where
 is:B2 100 t=true
 bd:Bd c d t
theorem jx.mono{c d c' d':Nat}{t:Th}(h:jx c d t)(hc:c<=c')(hd:d<=d'):jx c' d' t:=⟨h.is,h.bd.mono hc hd⟩
theorem Ku{c d:Nat}{t:Th}(hd:d<=98)(h:Bd c d t)(o:Vx t=true)(k:∀u∈Yc t,B2 100 u=true):jx c d t:=⟨by
 rw[Zye (Gw h.dp hd),o,O9];exact Wv.mpr k,h⟩
def om(p:Int×Th):Th:=.tup [.int p.1,p.2]
def Xc:List Int:=[1,4,7,50,100,998]
theorem Zv5:∀n∈Xc,1<=n/\n<=999:=by decide
theorem oth_up:Xc.Pairwise (· < ·):=by decide
structure OsOk(own:Bool)(fs:List V6)(os:List (Int×Th)):Prop where
 own:own=true->os=[]
 sub:(os.map (·.1)).Sublist Xc
 ok:∀o∈os,o.1 ∉ fs.map V6.n/\jx 60 7 o.2
structure Nb where
 f:V6
 u:Th
structure B1 where
 k:Str
 u:Th
def B1.t(e:B1):Th:=.tup [.str e.k,e.u]
def VW(W:Str->Th->Prop)(own:Bool):Y3->Th->Prop
 | .whole lo hi,u=>Pv (.whole lo hi) u
 | .truth,u=>∃b:Bool,u=.bl b
 | .text n,u=>Pv (.text n) u
 | .row true y k,u=>∃l:List B1,l.length<=3/\(l.length:Int)<=k/\(∀e∈l,e.k∈Gx/\W y e.u)/\u=.tup (l.map B1.u)
 | .row false y k,u=>∃l:List B1,l.length<=3/\(l.length:Int)<=k/\(∀e∈l,e.k∈Gx/\W y e.u)/\adj ltS (l.map B1.k)/\u=.tup (l.map B1.t)
 | .rcd fs _,u=>∃(l:List Nb) (os:List (Int×Th)),l.map Nb.f=fs/\(∀e∈l,W e.f.y e.u)/\OsOk own fs os/\u=.tup [.tup (l.map Nb.u),.tup (os.map om)]
 | .cho fs _ op,u=>(∃f∈fs,∃u',W f.y u'/\u=.tup [.str "arm",.int f.n,u']) \/
   (own=false/\op=true/\∃n it,n ∉ fs.map V6.n/\1<=n/\n<=999/\jx 60 7 it/\u=.tup [.str "other",.int n,it])
def Wr(own:Bool)(ms:List (Str×Y3)):Nat->Str->Th->Prop
 | 0,x,u=>∃s,Jf ms x=some s/\VW (fun _ _=>False) own s u
 | n+1,x,u=>∃s,Jf ms x=some s/\VW (Wr own ms n) own s u
def Wr'(own:Bool)(ms:List (Str×Y3)):Nat->Str->Th->Prop
 | 0=>fun _ _=>False
 | n+1=>Wr own ms n
theorem Wr.out{own:Bool}{ms:List (Str×Y3)}:∀{n:Nat} {x:Str} {u:Th},Wr own ms n x u->∃s,Jf ms x=some s/\VW (Wr' own ms n) own s u
 | 0,_,_,h=>h
 | _+1,_,_,h=>h
theorem Wr.of{own:Bool}{ms:List (Str×Y3)}:∀{n:Nat} {x:Str} {u:Th} {s:Y3},Jf ms x=some s->VW (Wr' own ms n) own s u->Wr own ms n x u
 | 0,_,_,_,e,h=>⟨_,e,h⟩
 | _+1,_,_,_,e,h=>⟨_,e,h⟩
def CW:Nat->Nat
 | 0=>0
 | n+1=>5 * CW n+500
theorem Zwz:∀x∈Gx,ke x:=fun x m=>by
 have h:∀x∈Gx,(x.cps.toList.all fun c=>decide (gdC c))=true/\x.length<=200:=by decide +kernel
 exact aw (h x m).1 (h x m).2
theorem Zwx:∀x∈Gx,nj (.str x)=true:=by decide +kernel
theorem Zbg:∀n∈S5,1<=n/\n<=999:=by decide
theorem fld_in{ms:List (Str×Y3)}{fs:List V6}(h:Us ms fs){f:V6}(m:f∈fs):1<=f.n/\f.n<=999:=Zbg _ (h.nums.subset (List.mem_map_of_mem m))
theorem Zvh{s:Y3}{u:Th}(h:Pv s u):Bd 1 1 u:=by
 cases s with
 | whole lo hi=>cases u with
  | int i=>exact N3 i
  | _=>exact h.elim
 | truth=>cases u with
  | bl b=>exact(Zdh b).mono (Vj _) (by decide)
  | _=>exact h.elim
 | text n=>cases u with
  | str x=>exact(kj h.1).mono (Vj _) (by decide)
  | _=>exact h.elim
 | row b y k=>cases u with
  | tup ts=>cases ts with
   | nil=>exact⟨trivial,trivial,Vj _,Vj _,Wl _⟩
   | cons _ _=>exact h.elim
  | _=>exact h.elim
 | rcd _ _=>cases u<;>exact h.elim
 | cho _ _ _=>cases u<;>exact h.elim
theorem VW.bd{own:Bool}{ms:List (Str×Y3)}{W:Str->Th->Prop}{c n:Nat}{s:Y3}{u:Th}(ok:pj ms s)(ih:∀x u,W x u->Bd c (9+3 * n) u)(h:VW W own s u):Bd (5 * c+500) (12+3 * n) u:=by
 have base:∀{c' d:Nat} {t:Th},Bd c' d t->c'<=500->d<=12->Bd (5 * c+500) (12+3 * n) t:=fun g hc hd=>g.mono (by omega) (by omega);cases s with
 | whole lo hi=>exact base (Zvh (s:=.whole lo hi) h) (by decide) (by decide)
 | truth=>obtain⟨b,rfl⟩:=h;exact base (Zdh b) (by decide) (by decide)
 | text k=>exact base (Zvh (s:=.text k) h) (by decide) (by decide)
 | row b y k =>
  cases b with
  | true =>
   obtain⟨l,l3,_,hl,rfl⟩:=h
   have g:Bd ((l.map B1.u).length * c+1) (9+3 * n+1) (.tup (l.map B1.u)):=C8 (fun t m=>by
    obtain⟨e,me,rfl⟩:=Dp.mp m;exact ih _ _ (hl e me).2) (by rw[Yp];omega)
   rw[Yp]at g;have:=Nat.mul_le_mul_right c l3;exact g.mono (by omega) (by omega)
  | false =>
   obtain⟨l,l3,_,hl,_,rfl⟩:=h
   have g:Bd ((l.map B1.t).length * (1+c+1)+1) (9+3 * n+1+1) (.tup (l.map B1.t)):=C8 (fun t m=>by
    obtain⟨e,me,rfl⟩:=Dp.mp m;exact bd2 ((kj (Zwz _ (hl e me).1)).mono (Vj _) (Wl _)) (ih _ _ (hl e me).2)) (by rw[Yp];omega)
   rw[Yp]at g;have:=Nat.mul_le_mul_right (1+c+1) l3;exact g.mono (by omega) (by omega)
 | rcd fs us =>
  obtain⟨l,os,ef,hl,ho,rfl⟩:=h;have ok:Us ms fs:=ok;have l5:l.length<=5:=by have:=ok.len;rw[<-ef,Yp]at this;exact this
  have lo:os.length<=6:=by have:=ho.sub.length_le;rw[Yp]at this;exact this
  have g1:Bd ((l.map Nb.u).length * c+1) (9+3 * n+1) (.tup (l.map Nb.u)):=C8 (fun t m=>by
   obtain⟨e,me,rfl⟩:=Dp.mp m;exact ih _ _ (hl e me)) (by rw[Yp];omega)
  have g2:Bd ((os.map om).length * (1+60+1)+1) (7+1+1) (.tup (os.map om)):=C8 (fun t m=>by
   obtain⟨e,me,rfl⟩:=Dp.mp m;exact bd2 (N3 _) (ho.ok e me).2.bd) (by rw[Yp];omega)
  rw[Yp]at g1 g2;have:=Nat.mul_le_mul_right c l5;have:=Nat.mul_le_mul_right (1+60+1) lo;exact(bd2 g1 (g2.mono (Vj _) (by omega))).mono (by omega) (by omega)
 | cho fs us o =>
  rcases h with ⟨f,mf,u',hw,rfl⟩ | ⟨_,_,k,it,_,_,_,gi,rfl⟩
  ·exact(bd3 (Tf (by decide +kernel) (by decide +kernel)) (N3 _) (ih _ _ hw)).mono (by omega) (by omega)
  ·exact base (bd3 (Tf (by decide +kernel) (by decide +kernel)) (N3 _) gi.bd) (by decide) (by decide)
theorem Wr.bd{own:Bool}{ms:List (Str×Y3)}(mk:Rx ms):∀{n:Nat} {x:Str} {u:Th},Wr own ms n x u->Bd (CW (n+1)) (12+3 * n) u
 | 0,x,u,h=>by
  obtain⟨s,es,h⟩:=h;exact VW.bd (n:=0) (c:=0) (mk.ok x s es) (fun _ _ z=>z.elim) h
 | n+1,x,u,h=>by
  obtain⟨s,es,h⟩:=h;exact VW.bd (n:=n+1) (c:=CW (n+1)) (mk.ok x s es) (fun _ _ z=>(Wr.bd mk z).mono (Vj _) (by omega)) h
theorem fst_kt(l:List B1):(l.map B1.t).map Z6=(l.map B1.k).map Th.str:=by rw[List.map_map,List.map_map];exact List.map_congr_left fun _ _=>rfl
theorem fst_pr(l:List (Int×Th)):(l.map om).map Z6=(l.map (·.1)).map Th.int:=by rw[List.map_map,List.map_map];exact List.map_congr_left fun _ _=>rfl
theorem fld_is{fs:List V6}(nd:(fs.map V6.n).Nodup){f:V6}(m:f∈fs):Jm fs f.n=some f:=by
 unfold Jm
 induction fs with
 | nil=>cases m
 | cons g fs ih =>
  rw[R5,List.nodup_cons]at nd;rw[List.find?_cons];rcases G2.mp m with rfl | m
  ·rw[Gq rfl]
  ·have:¬ g.n=f.n:=fun z=>nd.1 (by rw[z];exact List.mem_map_of_mem m);rw[My this];exact ih nd.2 m
theorem rg{fs:List V6}{n:Int}(h:n ∉ fs.map V6.n):Jm fs n=none:=List.find?_eq_none.mpr fun f mf z=>h (Dp.mpr ⟨f,mf,ph z⟩)
theorem uo(l:List Nb):List.zipWith (fun f k=>((f.y,k):Str×Th)) (l.map Nb.f) (l.map Nb.u)=l.map fun e=>(e.f.y,e.u):=by
 induction l with
 | nil=>rfl
 | cons e l ih=>rw[R5,R5,List.zipWith_cons_cons,ih];rfl
theorem VW.vl{own:Bool}{ms:List (Str×Y3)}{W:Str->Th->Prop}{s:Y3}{u:Th}(ok:pj ms s)(ih:∀x u,W x u->T4 own ms x u=true)(h:VW W own s u):Et own ms (Yo own s u)=true:=by
 cases s with
 | whole lo hi =>
  cases u with
  | int i =>
   have h:lo<=i/\i<=hi:=h;show Et own ms (if (decide (lo<=i) && decide (i<=hi))=true then some [] else none)=true;rw[Gq h.1,Gq h.2];rfl
  | _=>exact h.elim
 | truth=>obtain⟨b,rfl⟩:=h;rfl
 | text k =>
  cases u with
  | str x =>
   have h:ke x/\(x.length:Int)<=k:=h;show Et own ms (if decide ((x.length:Int)<=k)=true then some [] else none)=true;rw[Gq h.2];rfl
  | _=>exact h.elim
 | row b y k =>
  cases b with
  | true =>
   obtain⟨l,l3,lk,hl,rfl⟩:=h;show Et own ms (if ((l.map B1.u).length:Int)<=k then some ((l.map B1.u).map fun u=>(y,u)) else none)=true;rw[if_pos (by rw[Yp];exact lk)];refine Wv.mpr fun p mp=>?_;obtain⟨u,mu,rfl⟩:=Dp.mp mp;obtain⟨e,me,rfl⟩:=Dp.mp mu;exact ih _ _ (hl e me).2
  | false =>
   obtain⟨l,l3,lk,hl,up,rfl⟩:=h
   have c1:Z7 (.tup (l.map B1.t))=true:=Wv.mpr fun t mt=>by
    obtain⟨e,me,rfl⟩:=Dp.mp mt
    rfl
   have c2:Z8 true ((l.map B1.t).map Z6)=true:=by
    rw[fst_kt];refine fq.mpr ⟨Wv.mpr fun t mt=>?_,(E4 _).mpr up⟩;obtain⟨x,mx,rfl⟩:=Dp.mp mt;obtain⟨e,me,rfl⟩:=Dp.mp mx;exact Zwx _ (hl e me).1
   show Et own ms (if (Z7 (.tup (l.map B1.t)) && (decide (((l.map B1.t).length:Int)<=k) && Z8 true ((l.map B1.t).map Z6)))=true then some ((l.map B1.t).map fun p=>(y,Vc p)) else none)=true;rw[c1,c2,Gq (by rw[Yp];exact lk)];refine Wv.mpr fun p mp=>?_;obtain⟨u,mu,rfl⟩:=Dp.mp mp;obtain⟨e,me,rfl⟩:=Dp.mp mu;exact ih _ _ (hl e me).2
 | rcd fs us =>
  obtain⟨l,os,rfl,hl,ho,rfl⟩:=h
  have co:N0 own (l.map Nb.f) (.tup (os.map om))=true:=by
   cases own with
   | true=>rw[ho.own rfl];rfl
   | false =>
    have c1:Z7 (.tup (os.map om))=true:=Wv.mpr fun t mt=>by
     obtain⟨e,me,rfl⟩:=Dp.mp mt
     rfl
    have c2:Z8 false ((os.map om).map Z6)=true:=by
     rw[fst_pr];refine fq.mpr ⟨Wv.mpr fun t mt=>?_,(E5 _).mpr (Kk (oth_up.sublist ho.sub))⟩;obtain⟨x,mx,rfl⟩:=Dp.mp mt;have b:=Zv5 x (ho.sub.subset mx);show (decide (1<=x) && decide (x<=999))=true;rw[Gq b.1,Gq b.2];rfl
    show (Z7 (.tup (os.map om)) && (Z8 false ((os.map om).map Z6) && (os.map om).all fun p=>(Jm (l.map Nb.f) (iOf (Z6 p))).isNone && B2 100 (Vc p)))=true;rw[c1,c2];refine Wv.mpr fun p mp=>?_;obtain⟨o,mo,rfl⟩:=Dp.mp mp;have z:=ho.ok o mo;show ((Jm (l.map Nb.f) o.1).isNone && B2 100 o.2)=true;rw[rg z.1,z.2.is];rfl
  show Et own ms (if (decide ((l.map Nb.u).length=(l.map Nb.f).length) && N0 own (l.map Nb.f) (.tup (os.map om)))=true then some (List.zipWith (fun f k=>(f.y,k)) (l.map Nb.f) (l.map Nb.u)) else none)=true;rw[co,Gq (by rw[Yp,Yp]),uo];refine Wv.mpr fun p mp=>?_;obtain⟨e,me,rfl⟩:=Dp.mp mp;exact ih _ _ (hl e me)
 | cho fs us op =>
  have pr:Us ms fs:=ok.1;have nd:(fs.map V6.n).Nodup:=List.Nodup.sublist pr.nums (by decide);rcases h with ⟨f,mf,u',hw,rfl⟩ | ⟨rfl,rfl,k,it,nk,k1,k2,gi,rfl⟩
  ·have b:=fld_in pr mf;have cw:Z4 1 999 (.int f.n)=true:=by show (decide (1<=f.n) && decide (f.n<=999))=true;rw[Gq b.1,Gq b.2];rfl
   show Et own ms (if Z4 1 999 (.int f.n)=true then Ox own fs op (.str "arm") f.n u' else none)=true;rw[if_pos cw];unfold Ox;rw[fld_is nd mf];show Et own ms (if Ue (.str "arm") "arm" = true then some [(f.y,u')] else none)=true;rw[if_pos (by decide +kernel)];show (T4 own ms f.y u' && true)=true;rw[ih _ _ hw];rfl
  ·have cw:Z4 1 999 (.int k)=true:=by show (decide (1<=k) && decide (k<=999))=true;rw[Gq k1,Gq k2];rfl
   show Et false ms (if Z4 1 999 (.int k)=true then Ox false fs true (.str "other") k it else none)=true;rw[if_pos cw];unfold Ox;rw[rg nk];show Et false ms (if (Ue (.str "other") "other" && (true && (!false && B2 100 it)))=true then some [] else none)=true;rw[gi.is,if_pos (by decide +kernel)];rfl
theorem Wr.vl{own:Bool}{ms:List (Str×Y3)}(mk:Rx ms):∀{n:Nat} {x:Str} {u:Th},Wr own ms n x u->T4 own ms x u=true
 | 0,x,u,⟨s,es,h⟩=>by rw[Ed es];exact VW.vl (mk.ok x s es) (fun _ _ z=>z.elim) h
 | n+1,x,u,⟨s,es,h⟩=>by rw[Ed es];exact VW.vl (mk.ok x s es) (fun _ _ z=>Wr.vl mk z) h
abbrev G8:Stmt:=top 52
abbrev Tt:List Str:=["_law_feed_here","_law_deep","_law_way","_law_some"]
theorem Np:Zp Tt ["_law_feed_here","_law_deep"] (Zv G8):=by trivial
def IB:Nat->Nat
 | 0=>2
 | k+1=>3 * IB k+3
def IC:Nat->Nat
 | 0=>3
 | k+1=>2 * IC k+10
theorem IB_le:∀k,2<=IB k
 | 0=>Vj _
 | k+1=>by show 2<=3 * IB k+3;omega
theorem Zgf:∀k,3<=IC k
 | 0=>Vj _
 | k+1=>by show 3<=2 * IC k+10;omega
inductive spIt_I(K:W.Frag)(k:Nat)(vs:List V)(H:Hp)(Q:VK):Prop
 | mk(l:Addr)(r:Nat)(Vg:vs=[.ref l,.int (k:Int)])(Vk:Fd (r+IB k) H l)(V1:∀v u H',Zb K H' u v->jx (IC k) (3 * k+1) u->Ve l r H H'->Q v H')
def Zxc(K:W.Frag)(k:Nat):Sp:=fun vs H Q _=>spIt_I K k vs H Q
def Zdz(K:W.Frag):Nat->Sp
 | 0=>fun _ _ _ _=>False
 | k+1=>Zxc K k
def ITI:List Int:=[0,1, -1,7,(10:Int) ^ (18:Int).toNat, -((10:Int) ^ (18:Int).toNat)]
theorem Zyo:∀x∈ITI, -ALL<=x/\x<=ALL:=by decide
def ITS:List Str:=["","a","~ 1"]
theorem Zya:∀x∈ITS,ke x:=fun x m=>by
 have h:∀x∈ITS,(x.cps.toList.all fun c=>decide (gdC c))=true/\x.length<=200:=by decide +kernel
 exact aw (h x m).1 (h x m).2
def ur:List Str:=["a","ab","b"]
theorem itn_ok:∀x∈ur,ke x:=fun x m=>by
 have h:∀x∈ur,(x.cps.toList.all fun c=>decide (gdC c))=true/\x.length<=200:=by decide +kernel
 exact aw (h x m).1 (h x m).2
def ITR:List Int:=[1,10,999]
def ITA:List Int:=[1,4,999]
theorem ita_ok:∀x∈ITA,Z4 1 999 (.int x)=true:=by decide
theorem Pt{i:Int}(h0:-ALL<=i)(h1:i<=ALL):Vx (.tup [.str "whole",.int i])=true:=by
 show (!Ue (.str "whole") "arm" && Yk (.str "whole") (.int i))=true;refine fq.mpr ⟨by decide +kernel, ?_⟩;have e:Yk (.str "whole") (.int i)=(decide (-1000000000000000000<=i) && decide (i<=1000000000000000000)):=by unfold Yk;rw[if_pos (by decide +kernel)];rfl
 rw[e,Gq (show -1000000000000000000<=i from h0),Gq (show i<=1000000000000000000 from h1)];rfl
theorem Zv4{x:Str}(h:x.length<=200):Vx (.tup [.str "text",.str x])=true:=by
 show (!Ue (.str "text") "arm" && Yk (.str "text") (.str x))=true;refine fq.mpr ⟨by decide +kernel, ?_⟩;have e:Yk (.str "text") (.str x)=decide (x.length<=200):=by unfold Yk;rw[if_neg (by decide +kernel),if_pos (by decide +kernel)];rfl
 rw[e,Gq h]
theorem Zf8(ts:List Th):Vx (.tup [.str "row",.tup ts])=true:=by
 show (!Ue (.str "row") "arm" && Yk (.str "row") (.tup ts))=true;refine fq.mpr ⟨by decide +kernel, ?_⟩;unfold Yk;rw[if_neg (by decide +kernel),if_neg (by decide +kernel),if_pos (by decide +kernel)];rfl
theorem Zbz{ts:List Th}(h:ts.all Gc=true)(l:Z8 true (ts.map Z6)=true):Vx (.tup [.str "map",.tup ts])=true:=by
 show (!Ue (.str "map") "arm" && Yk (.str "map") (.tup ts))=true;refine fq.mpr ⟨by decide +kernel, ?_⟩;unfold Yk;rw[if_neg (by decide +kernel),if_neg (by decide +kernel),if_neg (by decide +kernel),if_pos (by decide +kernel)];exact fq.mpr ⟨h,l⟩
theorem Zf9{ts:List Th}(h:ts.all Gc=true)(l:Z8 false (ts.map Z6)=true):Vx (.tup [.str "rec",.tup ts])=true:=by
 show (!Ue (.str "rec") "arm" && Yk (.str "rec") (.tup ts))=true;refine fq.mpr ⟨by decide +kernel, ?_⟩;unfold Yk;rw[if_neg (by decide +kernel),if_neg (by decide +kernel),if_neg (by decide +kernel),if_neg (by decide +kernel),if_pos (by decide +kernel)];exact fq.mpr ⟨h,l⟩
theorem fu:∀(as bs:List Th),(List.zipWith (fun a b=>Th.tup [a,b]) as bs).map Z6=as.take bs.length
 | [],_=>by simp
 | _::_,[]=>by simp
 | a::as,b::bs=>by rw[List.zipWith_cons_cons,R5,fu as bs];rfl
theorem Zba(ts:List Th):Yc (.tup [.str "map",.tup ts])=ts.map Vc:=by
 show (if Ue (.str "map") "row" = true then ts else if (Ue (.str "map") "map" || Ue (.str "map") "rec")=true then ts.map Vc else [])=_;rw[if_neg (by decide +kernel),if_pos (by decide +kernel)]
theorem Zbu(ts:List Th):Yc (.tup [.str "rec",.tup ts])=ts.map Vc:=by
 show (if Ue (.str "rec") "row" = true then ts else if (Ue (.str "rec") "map" || Ue (.str "rec") "rec")=true then ts.map Vc else [])=_;rw[if_neg (by decide +kernel),if_pos (by decide +kernel)]
theorem itn_up:∀n<4,Z8 true ((ur.map Th.str).take n)=true:=by decide +kernel
theorem itr_up:∀n<4,Z8 false ((ITR.map Th.int).take n)=true:=by decide +kernel
theorem Zgz{K:W.Frag}{H:Hp}:∀{ts:List Th} {vs:List V} {i:Nat} {t:Th},Zy K H ts vs->ts[i]?=some t->∃v,vs[i]?=some v/\Zb K H t v:=fun {ts vs i t} h e=>by
 have hi:=(Q8.mp e).1;have l:=h.length;obtain⟨v,ev⟩:∃v,vs[i]?=some v:=⟨_,Nn (by omega)⟩;obtain⟨t',et,it⟩:=h.got ev;rw[e]at et;cases et;exact⟨v,ev,it⟩
theorem Ws{t:Th}:∀{as bs:List Th},t∈List.zipWith (fun a b=>Th.tup [a,b]) as bs->∃a∈as,∃b∈bs,t=.tup [a,b]
 | [],_,h=>absurd h (by simp)
 | _::_,[],h=>absurd h (by simp)
 | a::as,b::bs,h=>by
  rw[List.zipWith_cons_cons]at h;rcases G2.mp h with h | h
  ·exact⟨a,Te,b,Te,h⟩
  ·obtain⟨x,mx,y,my,e⟩:=Ws h;exact⟨x,Rq _ mx,y,Rq _ my,e⟩
theorem zh{k n:Nat}(hk:k<=9)(F:Fu K "_law_item" G8 f fd)(m:Bn mg)(Zt:gD P w K mg base)(Nq:Fn P w K mg base (n+1) "_law_item" ["_law_feed_here","_law_deep"] (Zdz K k)):Yn P w K mg base Je (n+2) f fd ["_law_feed_here","_law_deep"] (Zxc K k):=by
 refine F.ok Np (fun vs H Q E h=>?_) fun _ A _ s H vs Q E hr h=>?_
 ·obtain⟨l,r,rfl,_⟩:=h
  rfl
 obtain⟨l,r,rfl,fe,q⟩:=h;have pw:Zjt 10 18:=⟨by decide,by decide,by decide⟩;obtain⟨c,hc⟩:∃c,IB k=c+2:=⟨IB k - 2,by have:=IB_le k;omega⟩
 refine⟨_,(@Zf _ _ _ _ _ (sI 2 Np.nd (cF Zt hr (Zg (pv 0) (Zg Zq Zx)))) (@Zf _ _ _ _ _ (@J3 _ _ _ _ _ _ _ _ (qp (qO (tQ Ym (pv 2) Zq) (qQ (tQ Ym (pv 1) Zq)))) (@Yx _ _ _ (@Ux _ _ _ _ (@Ya _ _ _ _ _ (@Zj _ _ _ _ _ Zm (@Zj _ _ _ _ _ (@Ut _ _ _ _ _ _ _ Z2 (@Yt _ _ _ _ (@Zj _ _ _ _ _ Zq (@Zj _ _ _ _ _ Zq (@Zj _ _ _ _ _ (@Cm _ _ _ _ _ _ M4 Zq) (@Zj _ _ _ _ _ Zq (@Zj _ _ _ _ _ (@Di _ _ _ _ _ _ _ _ Bz Zq Zq) (@Zj _ _ _ _ _ (@Cm _ _ _ _ _ _ M4 (@Di _ _ _ _ _ _ _ _ Bz Zq Zq)) Zx rfl) rfl) rfl) rfl) rfl) rfl)) (cF Zt hr (Zg (pv 0) (Zg Zq Zx))) (fun _ _=>rfl)) Zx rfl) rfl)))) Zd) (@Zf _ _ _ _ _ (@J3 _ _ _ _ _ _ _ _ (tQ Ym (pv 2) Zq) (@Yx _ _ _ (@Ux _ _ _ _ (@Ya _ _ _ _ _ (@Zj _ _ _ _ _ Zm (@Zj _ _ _ _ _ (@Ut _ _ _ _ _ _ _ Z2 (@Yt _ _ _ _ (@Zj _ _ _ _ _ Zm (@Zj _ _ _ _ _ Zm (@Zj _ _ _ _ _ Zm Zx rfl) rfl) rfl)) (cF Zt hr (Zg (pv 0) (Zg Zq Zx))) (fun _ _=>rfl)) Zx rfl) rfl)))) Zd) (@Zf _ _ _ _ _ (sI 3 Np.nd (pC Tt (Zv G8) ["_law_k","_law_feed_here","_law_deep"] [none,some 0,some 1] (@U9 _ _ _ _ _ _ rfl m.range (Zg (cF Zt hr (Zg (pv 0) (Zg Zq Zx))) Zx) (by trivial)) (fun _ _ _=>(nI 0)) (fun _ _ _=>Z1) (fun _ _ _=>(cF Nq hr (Zg (pv 1) (Zg (qo Lq (pv 2) Zq) Zx)))))) (@Zf _ _ _ _ _ (qi (tQ Ym (pv 2) Zq) (q1 (qr (qt (Zg Zm (Zg (cT Yl m.tuple Yr (Zg (pv 3) Zx)) Zx))))) Zd) (@Zf _ _ _ _ _ (@J3 _ _ _ _ _ _ _ _ (tQ Ym (pv 2) Zq) (@Yx _ _ _ (@Ux _ _ _ _ (@Ya _ _ _ _ _ (@Zj _ _ _ _ _ Zm (@Zj _ _ _ _ _ (@Ui _ _ _ _ _ _ _ _ _ Yl rfl m.tuple Yr (@Zj _ _ _ _ _ (@Ba _ Tt (Zv G8) ["_law_k","_law_some"] [none,some 3] _ _ _ _ _ _ _ _ _ _ rfl (@U9 _ _ _ _ _ _ rfl m.range (Zg (cB Zn m.len Vv (Zg (pv 3) Zx)) Zx) (by trivial)) ⟨rfl,rfl,by decide +kernel,by decide +kernel⟩ (fun _ _ _=>(nI 0)) (fun _ _ _=>Z1) (fun _ _ _=>(@Ya _ _ _ _ _ (@Zj _ _ _ _ _ (@Ut _ _ _ _ _ _ _ Z2 (@Yt _ _ _ _ (@Zj _ _ _ _ _ Zm (@Zj _ _ _ _ _ Zm (@Zj _ _ _ _ _ Zm Zx rfl) rfl) rfl)) (pv 0) (fun _ _=>rfl)) (Zg (iX Z2 (pv 1) (pv 0)) Zx) rfl))) (by trivial)) Zx rfl) (by trivial) (by trivial) (by trivial) (by trivial)) Zx rfl) rfl)))) Zd) (@Zf _ _ _ _ _ (@J3 _ _ _ _ _ _ _ _ (tQ Ym (pv 2) Zq) (@Yx _ _ _ (@Ux _ _ _ _ (@Ya _ _ _ _ _ (@Zj _ _ _ _ _ Zm (@Zj _ _ _ _ _ (@Ui _ _ _ _ _ _ _ _ _ Yl rfl m.tuple Yr (@Zj _ _ _ _ _ (@Ba _ Tt (Zv G8) ["_law_k","_law_some"] [none,some 3] _ _ _ _ _ _ _ _ _ _ rfl (@U9 _ _ _ _ _ _ rfl m.range (Zg (cB Zn m.len Vv (Zg (pv 3) Zx)) Zx) (by trivial)) ⟨rfl,rfl,by decide +kernel,by decide +kernel⟩ (fun _ _ _=>(nI 0)) (fun _ _ _=>Z1) (fun _ _ _=>(@Ya _ _ _ _ _ (@Zj _ _ _ _ _ (@Ut _ _ _ _ _ _ _ Z2 (@Yt _ _ _ _ (@Mt _ _ [1,10,999] rfl)) (pv 0) (fun _ _=>rfl)) (Zg (iX Z2 (pv 1) (pv 0)) Zx) rfl))) (by trivial)) Zx rfl) (by trivial) (by trivial) (by trivial) (by trivial)) Zx rfl) rfl)))) Zd) (@Yx _ _ _ (@Ux _ _ _ _ (@Ya _ _ _ _ _ (@Zj _ _ _ _ _ Zm (@Zj _ _ _ _ _ (@Ut _ _ _ _ _ _ _ Z2 (@Yt _ _ _ _ (@Mt _ _ [1,4,999] rfl)) (cF Zt hr (Zg (pv 0) (Zg Zq Zx))) (fun _ _=>rfl)) (Zg (cF Nq hr (Zg (pv 0) (Zg (qo Lq (pv 1) Zq) Zx))) Zx) rfl) rfl))))))))))), ?_⟩
 refine⟨_,rfl,l,6,r+c+1,rfl,(hc ▸ fe:Fd (r+(c+2)) H l),by decide,by decide,fun x H1 x0 x1 t1=>?_⟩;refine⟨_,rfl,rfl,_,rfl, ?_⟩;refine Vw (fun c0=>Yj rfl ?_) (fun c0=>⟨_,rfl,rfl,_,rfl,Vw (fun c1=>?_) (fun c1=>?_)⟩)
 ·refine⟨_,rfl,_,_,rfl,rfl,pw,_,_,rfl,rfl,pw,_,rfl,(sz 6),fun L hL=>?_⟩;have s2:=Zw.lay (o:=.lst (ITI.map V.int)) hL;have t2:=t1.same s2;refine⟨_,rfl,l,6,r+c,rfl,t2.feed,by decide,by decide,fun y H3 y0 y1 t3=>?_⟩;refine Zc fun _ Y5=>?_;obtain⟨i,mi,ei⟩:=Cb ITI y0 y1;refine Y5 ?_;refine⟨L,_,_,_,rfl,rfl,Z0.of (t3.keep _ _ (t1.feed.ne hL) Zz),ei,(sz 2),fun e he=>?_⟩;have b:=Zyo i mi;exact q _ (.tup [.str "whole",.int i]) _ ⟨e,_,rfl,Yv.of Zz,_,_,rfl,rfl,_,_,rfl,rfl,rfl⟩ (Ku (by omega) ((bd2 (Tf (d:=0) (by decide +kernel) (by decide +kernel)) (N3 i)).mono (Zgf k) (by omega)) (Pt b.1 b.2) fun u mu=>absurd mu U6) (((t2.trans t3).lay he).m)
 ·refine⟨_,rfl,_,_,rfl,rfl,pw,_,_,rfl,rfl,pw,_,rfl,(sz 6),fun L hL=>?_⟩;have s2:=Zw.lay (o:=.lst (ITI.map V.int)) hL;have t2:=t1.same s2;refine⟨_,rfl,l,6,r+c,rfl,t2.feed,by decide,by decide,fun y H3 y0 y1 t3=>?_⟩;refine Zc fun _ Vm=>?_;obtain⟨i,mi,ei⟩:=Cb ITI y0 y1;refine Vm ?_;refine⟨L,_,_,_,rfl,rfl,Z0.of (t3.keep _ _ (t1.feed.ne hL) Zz),ei,(sz 2),fun e he=>?_⟩;have b:=Zyo i mi;exact q _ (.tup [.str "whole",.int i]) _ ⟨e,_,rfl,Yv.of Zz,_,_,rfl,rfl,_,_,rfl,rfl,rfl⟩ (Ku (by omega) ((bd2 (Tf (d:=0) (by decide +kernel) (by decide +kernel)) (N3 i)).mono (Zgf k) (by omega)) (Pt b.1 b.2) fun u mu=>absurd mu U6) (((t2.trans t3).lay he).m)
 refine⟨_,rfl,rfl,_,rfl, ?_⟩;refine Vw (fun c2=>?_) (fun c2=>?_)
 ·refine⟨(sz 3),fun L hL=>?_⟩;have s2:=Zw.lay (o:=.lst (ITS.map V.str)) hL;have t2:=t1.same s2;refine⟨_,rfl,l,3,r+c,rfl,t2.feed,by decide,by decide,fun y H3 y0 y1 t3=>?_⟩;refine Zc fun _ Vh=>?_;obtain⟨i,mi,ei⟩:=Ih ITS y0 y1;refine Vh ?_;refine⟨L,_,_,_,rfl,rfl,Z0.of (t3.keep _ _ (t1.feed.ne hL) Zz),ei,(sz 2),fun e he=>?_⟩;exact q _ (.tup [.str "text",.str i]) _ ⟨e,_,rfl,Yv.of Zz,_,_,rfl,rfl,_,_,rfl,rfl,rfl⟩ (Ku (by omega) ((bd2 (Tf (d:=0) (by decide +kernel) (by decide +kernel)) (kj (Zya i mi))).mono (Zgf k) (by omega)) (Zv4 (Zya i mi).2) fun u mu=>absurd mu U6) (((t2.trans t3).lay he).m)
 cases k with
 | zero=>exact absurd (Gq rfl) c1
 | succ k' =>
  have hc:3 * IB k'+3=c+2:=hc;refine⟨_,rfl,l,3,r+c,rfl,t1.feed,by decide,by decide,fun many H2 m0 m3 t2=>⟨many,rfl,by omega,by omega,fun D fp sx hD=>?_⟩⟩;have t12:=t1.trans t2;have nD:=t12.feed.ne hD;have hD0:=t12.free hD
  refine Dw (n:=many.toNat) (fun i ys σ H5=>∃us:List Th,(∃o,σ=[o,some (.ref l),some (.int ((k'+1:Nat):Int))])/\(∀u∈us,jx (IC k') (3 * k'+1) u)/\us.length=i/\Zy K H5 us ys/\Ve l (r+1+IB k'+(2 - i) * IB k') H H5/\H5 D=some (.lst ys))
   ⟨[],⟨_,rfl⟩,fun u mu=>absurd mu U6,rfl,rfl,(t12.put hD0 (fe.far hD0)).m,Zz⟩ ?_ ?_ ?_
  ·intro i ys σ H5 hi xt;refine Zc fun _ Vs=>?_;obtain⟨us,_,_,_,_,_,h5⟩:=xt;refine Vs ?_;exact h5
  ·intro i ys σ H5 hi xm;refine Zc fun _ Vu=>?_;obtain⟨us,⟨o,rfl⟩,gu,lu,ae,t5,h5⟩:=xm;refine Vu ?_;have eb:(2 - i) * IB k'=(2 - (i+1)) * IB k'+IB k':=Ap (by omega);refine V2 ?_;refine⟨_,rfl,_,rfl,_,_,rfl,rfl,l,r+1+IB k'+(2 - (i+1)) * IB k', ?_,t5.feed.m,fun v u H6 iv gv t6=>?_⟩
   ·show [V.ref l,V.int (((k'+1:Nat):Int) - 1)]=_;rw[show ((k'+1:Nat):Int) - 1=(k':Int) by omega]
   have h6:=t6.keep _ _ nD h5;have uS:Mz K H6 (Yq H6 D (.lst (ys++[v]))):=Y8 h6;refine⟨h6, ?_,us++[u],⟨_,rfl⟩, ?_, ?_,Zy.append (Zy.up ((t6.upT t5.feed).trans uS) _ _ ae) (Zy.one (Zb.up uS _ _ iv)),(t5.trans t6).put hD0 (fe.far hD0),Zz⟩
   ·rw[<-ae.length];exact Yi (by omega)
   ·intro z mz;rcases T6.mp mz with mz | mz
    ·exact gu z mz
    ·rw[N6.mp mz];exact gv
   ·rw[Xs,List.length_singleton];omega
  ·intro ys σ H5 xf;refine Zc fun _ Ug=>?_;obtain⟨us,⟨o,rfl⟩,gu,lu,ae,t5,h5⟩:=xf;refine Ug ?_;have ly:=ae.length;have l2:us.length<=2:=by omega
   have t5:=t5.mono (r':=r+1+IB k') (by omega);refine⟨_,rfl,rfl,_,rfl, ?_⟩;refine Vw (fun c3=>?_) (fun c3=>?_)
   ·refine⟨_,rfl,D,ys,rfl,.inl ⟨Z0.of h5,fun p1 fb=>⟨(sz 2),fun p hp=>?_⟩⟩⟩;have s8:=Zw.lay (o:=.tup ys) fb;have s9:=Zw.lay (o:=.tup [.str "row",.ref p1]) hp;refine q _ (.tup [.str "row",.tup us]) _ ⟨p,_,rfl,Yv.of Zz,_,_,rfl,rfl,_,_,rfl,⟨p1,ys,rfl,s9.up _ _ (Yv.of Zz),Zy.up (s8.trans s9).upT _ _ ae⟩,rfl⟩ ?_ ((t5.same (s8.trans s9)).m);have gt:=C8 (fun t m=>(gu t m).bd) (show us.length<=6 by omega);have:=Nat.mul_le_mul_right (IC k') l2;exact Ku (by omega) ((bd2 (Tf (by decide +kernel) (by decide +kernel)) gt).mono (by show _<=2 * IC k'+10;omega) (by omega)) (Zf8 us) fun u mu=>(gu u mu).is
   ·refine⟨_,rfl,rfl,_,rfl, ?_⟩;refine Vw (fun c4=>?_) (fun c4=>?_)
    ·refine⟨_,rfl,D,_,rfl,.inl (Z0.of h5),(ys.length:Int),rfl,by omega,by omega,fun D2 fp2 sx2 Ek=>?_⟩;have nD2:D2≠D:=fun z=>by rw[z,h5]at Ek;cases Ek
     refine Dw (n:=((ys.length:Nat):Int).toNat) (fun i zs σ H7=>(∃o',σ=[o',some (.ref D)])/\Zy K H7 ((List.zipWith (fun a b=>Th.tup [a,b]) (ur.map Th.str) us).take i) zs/\Zw H5 H7/\H7 D2=some (.lst zs)) ⟨⟨_,rfl⟩,rfl,(Zw.refl H5).put Ek,Zz⟩ ?_ ?_ ?_
     ·intro i zs σ H7 hi xg;refine Zc fun _ Uk=>?_;obtain⟨_,_,_,h7⟩:=xg;refine Uk ?_;exact h7
     ·intro i zs σ H7 hi K0;refine Zc fun _ U1=>?_;obtain⟨⟨o',rfl⟩,az,s7,h7⟩:=K0;refine U1 ?_;have hi2:i<us.length:=by omega
      have hi3:i<ur.length:=by show i<3;omega
      refine V2 ?_;refine⟨(sz 3),fun L hL=>?_⟩;have sL:=Zw.lay (o:=.lst (ur.map V.str)) hL;refine Zc fun _ Y5=>?_;obtain⟨nm,mn,en⟩:∃nm,ur[i]?=some nm/\Pz (ur.map V.str) (0+(i:Int))=some (V.str nm):=⟨ur[i],Nn hi3,by rw[Int.zero_add];exact V4 (by rw[Ma,Nn hi3];rfl)⟩;obtain⟨u,eu⟩:∃u,us[i]?=some u:=⟨_,Nn hi2⟩;obtain⟨vv,ev,iv⟩:=Zgz ae eu;refine Y5 ?_;have evI:Pz ys (0+(i:Int))=some vv:=by rw[Int.zero_add];exact V4 ev
      refine⟨_,rfl,L,_,_,_,rfl,rfl,Z0.of Zz,en,_,rfl,_,rfl,D,_,_,_,rfl,rfl,Z0.of (sL _ _ (s7 _ _ h5)),evI,(sz 2),fun e2 h2=>?_⟩;have sE:=Zw.lay (o:=.tup [V.str nm,vv]) h2;have h8:=(sL.trans sE) _ _ h7;have uS:Mz K _ (Yq _ D2 (.lst (zs++[.ref e2]))):=Y8 h8
      have ez:(List.zipWith (fun a b=>Th.tup [a,b]) (ur.map Th.str) us)[i]?=some (.tup [Th.str nm,u]):=by
       rw[List.getElem?_zipWith,Ma,mn,eu];rfl
      refine⟨h8, ?_,⟨_,rfl⟩, ?_,(s7.trans (sL.trans sE)).put Ek,Zz⟩
      ·rw[<-az.length,T1];exact Yi (by rw[ud];omega)
      ·rw[Zs ez];exact Zy.append (Zy.up ((sL.trans sE).upT.trans uS) _ _ az) (Zy.one (Zb.up uS _ _ ⟨e2,_,rfl,Yv.of Zz,_,_,rfl,rfl,_,_,rfl,Zb.up (s7.trans (sL.trans sE)).upT _ _ iv,rfl⟩))
     ·intro zs σ H7 K5;refine Zc fun _ Vm=>?_;obtain⟨_,az,s7,h7⟩:=K5;refine Vm ?_
      have lz:(List.zipWith (fun a b=>Th.tup [a,b]) (ur.map Th.str) us).length<=((ys.length:Nat):Int).toNat:=by
       rw[ud];omega
      rw[Xt lz]at az;refine⟨D2,zs,rfl,.inl ⟨Z0.of h7,fun p1 fb=>⟨(sz 2),fun p hp=>?_⟩⟩⟩;have s8:=Zw.lay (o:=.tup zs) fb;have s9:=Zw.lay (o:=.tup [.str "map",.ref p1]) hp;refine q _ (.tup [.str "map",.tup (List.zipWith (fun a b=>Th.tup [a,b]) (ur.map Th.str) us)]) _ ⟨p,_,rfl,Yv.of Zz,_,_,rfl,rfl,_,_,rfl,⟨p1,zs,rfl,s9.up _ _ (Yv.of Zz),Zy.up (s8.trans s9).upT _ _ az⟩,rfl⟩ ?_ (((t5.same s7).same (s8.trans s9)).m)
      have gt:Bd ((List.zipWith (fun a b=>Th.tup [a,b]) (ur.map Th.str) us).length * (1+IC k'+1)+1) (3 * k'+1+1+1) (.tup (List.zipWith (fun a b=>Th.tup [a,b]) (ur.map Th.str) us)):=C8 (fun t mt=>by
       refine Zc fun _ Vh=>?_;obtain⟨a,ma,b,mb,rfl⟩:=Ws mt;obtain⟨nm,mn,rfl⟩:=Dp.mp ma;refine Vh ?_;exact bd2 ((kj (itn_ok nm mn)).mono (Vj _) (Wl _)) (gu _ mb).bd) (by rw[ud];omega)
      have l2':(List.zipWith (fun a b=>Th.tup [a,b]) (ur.map Th.str) us).length<=2:=by rw[ud];omega
      have:=Nat.mul_le_mul_right (1+IC k'+1) l2';refine Ku (by omega) ((bd2 (Tf (by decide +kernel) (by decide +kernel)) gt).mono (by show _<=2 * IC k'+10;omega) (by omega)) (Zbz (Wv.mpr fun t mt=>?_) (by rw[fu];exact itn_up _ (by omega))) fun u mu=>?_
      ·refine Zc fun _ Vs=>?_;obtain⟨a,ma,b,mb,rfl⟩:=Ws mt;refine Vs ?_
       rfl
      ·refine Zc fun _ Vu=>?_;obtain⟨t,mt,rfl⟩:=Dp.mp (Zba _ ▸ mu);obtain⟨a,ma,b,mb,rfl⟩:=Ws mt;refine Vu ?_;exact(gu b mb).is
    ·refine⟨_,rfl,rfl,_,rfl, ?_⟩;refine Vw (fun c5=>?_) (fun c5=>?_)
     ·refine⟨_,rfl,D,_,rfl,.inl (Z0.of h5),(ys.length:Int),rfl,by omega,by omega,fun D2 fp2 sx2 Ek=>?_⟩;have nD2:D2≠D:=fun z=>by rw[z,h5]at Ek;cases Ek
      refine Dw (n:=((ys.length:Nat):Int).toNat) (fun i zs σ H7=>(∃o',σ=[o',some (.ref D)])/\Zy K H7 ((List.zipWith (fun a b=>Th.tup [a,b]) (ITR.map Th.int) us).take i) zs/\Zw H5 H7/\H7 D2=some (.lst zs)) ⟨⟨_,rfl⟩,rfl,(Zw.refl H5).put Ek,Zz⟩ ?_ ?_ ?_
      ·intro i zs σ H7 hi yc;refine Zc fun _ Ug=>?_;obtain⟨_,_,_,h7⟩:=yc;refine Ug ?_;exact h7
      ·intro i zs σ H7 hi K3;refine Zc fun _ Uk=>?_;obtain⟨⟨o',rfl⟩,az,s7,h7⟩:=K3;refine Uk ?_;have hi2:i<us.length:=by omega
       have hi3:i<ITR.length:=by show i<3;omega
       refine V2 ?_;refine⟨(sz 3),fun L hL=>?_⟩;have sL:=Zw.lay (o:=.lst (ITR.map V.int)) hL;refine Zc fun _ U1=>?_;obtain⟨nm,mn,en⟩:∃nm,ITR[i]?=some nm/\Pz (ITR.map V.int) (0+(i:Int))=some (V.int nm):=⟨ITR[i],Nn hi3,by rw[Int.zero_add];exact V4 (by rw[Ma,Nn hi3];rfl)⟩;obtain⟨u,eu⟩:∃u,us[i]?=some u:=⟨_,Nn hi2⟩;obtain⟨vv,ev,iv⟩:=Zgz ae eu;refine U1 ?_;have evI:Pz ys (0+(i:Int))=some vv:=by rw[Int.zero_add];exact V4 ev
       refine⟨_,rfl,L,_,_,_,rfl,rfl,Z0.of Zz,en,_,rfl,_,rfl,D,_,_,_,rfl,rfl,Z0.of (sL _ _ (s7 _ _ h5)),evI,(sz 2),fun e2 h2=>?_⟩;have sE:=Zw.lay (o:=.tup [V.int nm,vv]) h2;have h8:=(sL.trans sE) _ _ h7;have uS:Mz K _ (Yq _ D2 (.lst (zs++[.ref e2]))):=Y8 h8
       have ez:(List.zipWith (fun a b=>Th.tup [a,b]) (ITR.map Th.int) us)[i]?=some (.tup [Th.int nm,u]):=by
        rw[List.getElem?_zipWith,Ma,mn,eu];rfl
       refine⟨h8, ?_,⟨_,rfl⟩, ?_,(s7.trans (sL.trans sE)).put Ek,Zz⟩
       ·rw[<-az.length,T1];exact Yi (by rw[ud];omega)
       ·rw[Zs ez];exact Zy.append (Zy.up ((sL.trans sE).upT.trans uS) _ _ az) (Zy.one (Zb.up uS _ _ ⟨e2,_,rfl,Yv.of Zz,_,_,rfl,rfl,_,_,rfl,Zb.up (s7.trans (sL.trans sE)).upT _ _ iv,rfl⟩))
      ·intro zs σ H7 yd;refine Zc fun _ Y5=>?_;obtain⟨_,az,s7,h7⟩:=yd;refine Y5 ?_
       have lz:(List.zipWith (fun a b=>Th.tup [a,b]) (ITR.map Th.int) us).length<=((ys.length:Nat):Int).toNat:=by
        rw[ud];omega
       rw[Xt lz]at az;refine⟨D2,zs,rfl,.inl ⟨Z0.of h7,fun p1 fb=>⟨(sz 2),fun p hp=>?_⟩⟩⟩;have s8:=Zw.lay (o:=.tup zs) fb;have s9:=Zw.lay (o:=.tup [.str "rec",.ref p1]) hp;refine q _ (.tup [.str "rec",.tup (List.zipWith (fun a b=>Th.tup [a,b]) (ITR.map Th.int) us)]) _ ⟨p,_,rfl,Yv.of Zz,_,_,rfl,rfl,_,_,rfl,⟨p1,zs,rfl,s9.up _ _ (Yv.of Zz),Zy.up (s8.trans s9).upT _ _ az⟩,rfl⟩ ?_ (((t5.same s7).same (s8.trans s9)).m)
       have gt:Bd ((List.zipWith (fun a b=>Th.tup [a,b]) (ITR.map Th.int) us).length * (1+IC k'+1)+1) (3 * k'+1+1+1) (.tup (List.zipWith (fun a b=>Th.tup [a,b]) (ITR.map Th.int) us)):=C8 (fun t mt=>by
        refine Zc fun _ Vm=>?_;obtain⟨a,ma,b,mb,rfl⟩:=Ws mt;obtain⟨nm,mn,rfl⟩:=Dp.mp ma;refine Vm ?_;exact bd2 (N3 nm) (gu _ mb).bd) (by rw[ud];omega)
       have l2':(List.zipWith (fun a b=>Th.tup [a,b]) (ITR.map Th.int) us).length<=2:=by rw[ud];omega
       have:=Nat.mul_le_mul_right (1+IC k'+1) l2';refine Ku (by omega) ((bd2 (Tf (by decide +kernel) (by decide +kernel)) gt).mono (by show _<=2 * IC k'+10;omega) (by omega)) (Zf9 (Wv.mpr fun t mt=>?_) (by rw[fu];exact itr_up _ (by omega))) fun u mu=>?_
       ·refine Zc fun _ Vh=>?_;obtain⟨a,ma,b,mb,rfl⟩:=Ws mt;refine Vh ?_
        rfl
       ·refine Zc fun _ Vs=>?_;obtain⟨t,mt,rfl⟩:=Dp.mp (Zbu _ ▸ mu);obtain⟨a,ma,b,mb,rfl⟩:=Ws mt;refine Vs ?_;exact(gu b mb).is
     ·refine⟨(sz 3),fun L hL=>?_⟩;have sL:=Zw.lay (o:=.lst (ITA.map V.int)) hL;have t6:=t5.same sL;refine⟨_,rfl,l,3,r+IB k',rfl,t6.feed.m,by decide,by decide,fun y H7 y0 y1 t7=>?_⟩;refine Zc fun _ Vu=>?_;obtain⟨n',mi,ei⟩:=Cb ITA y0 y1;refine Vu ?_;refine⟨L,_,_,_,rfl,rfl,Z0.of (t7.keep _ _ (t5.feed.ne hL) Zz),ei, ?_⟩;refine⟨_,rfl,_,rfl,_,_,rfl,rfl,l,r, ?_,t7.feed,fun v u H8 iv gv t8=>⟨(sz 3),fun p hp=>?_⟩⟩
      ·show [V.ref l,V.int (((k'+1:Nat):Int) - 1)]=_;rw[show ((k'+1:Nat):Int) - 1=(k':Int) by omega]
      have s9:=Zw.lay (o:=.tup [.str "arm",.int n',v]) hp;refine q _ (.tup [.str "arm",.int n',u]) _ ⟨p,_,rfl,Yv.of Zz,_,_,rfl,rfl,_,_,rfl,rfl,_,_,rfl,Zb.up s9.upT _ _ iv,rfl⟩ ?_ (((t6.trans t7).trans t8).same s9);refine Ku (by omega) ((bd3 (Tf (by decide +kernel) (by decide +kernel)) (N3 n') gv.bd).mono (by show _<=2 * IC k'+10;omega) (by omega)) ?_ fun w mw=>?_
      ·show (Ue (.str "arm") "arm" && Z4 1 999 (.int n'))=true;exact fq.mpr ⟨by decide +kernel,ita_ok n' mi⟩
      ·rw[N6.mp (show w∈[u] from mw)];exact gv.is
abbrev B9:Stmt:=top 51
abbrev jz:List Str:=["_law_feed_here","_law_make_here","_law_shape","_law_deep","_law_known","_law_number","_law_name","_law_inner","_law_default","_law_some"]
theorem Vf:Zp jz ["_law_feed_here","_law_make_here","_law_shape","_law_deep"] (Zv B9):=by trivial
def VB:Nat->Nat
 | 0=>10
 | n+1=>10+6 * VB n
def q0(K:PySem.W.Frag)(H:Hp)(W:Th->Prop)(L:Addr):Prop:=H L=some (.lst [])\/∃v u,H L=some (.lst [v])/\Zb K H u v/\W u
section
variable{K:PySem.W.Frag}{H H':Hp}{W:Th->Prop}{L l:Addr}{r r':Nat}
theorem q0.same(h:q0 K H W L)(s:Zw H H'):q0 K H' W L:=h.imp (fun z=>s _ _ z) fun⟨v,u,e,i,q⟩=>⟨v,u,s _ _ e,Zb.up s.upT _ _ i,q⟩
theorem q0.ne(h:q0 K H W L)(f:Fd r H l):L≠l:=fun z=>by
 obtain⟨a,ns,b,c,d,e,_⟩:=f;rcases h with h | ⟨v,u,h,_⟩<;>(rw[z,e]at h;cases h)
theorem q0.step(h:q0 K H W L)(f:Fd r' H l)(t:Ve l r H H'):q0 K H' W L:=by
 have n:=h.ne f;exact h.imp (fun z=>t.keep _ _ n z) fun⟨v,u,e,i,q⟩=>⟨v,u,t.keep _ _ n e,Zb.up (t.upT f) _ _ i,q⟩
theorem q0.put(h:q0 K H W L){D:Addr}{ys zs:List V}(hD:H D=some (.lst ys))(n:L≠D):q0 K (Yq H D (.lst zs)) W L:=h.imp (fun z=>by rw[Zl n];exact z) fun⟨v,u,e,i,q⟩=>⟨v,u,by rw[Zl n];exact e,Zb.up (Y8 hD) _ _ i,q⟩
end
def rD:Option Th->D
 | none=>.lst []
 | some u=>.lst [thD u]
theorem resD{K:W.Frag}{H:Hp}{own:Bool}{ms:List (Str×Y3)}{n:Nat}{x:Str}{L:Addr}(mo:Rx ms)(hn:n<=3)(h:q0 K H (Wr own ms n x) L):∃o:Option Th,Gp K H (rD o) (.ref L)/\N2 (rD o)<=100/\((o=none/\H L=some (.lst []))\/∃v u,o=some u/\H L=some (.lst [v])/\Zb K H u v/\Wr own ms n x u):=by
 rcases h with h | ⟨v,u,h,i,q⟩
 ·exact⟨none,⟨L,[],rfl,Z0.of h,rfl⟩,by decide,.inl ⟨rfl,h⟩⟩
 ·have g:=Wr.bd mo q;refine⟨some u,⟨L,[v],rfl,Z0.of h,v,[],rfl,Ki _ _ g.nq i,rfl⟩, ?_,.inr ⟨v,u,rfl,h,i,q⟩⟩;show max (N2 (thD u)) 0+1<=100;rw[qz];have:=g.dp;omega
theorem og{own:Bool}{ms:List (Str×Y3)}{n:Nat}{y:Str}{s:Y3}{d:Th}(ok:pj ms s)(es:Jf ms y=some s)(p:Pv s d):Wr own ms n y d:=by
 cases s with
 | whole lo hi=>exact Wr.of es p
 | truth =>
  cases d with
  | bl b=>exact Wr.of es ⟨b,rfl⟩
  | _=>exact p.elim
 | text k=>exact Wr.of es p
 | row b y k =>
  have hd:d=.tup []:=by
   cases d with
   | tup ts =>
    cases ts with
    | nil=>rfl
    | cons _ _=>exact p.elim
   | _=>exact p.elim
  subst hd;cases b with
  | true=>exact Wr.of es ⟨[],Wl _,ok.2.1,fun e m=>absurd m U6,rfl⟩
  | false=>exact Wr.of es ⟨[],Wl _,ok.2.1,fun e m=>absurd m U6,trivial,rfl⟩
 | rcd _ _=>cases d<;>exact p.elim
 | cho _ _ _=>cases d<;>exact p.elim
theorem Zv6{ms:List (Str×Y3)}{fs:List V6}(pr:Us ms fs){f:V6}(mf:f∈fs):Bd 2 2 (.tup f.d.toList):=by
 have g:Bd (f.d.toList.length * 1+1) (1+1) (.tup f.d.toList):=C8 (fun t m=>by
  cases ed:f.d with
  | none=>rw[ed]at m;exact absurd m U6
  | some d =>
   rw[ed]at m;rw[N6.mp m];exact(pr.d f mf d ed).elim fun s z=>Zvh z.2) (by cases f.d with
  | none=>exact Wl _
  | some _=>show 1<=6;decide)
 exact g.mono (by cases f.d with
  | none=>show 0 * 1+1<=2;decide
  | some _=>show 1 * 1+1<=2;decide) (Vj _)
theorem Zvk{X Y:TS}{D:Fx}{rt:VK}{bk ct:L2.St->Hp->Prop}{i:Nat}{v:V}{σ:L2.St}{H:Hp}(N:L2.St->Hp->Prop)(hY:∀σ' H',N σ' H'->Y D σ' H')(hX:∀M:L2.St->Hp->Prop,(∀σ' H',N σ' H'->M σ' H')->X { D with nx:=M } (σ.set i (some v)) H):Jv i v σ H (Fx.nx ⟨bh X Y D,rt,bk,ct⟩):=hX (Y D) hY
inductive Zg8(K:W.Frag)(n:Nat)(vs:List V)(H:Hp)(Q:VK):Prop
 | mk(l e S:Addr)(ms:List (Str×Y3))(x:Str)(r:Nat)(Vg:vs=[.ref l,.ref e,.str x,.int (n:Int)])(Vk:T5 K H e S ms)(V1:Rx ms)(Jk:(Jf ms x).isSome=true)(Mn:Fd (r+VB n) H l)(Wb:∀L H',q0 K H' (Wr true ms n x) L->H L=none->Ve l r H H'->Q (.ref L) H')
def Ot(K:W.Frag)(n:Nat):Sp:=fun vs H Q _=>Zg8 K n vs H Q
def Zwp(K:W.Frag):Nat->Sp
 | 0=>fun _ _ _ _=>False
 | n+1=>Ot K n
inductive Zfz(K:W.Frag)(n:Nat)(vs:List V)(H:Hp)(Q:VK):Prop
 | mk(l e S:Addr)(ms:List (Str×Y3))(sv:V)(fs:List V6)(us:List Int)(r:Nat)(Vg:vs=[.ref l,.ref e,sv,.int ((n+1:Nat):Int)])(Vk:T5 K H e S ms)(V1:Rx ms)(Jk:Zb K H (Y3.rcd fs us).t sv)(Mn:Us ms fs)(Wb:Fd (r+(5+5 * VB n)) H l)(fm:∀L H',q0 K H' (VW (Wr true ms n) true (.rcd fs us)) L->H L=none->Ve l r H H'->Q (.ref L) H')
def jl(K:W.Frag)(n:Nat):Sp:=fun vs H Q _=>Zfz K n vs H Q
def Zwi(K:W.Frag):Nat->Sp
 | 0=>fun _ _ _ _=>False
 | n+1=>jl K n
structure Rk(K:W.Frag)(l C:Addr)(H:Hp)(ys:List V)(es:List Nb)(r:Nat)(Ha:Hp):Prop where
 st:Ve l r H Ha
 c:Ha C=some (.lst ys)
 a:Zy K Ha (es.map Nb.u) ys
section
variable{K:W.Frag}{l C:Addr}{H Ha Hb:Hp}{ys:List V}{es:List Nb}{r r':Nat}
theorem Rk.same(k:Rk K l C H ys es r Ha)(s:Zw Ha Hb):Rk K l C H ys es r Hb:=⟨k.st.same s,s _ _ k.c,Zy.up s.upT _ _ k.a⟩
theorem Rk.step(k:Rk K l C H ys es r Ha)(t:Ve l r' Ha Hb)(n:C≠l):Rk K l C H ys es r' Hb:=⟨k.st.trans t,t.keep _ _ n k.c,Zy.up (t.upT k.st.feed) _ _ k.a⟩
theorem Rk.mono(k:Rk K l C H ys es r Ha)(h:r'<=r):Rk K l C H ys es r' Ha:=⟨k.st.mono h,k.c,k.a⟩
theorem Rk.m(k:Rk K l C H ys es r Ha)(h:r'<=r:=by omega):Rk K l C H ys es r' Ha:=k.mono h
end
theorem Pn{k n:Nat}(hn:n<=3)(F:Fu K "_law_record" B9 f fd)(m:Bn mg)(Zt:gD P w K mg base)(J4:Fn P w K mg base k "_law_value" ["_law_feed_here","_law_make_here","_law_name","_law_deep"] (Ot K n))(k1:1<=k):Yn P w K mg base Je (k+1) f fd ["_law_feed_here","_law_make_here","_law_shape","_law_deep"] (jl K n):=by
 refine F.ok Vf (fun vs H Q E h=>?_) fun _ A _ s H vs Q E hr h=>?_
 ·obtain⟨l,e,S,ms,sv,fs,us,r,rfl,_⟩:=h
  rfl
 obtain⟨l,e,S,ms,sv,fs,us,r,rfl,mk,mo,is,pr,fe,q⟩:=h;obtain⟨a,ws,rfl,ha,at'⟩:=is;obtain⟨w1,w2,w3,rfl,i1,i2,i3⟩:=Mu at';obtain⟨fa,fws,rfl,O1,afs⟩:=i2;refine⟨_,(@Zf _ _ _ _ _ (sI 4 Vf.nd (ql Zx)) (@Zf _ _ _ _ _ (Dz PassesOwn.never rfl (qI (iX Zk (pv 2) Zq)) (N9 rfl (Ys (nJ 5 Vf.nd) (Ys (nJ 6 Vf.nd) (Ys (nJ 7 Vf.nd) (Ys (nJ 8 Vf.nd) Dn))))) (qs (sI 9 Vf.nd (cT Ms m.list qg (Zg (pv 8) Zx))) (qs (qi (qp (qO (tQ Lj (pv 8) (qt Zx)) (qQ (tQ Ym (cF Zt hr (Zg (pv 0) (Zg Zq Zx))) Zq)))) (q1 (sI 9 Vf.nd (cF J4 hr (Zg (pv 0) (Zg (pv 1) (Zg (pv 7) (Zg (qo Lq (pv 3) Zq) Zx))))))) Zd) (qs (qi (qp (@pw_and _ _ _ _ _ _ _ (tQ Lj (pv 9) (ql Zx)) (@pw_and1 _ _ _ _ (tQ Lj (pv 8) (qt Zx))))) (q1 (qr (ql Zx))) Zd) (q1 (@Ez _ _ _ _ (@oi _ _ _ _ _ _ _ _ _ _ _ _ PySem.F.plainAttrs_list PySem.F.slot_list_append PySem.F.type_list_append Pu (pv 4) (Zg (@Cd _ _ _ _ _ _ _ _ (tQ tz (pv 9) (ql Zx)) (iX Z2 (pv 9) Zq) (iX Zk (pv 8) Zq)) Zx) (by trivial) (by trivial) (by trivial) (by trivial) (by trivial)) rfl)))))) (@Yx _ _ _ (@Ux _ _ _ _ (@Yt _ _ _ _ (@Zj _ _ _ _ _ (@Ya _ _ _ _ _ (@Zj _ _ _ _ _ (@Ui _ _ _ _ _ _ _ _ _ Yl rfl m.tuple Yr (@Zj _ _ _ _ _ (pv 4) Zx rfl) (by trivial) (by trivial) (by trivial) (by trivial)) (@Zj _ _ _ _ _ (@Ya _ _ _ _ _ Zx) Zx rfl) rfl)) Zx rfl)))))), ?_⟩;have uN:A.units+3+16 * k+200<cLine:=hr.un;have lfw:fws.length=fs.length:=by rw[<-afs.length,Yp]
 refine⟨(sz 0),fun C hC=>?_⟩;have sC:=Zw.lay (o:=.lst []) hC;have nCl:C≠l:=fe.ne hC;refine⟨_,rfl,a,_,_,_,rfl,rfl,sC.up _ _ ha,Jy,fa,rfl,⟨_,sC.up _ _ O1⟩, ?_⟩
 refine Zzl (K:=K) (xs:=fws) (fun i σ H5=>(∃o5 o6 o7 o8 o9,σ=[some (.ref l),some (.ref e),some (.ref a),some (.int ((n+1:Nat):Int)),some (.ref C),o5,o6,o7,o8,o9])/\∃ys es,Rk K l C H ys es (r+(5 - i) * (1+VB n)) H5/\es.map Nb.f=fs.take i/\∀t∈es,Wr true ms n t.f.y t.u)
  ⟨⟨_,_,_,_,_,rfl⟩,[],[],⟨((Ve.refl fe).same sC).m,Zz,rfl⟩,rfl,fun t m=>absurd m U6⟩ ?_ ?_ ?_
 ·intro i σ H5 hi la;refine Zc fun _ Y5=>?_;obtain⟨_,ys,es,k5,_⟩:=la;refine Y5 ?_;exact(k5.st.upT (K:=K) fe).tup _ _ O1
 ·intro i x σ H5 hx K2;refine Zc fun _ Vm=>?_;obtain⟨⟨o5,o6,o7,o8,o9,rfl⟩,ys,es,k5,ef,he⟩:=K2;refine Vm ?_;have hi:i<fs.length:=by rw[<-lfw];exact(Q8.mp hx).1
  have l5:=pr.len;have eb:(5 - i) * (1+VB n)=(5 - (i+1)) * (1+VB n)+1+VB n:=(Ap (by omega)).trans (Nat.add_assoc ..).symm;generalize hR:(5 - (i+1)) * (1+VB n)=R at *;refine Zc fun _ Vh=>?_;obtain⟨t,et,it⟩:=afs.got hx;rw[Ma]at et;obtain⟨fl,ee,rfl⟩:=Qe.mp et;have mf:=Ow ee;have u5:=k5.st.upT (K:=K) fe;obtain⟨b,bs,rfl,hb,ab⟩:=Zb.up u5 _ _ it;obtain⟨b1,b2,b3,b4,rfl,j1,j2,j3,j4⟩:=A5 ab;cases Zr j1;cases Zr j2;cases Zr j3;obtain⟨da,dx,rfl,hda,adx⟩:=j4;refine Vh ?_;have gd1:=Zv6 pr mf;have dD:∀{H':Hp},Mz K H5 H'->Gp K H' (thD (.tup fl.d.toList)) (.ref da):=fun u=>Ki _ _ gd1.nq (Zb.up u _ _ ⟨da,dx,rfl,hda,adx⟩);have dN:N2 (thD (.tup fl.d.toList))<=100:=by rw[qz];exact Gw gd1.dp (by decide)
  have un0:A.units+3+N2 (thD (.tup fl.d.toList))<cLine:=Iz (Nat.add_le_add_left dN _) (by omega);refine⟨b,_,rfl,hb,rfl,_,_,rfl,_,_,rfl,_,_,rfl,_,_,rfl,rfl, ?_⟩;refine⟨_,rfl,da,dx,rfl,.inr hda,fun L1 hL1=>?_⟩;have s1:=Zw.lay (o:=.lst dx) hL1;refine Zvk (fun σ' HX=>∃LX,σ'=[some (.ref l),some (.ref e),some (.ref a),some (.int ((n+1:Nat):Int)),some (.ref C),some (.int fl.n),some (.str fl.x),some (.str fl.y),some (.ref da),some (.ref LX)]/\Rk K l C H ys es (r+R) HX/\Mz K H5 HX/\q0 K HX (Wr true ms n fl.y) LX) ?_ fun M hM=>?_
  ·intro σ' HX xt;refine Zc fun _ Vs=>?_;obtain⟨LX,rfl,kX,uX,rX⟩:=xt;refine Vs ?_;refine⟨_,rfl,(sz 0),fun eA hA=>?_⟩;have sA:=Zw.lay (o:=.lst []) hA;have kA:=kX.same sA;have uA:=uX.trans (sA.upT (K:=K));refine Zc fun _ Vu=>?_;obtain⟨o,dO,dpO,hO⟩:=resD mo hn (rX.same sA);refine Vu ?_;have un1:A.units+3+N2 (rD o)<cLine:=Iz (Nat.add_le_add_left dpO _) (by omega)
   have wl:ys.length<sizeLine:=by
    have z:=congrArg List.length ef;rw[Yp,T1]at z;rw[<-kA.a.length,Yp];exact Yi (by omega)
   rcases hO with ⟨rfl,hO⟩ | ⟨v,u,rfl,hO,iO,qO⟩
   ·refine⟨rD none,.lst [],dO,⟨eA,[],rfl,Z0.of Zz,rfl⟩,un1,_,rfl,Yj rfl ?_⟩;refine⟨_,rfl,(sz 0),fun eB hB=>?_⟩;have sB:=Zw.lay (o:=.tup []) hB;have kB:=kA.same sB;have uB:=uA.trans (sB.upT (K:=K));refine⟨_,.tup [],dD uB,⟨eB,[],rfl,Yv.of Zz,rfl⟩,un0,_,rfl, ?_⟩;cases ed:fl.d with
    | none =>
     refine Yj rfl ⟨(sz 0),fun p hp=>?_⟩;exact q p _ (.inl Zz) (kB.st.free hp) ((kB.st.lay hp).m)
    | some d0 =>
     refine Z5 rfl ?_;rw[ed]at adx;refine Zc fun _ Ug=>?_;obtain⟨v0,rfl,i0⟩:=A7 adx;obtain⟨s0,es0,pv0⟩:=pr.d fl mf d0 ed;refine Ug ?_;have hw0:Wr true ms n fl.y d0:=og (mo.ok _ _ es0) es0 pv0;refine⟨_,rfl,.inl ⟨rfl,_,Z0.of kB.c⟩,_,rfl,(sz 0),fun eC hC'=>?_⟩;have sE:=Zw.lay (o:=.lst []) hC';have kC:=kB.same sE;have uC:=uB.trans (sE.upT (K:=K));refine⟨rD none,.lst [],⟨_,[],rfl,Z0.of ((sB.trans sE) _ _ hO),rfl⟩,⟨eC,[],rfl,Z0.of Zz,rfl⟩,un1,_,rfl,Z5 rfl ?_⟩;refine⟨_,rfl,da,_,_,_,rfl,rfl,uC.tup _ _ hda,at0, ?_⟩;refine⟨C,ys,_,rfl,rfl,kC.c,wl,⟨_,_,_,_,_,rfl⟩,ys++[v0],es++[⟨fl,d0⟩],⟨(kC.st.put hC (fe.far hC)).m,Zz, ?_⟩, ?_, ?_⟩
     ·rw[Gj];have uS:Mz K _ (Yq _ C (.lst (ys++[v0]))):=Y8 kC.c;exact Zy.append (Zy.up uS _ _ kC.a) (Zy.one (Zb.up uS _ _ (Zb.up uC _ _ i0)))
     ·rw[Gj,ef,Zs ee];rfl
     ·intro t mt;rcases T6.mp mt with mt | mt
      ·exact he t mt
      ·rw[N6.mp mt];exact hw0
   ·refine⟨rD (some u),.lst [],dO,⟨eA,[],rfl,Z0.of Zz,rfl⟩,un1,_,rfl,Z5 rfl (Y6 ?_)⟩;refine⟨_,rfl,.inl ⟨rfl,_,Z0.of kA.c⟩,_,rfl,(sz 0),fun eC hC'=>?_⟩;have sE:=Zw.lay (o:=.lst []) hC';have kC:=kA.same sE;have gu:=Wr.bd mo qO;refine⟨rD (some u),.lst [],⟨_,[v],rfl,Z0.of (sE _ _ hO),v,[],rfl,Ki _ _ gu.nq (Zb.up sE.upT _ _ iO),rfl⟩,⟨eC,[],rfl,Z0.of Zz,rfl⟩,un1,_,rfl,Yj rfl ?_⟩;refine⟨_,rfl,_,_,_,_,rfl,rfl,Z0.of (sE _ _ hO),at0, ?_⟩;refine⟨C,ys,_,rfl,rfl,kC.c,wl,⟨_,_,_,_,_,rfl⟩,ys++[v],es++[⟨fl,u⟩],⟨(kC.st.put hC (fe.far hC)).m,Zz, ?_⟩, ?_, ?_⟩
    ·rw[Gj];have uS:Mz K _ (Yq _ C (.lst (ys++[v]))):=Y8 kC.c;exact Zy.append (Zy.up uS _ _ kC.a) (Zy.one (Zb.up uS _ _ (Zb.up sE.upT _ _ iO)))
    ·rw[Gj,ef,Zs ee];rfl
    ·intro t mt;rcases T6.mp mt with mt | mt
     ·exact he t mt
     ·rw[N6.mp mt];exact qO
  refine⟨_,rfl,(sz 0),fun e0 h0=>?_⟩;have s2:=Zw.lay (o:=.tup []) h0;have k6:=k5.same (s1.trans s2);refine⟨_,.tup [],dD (s1.trans s2).upT,⟨e0,[],rfl,Yv.of Zz,rfl⟩, ?_,_,rfl, ?_⟩
  ·exact un0
  have call:∀{H':Hp},Mz K H5 H'->T5 K H' e S ms:=fun u=>mk.up (u5.trans u);have arg:[V.ref l,V.ref e,V.str fl.y,V.int (((n+1:Nat):Int) - 1)]=[V.ref l,V.ref e,V.str fl.y,V.int (n:Int)]:=by rw[show ((n+1:Nat):Int) - 1=(n:Int) by omega]
  cases ed:fl.d with
  | none =>
   refine Yj rfl (Yj rfl ?_);refine⟨_,rfl,_,rfl,_,rfl,_,rfl,_,_,rfl,rfl,l,e,S,ms,fl.y,r+R,arg,call (s1.trans s2).upT,mo,pr.y fl mf,k6.st.feed.m,fun LX H7 rX nL t7=>?_⟩;exact hM _ _ ⟨LX,rfl,k6.step t7 nCl,(s1.trans s2).upT.trans (t7.upT k6.st.feed),rX⟩
  | some d1 =>
   refine Z5 rfl ?_;refine⟨_,rfl,l,2,r+R+VB n,rfl,k6.st.feed.m,by decide,by decide,fun z H7 z0 z1 t7=>⟨rfl,_,rfl, ?_⟩⟩;have k7:=k6.step t7 nCl;have u7:Mz K H5 H7:=(s1.trans s2).upT.trans (t7.upT k6.st.feed);refine Vw (fun c=>?_) (fun c=>?_)
   ·refine⟨_,rfl,_,rfl,_,rfl,_,rfl,_,_,rfl,rfl,l,e,S,ms,fl.y,r+R,arg,call u7,mo,pr.y fl mf,k7.st.feed.m,fun LX H8 rX nL t8=>?_⟩;exact hM _ _ ⟨LX,rfl,k7.step t8 nCl,u7.trans (t8.upT k7.st.feed),rX⟩
   ·have rX:q0 K H7 (Wr true ms n fl.y) L1:=by
     rw[ed]at adx;refine Zc fun _ Uk=>?_;obtain⟨v0,rfl,i0⟩:=A7 adx;obtain⟨s0,es0,pv0⟩:=pr.d fl mf d1 ed;refine Uk ?_;have hw0:Wr true ms n fl.y d1:=og (mo.ok _ _ es0) es0 pv0;have rr:q0 K _ (Wr true ms n fl.y) L1:=.inr ⟨v0,d1,s2 _ _ Zz,Zb.up (s1.trans s2).upT _ _ i0,hw0⟩;exact rr.step k6.st.feed t7
    exact hM _ _ ⟨L1,rfl,k7.m,u7,rX⟩
 ·intro σ H5 K0;refine Zc fun _ U1=>?_;obtain⟨⟨o5,o6,o7,o8,o9,rfl⟩,ys,es,k5,ef,he⟩:=K0;refine U1 ?_;rw[lfw,fc]at ef;subst ef;refine⟨_,rfl,C,_,rfl,.inl ⟨Z0.of k5.c,fun p1 fb=>?_⟩⟩;have s1:=Zw.lay (o:=.tup ys) fb;refine⟨(sz 0),fun p2 Az=>⟨(sz 2),fun p3 He=>⟨(sz 1),fun p4 hp4=>?_⟩⟩⟩;have s2:=Zw.lay (o:=.tup []) Az;have s3:=Zw.lay (o:=.tup [.ref p1,.ref p2]) He;have s4:=Zw.lay (o:=.lst [.ref p3]) hp4;have s24:=s2.trans (s3.trans s4);have Hi:=s1.trans s24;have hw:VW (Wr true ms n) true (.rcd (es.map Nb.f) us) (.tup [.tup (es.map Nb.u),.tup []]):=⟨es,[],rfl,he,⟨fun _=>rfl,List.nil_sublist _,fun o m=>absurd m U6⟩,rfl⟩;refine q p4 _ (.inr ⟨_,.tup [.tup (es.map Nb.u),.tup []],Zz,⟨p3,_,rfl,s4.up _ _ (Yv.of Zz),_,_,rfl,⟨p1,ys,rfl,s24.up _ _ (Yv.of Zz),Zy.up Hi.upT _ _ k5.a⟩,_,_,rfl,⟨p2,[],rfl,(s3.trans s4).up _ _ (Yv.of Zz),rfl⟩,rfl⟩,hw⟩) ?_ ((k5.st.same Hi).m);exact k5.st.free (s1.free (s2.free (s3.free hp4)))
abbrev J2:Stmt:=top 50
abbrev N5:List Str:=["_law_feed_here","_law_make_here","_law_name","_law_deep","_law_shape","_law_keys","_law_some","_law_first","_law_k","_law_number","_law_inner"]
theorem Y9:Zp N5 ["_law_feed_here","_law_make_here","_law_name","_law_deep"] (Zv J2):=by trivial
theorem VB_le:∀n,10<=VB n
 | 0=>Vj _
 | n+1=>by show 10<=10+6 * VB n;omega
theorem Zkp(ns:List Str){k:Int}(h0:0<=k):∃ks:List Str,Dj (ns.map V.str) none (some k)=ks.map V.str/\ks.Sublist ns/\(ks.length:Int)<=k:=by
 refine⟨ns.take k.toNat, ?_,List.take_sublist _ _,by rw[T1];omega⟩;unfold Dj
 have e:HT.Uo (ns.map V.str).length (ns.map V.str).length (some k)=min k.toNat (ns.map V.str).length:=by
  show (if k<0 then (k+((ns.map V.str).length:Int)).toNat else min k.toNat (ns.map V.str).length)=_;rw[if_neg (by omega)]
 rw[e,HT.Cf,List.drop_zero,Nat.sub_zero,List.map_take];by_cases h:k.toNat<=(ns.map V.str).length
 ·rw[Nat.min_eq_left h]
 ·rw[Nat.min_eq_right (by omega),Xt (Vj _),Xt (by omega)]
theorem up_sub{ks ns:List Str}(sd:sortedS ns=true)(nd:ns.Nodup)(h:ks.Sublist ns):adj ltS ks:=by
 have tr:∀a b c:Str,ltS a b->ltS b c->ltS a c:=fun _ _ _=>Zqt;exact Kk ((ki tr (Ol sd nd)).sublist h)
theorem nd_inr{zs:List Str}(h:(zs.map (Sum.inr:Str->Um)).Nodup):zs.Nodup:=List.Pairwise.imp (fun z e=>z (by rw[e])) (List.pairwise_map.mp h)
def Zm4(K:PySem.W.Frag)(H:Hp)(W:Th->Prop)(e:B1)(L:Addr):Prop:=∃v,H L=some (.lst [v])/\Zb K H e.u v/\W e.u
theorem Zda{K:PySem.W.Frag}{H:Hp}{W:Th->Prop}(hW:∀u,W u->nqT u/\N2 (thD u)<=99):∀{Ls:List Addr} {ks:List Str},ks.length=Ls.length->(∀L∈Ls,q0 K H W L)->∃os:List (Option Th),Vy K H (os.map rD) (Ls.map V.ref)/\(∀o∈os,N2 (rD o)<=100)/\((os.any fun o=>o.isNone)=true\/((os.any fun o=>o.isNone)=false/\∃es:List B1,es.map B1.k=ks/\Paired (Zm4 K H W) es Ls))
 | [],ks,hk,_=>by
  cases ks with
  | nil=>exact⟨[],rfl,fun o m=>absurd m U6,.inr ⟨rfl,[],rfl,.nil⟩⟩
  | cons _ _=>cases hk
 | L::Ls,ks,hk,h=>by
  cases ks with
  | nil=>cases hk
  | cons k ks =>
   obtain⟨os,ad,dp,alt⟩:=Zda hW (ks:=ks) (Nat.succ.inj hk) fun x m=>h x (Rq _ m);rcases h L Te with e | ⟨v,u,e,i,q⟩
   ·refine⟨none::os,⟨_,_,rfl,⟨L,[],rfl,Z0.of e,rfl⟩,ad⟩,fun o m=>?_,.inl rfl⟩;rcases G2.mp m with rfl | m
    ·decide
    ·exact dp o m
   ·obtain⟨nq,d99⟩:=hW u q;refine⟨some u::os,⟨_,_,rfl,⟨L,[v],rfl,Z0.of e,v,[],rfl,Ki _ _ nq i,rfl⟩,ad⟩,fun o m=>?_, ?_⟩
    ·rcases G2.mp m with rfl | m
     ·show max (N2 (thD u)) 0+1<=100;omega
     ·exact dp o m
    ·rcases alt with a | ⟨a,es,ek,pd⟩
     ·exact .inl a
     ·exact .inr ⟨a,⟨k,u⟩::es,by rw[R5,ek],.cons ⟨v,e,i,q⟩ pd⟩
theorem ku(os:List (Option Th)):((os.map rD).any fun e=>Ml e (.lst []))=os.any fun o=>o.isNone:=by
 induction os with
 | nil=>rfl
 | cons o os ih =>
  rw[R5,List.any_cons,List.any_cons,ih];cases o with
  | none=>rfl
  | some u=>rfl
theorem xw{K:PySem.W.Frag}{H:Hp}{W:Th->Prop}:∀{es:List B1} {Ls:List Addr} {i:Nat} {L:Addr},Paired (Zm4 K H W) es Ls->Ls[i]?=some L->∃e,es[i]?=some e/\Zm4 K H W e L
 | _,_,i,L,.nil,h=>by simp at h
 | e::es,M::Ls,i,L,.cons r t,h=>by
  cases i with
  | zero =>
   simp only[List.getElem?_cons_zero,Option.some.injEq]at h;subst h;exact⟨e,rfl,r⟩
  | succ i =>
   simp only[List.getElem?_cons_succ]at h ⊢;exact xw t h
theorem yf{K:PySem.W.Frag}{H:Hp}{W:Th->Prop}:∀{es:List B1} {Ls:List Addr},Paired (Zm4 K H W) es Ls->∀e∈es,W e.u
 | _,_,.nil,e,m=>absurd m U6
 | _,_,.cons r t,e,m=>by
  rcases G2.mp m with rfl | m
  ·exact r.elim fun v z=>z.2.2
  ·exact yf t e m
theorem wr'_dp{own:Bool}{ms:List (Str×Y3)}(mo:Rx ms):∀{n:Nat},n<=4->∀{x:Str} (u:Th),Wr' own ms n x u->nqT u/\N2 (thD u)<=99
 | 0,_,_,_,h=>False.elim h
 | n+1,hn,_,_,h=>by
  have g:=Wr.bd mo (n:=n) h;refine⟨g.nq, ?_⟩;rw[qz];have:=g.dp;omega
theorem Zzb{cs:List Str}:∀{us:List Um},(∀z∈us,z∈cs.map (Sum.inr:Str->Um))->∃zs:List Str,us=zs.map Sum.inr/\∀z∈zs,z∈cs
 | [],_=>⟨[],rfl,fun z m=>absurd m U6⟩
 | u::us,h=>by
  obtain⟨c,mc,rfl⟩:=Dp.mp (h u Te);obtain⟨zs,rfl,hz⟩:=Zzb (us:=us) fun z m=>h z (Rq _ m);refine⟨c::zs,rfl,fun z m=>?_⟩;rcases G2.mp m with rfl | m
  ·exact mc
  ·exact hz z m
theorem F5{k n:Nat}(hn:n<=3)(k2:2<=k)(F:Fu K "_law_value" J2 f fd)(m:Bn mg)(Zt:gD P w K mg base)(D1:Fn P w K mg base 2 "_law_names" ["_law_feed_here","_law_many"] Fb)(Gr:Fn P w K mg base 2 "_law_plain_value" ["_law_feed_here","_law_shape"] (Fg K))(J4:Fn P w K mg base k "_law_value" ["_law_feed_here","_law_make_here","_law_name","_law_deep"] (Zwp K n))(xp:Fn P w K mg base (k+1) "_law_record" ["_law_feed_here","_law_make_here","_law_shape","_law_deep"] (Zwi K n)):Yn P w K mg base Je (k+2) f fd ["_law_feed_here","_law_make_here","_law_name","_law_deep"] (Ot K n):=by
 refine F.ok Y9 (fun vs H Q E h=>?_) fun _ A _ s H vs Q E hr h=>?_
 ·obtain⟨l,e,S,ms,x,r,rfl,_⟩:=h
  rfl
 obtain⟨l,e,S,ms,x,r,rfl,mk,mo,ix,fe,q⟩:=h;obtain⟨sh,es⟩:=Option.isSome_iff_exists.mp ix;obtain⟨v0,he⟩:=mk.e;obtain⟨kvs,sv,hS,ev,isv⟩:=mk.get es
 refine⟨_,(@Zf _ _ _ _ _ (sI 4 Y9.nd (@Fi _ _ _ _ _ _ (To hr) (iX Zk (pv 1) Zq) (pv 2) (fun _ _=>rfl))) (@Zf _ _ _ _ _ (@J3 _ _ _ _ _ _ _ _ (Md Iu (iX Zk (pv 4) Zq) (qt (Zg Zm (Zg Zm (Zg Zm Zx)))) rfl) (@Yx _ _ _ (@Ux _ _ _ _ (@Yt _ _ _ _ (@Zj _ _ _ _ _ (@wz _ _ _ _ _ _ _ _ _ _ Gr (hr.m) rfl (@Zj _ _ _ _ _ (pv 0) (@Zj _ _ _ _ _ (pv 4) Zx rfl) rfl) (by decide) rfl rfl) Zx rfl)))) Zd) (@Zf _ _ _ _ _ (@J3 _ _ _ _ _ _ _ _ (Md Iu (iX Zk (pv 4) Zq) (qt (Zg Zm (Zg Zm Zx))) rfl) (@Zf _ _ _ _ _ (sI 5 Y9.nd (@Uy _ _ _ _ _ _ _ _ _ _ Ft (cB (qw rfl) m.sorted Zk4 (Zg (cT (Zq7 rfl) m.set b_set (Zg (cF D1 hr (Zg (pv 0) (Zg (qo Cs (cF Zt hr (Zg (pv 0) (Zg Zq Zx))) (cT P8 m.int kc (Zg (eQ Ia (pv 3) Zq) Zx))) Zx))) Zx)) Zx)) (@U8 _) (@U7 _ _ _ (iX Zk (pv 4) Zq)))) (@Zf _ _ _ _ _ (sI 6 Y9.nd (pC N5 (Zv J2) ["_law_key","_law_feed_here","_law_make_here","_law_shape","_law_deep"] [none,some 0,some 1,some 4,some 3] (qL (pv 5)) (fun _ _ _=>(nI 0)) (fun _ _ _=>Z1) (fun _ _ _=>(cF J4 hr (Zg (pv 1) (Zg (pv 2) (Zg (iX Zk (pv 3) Zq) (Zg (qo Lq (pv 4) Zq) Zx)))))))) (@Zf _ _ _ _ _ (@J3 _ _ _ _ _ _ _ _ (Md op_inD (ql Zx) (pv 6) rfl) (@Yx _ _ _ (@Ux _ _ _ _ (@Yt _ _ _ _ (@Zj _ _ _ _ _ (@Ya _ _ _ _ _ Zx) Zx rfl)))) Zd) (@Zf _ _ _ _ _ (@J3 _ _ _ _ _ _ _ _ (tQ Ym (iX Zk (pv 4) Zq) Zm) (@Yx _ _ _ (@Ux _ _ _ _ (@Yt _ _ _ _ (@Zj _ _ _ _ _ (@Ui _ _ _ _ _ _ _ _ _ Yl rfl m.tuple Yr (@Zj _ _ _ _ _ (@Ba _ N5 (Zv J2) ["_law_one"] [none] _ _ _ _ _ _ _ _ _ _ rfl (@Ni _ _ _ _ (pv 6)) ⟨rfl,rfl,by decide +kernel,by decide +kernel⟩ (fun _ _ _=>(@Fp _ 0 _ _ (show List.Nodup (["_law_one"]:List Str) from by decide +kernel) rfl (Or.inl rfl) (by trivial))) (fun _ _ _=>Z1) (fun _ _ _=>(@Ut _ _ _ _ _ _ _ Z2 (pv 0) Zq (fun _ _=>rfl))) (by trivial)) Zx rfl) (by trivial) (by trivial) (by trivial) (by trivial)) Zx rfl)))) Zd) (@Yx _ _ _ (@Ux _ _ _ _ (@Yt _ _ _ _ (@Zj _ _ _ _ _ (@Ui _ _ _ _ _ _ _ _ _ Yl rfl m.tuple Yr (@Zj _ _ _ _ _ (@Ba _ N5 (Zv J2) ["_law_k","_law_keys","_law_some"] [none,some 5,some 6] _ _ _ _ _ _ _ _ _ _ rfl (@U9 _ _ _ _ _ _ rfl m.range (@Zj _ _ _ _ _ (@Fe _ _ _ _ _ _ _ _ _ Zn rfl m.len Vv (@Zj _ _ _ _ _ (pv 5) Zx rfl) (by decide) (by decide) rfl rfl) Zx rfl) (by trivial)) ⟨rfl,rfl,by decide +kernel,by decide +kernel⟩ (fun _ _ _=>(@Fp _ 0 _ _ (show List.Nodup (["_law_k","_law_keys","_law_some"]:List Str) from by decide +kernel) rfl (Or.inl rfl) (by trivial))) (fun _ _ _=>Z1) (fun _ _ _=>(@Ya _ _ _ _ _ (@Zj _ _ _ _ _ (@Ut _ _ _ _ _ _ _ Z2 (pv 1) (pv 0) (fun _ _=>rfl)) (@Zj _ _ _ _ _ (@Ut _ _ _ _ _ _ _ Z2 (@Ut _ _ _ _ _ _ _ Z2 (pv 2) (pv 0) (fun _ _=>rfl)) Zq (fun _ _=>rfl)) Zx rfl) rfl))) (by trivial)) Zx rfl) (by trivial) (by trivial) (by trivial) (by trivial)) Zx rfl)))))))) Zd) (@Zf _ _ _ _ _ (qi (tQ F0 (pv 3) Zq) (q1 (qr (ql Zx))) Zd) (@Zf _ _ _ _ _ (qi (tQ Ym (iX Zk (pv 4) Zq) Zm) (q1 (qr (cF xp hr (Zg (pv 0) (Zg (pv 1) (Zg (pv 4) (Zg (pv 3) Zx))))))) Zd) (@Zf _ _ _ _ _ (sI 7 Y9.nd (cF Zt hr (Zg (pv 0) (Zg Zq Zx)))) (@Zf _ _ _ _ _ (@Dz _ _ _ _ _ _ _ _ PassesOwn.never rfl (@U9 _ _ _ _ _ _ rfl m.range (Zg (cB Zn m.len Vv (Zg (iX Zk (pv 4) Zq) Zx)) Zx) (by trivial)) (nJ 8 Y9.nd) (@Zf _ _ _ _ _ (E9 (iX Zk (iX Zk (pv 4) Zq) (qo Cp (qo Ju (pv 7) (pv 8)) (cB Zn m.len Vv (Zg (iX Zk (pv 4) Zq) Zx)))) (N9 rfl (Ys (nJ 9 Y9.nd) (Ys (nJ 2 Y9.nd) (Ys (nJ 10 Y9.nd) Dn))))) (@Zf _ _ _ _ _ (sI 6 Y9.nd (cF J4 hr (Zg (pv 0) (Zg (pv 1) (Zg (pv 10) (Zg (qo Lq (pv 3) Zq) Zx)))))) (@Yx _ _ _ (@J3 _ _ _ _ _ _ _ _ (tQ tz (pv 6) (ql Zx)) (@Yx _ _ _ (@Ux _ _ _ _ (@Yt _ _ _ _ (@Zj _ _ _ _ _ (@Ya _ _ _ _ _ (@Zj _ _ _ _ _ Zm (@Zj _ _ _ _ _ (pv 9) (@Zj _ _ _ _ _ (@Ut _ _ _ _ _ _ _ Z2 (pv 6) Zq (fun _ _=>rfl)) Zx rfl) rfl) rfl)) Zx rfl)))) Zd)))) (by trivial)) (q1 (qr (ql Zx)))))))))), ?_⟩
 have uN:A.units+3+16 * (k+1)+200<cLine:=hr.un;have shk:=mo.ok x sh es;have vb:=VB_le n;refine⟨_,rfl,e,_,_,_,rfl,rfl,he,Jy,_,rfl,S,_,rfl,(show Nl H S (kV (.inr x)) (some sv) from ev ▸ E7 hS (.inr x)), ?_⟩;have yq:=isv
 have plain:∀{H1:Hp},Zw H H1->Pln [] sh->(∀v u H',Zb K H' u v->Pv sh u->Ve l r H H'->∀L,H' L=none->Q (.ref L) (Yq H' L (.lst [v]))):=fun {H1} s1 pl v u H' i pv t L hL=>by
  exact q L _ (.inr ⟨v,u,Zz,Zb.up (Zw.lay hL).upT _ _ i,og shk es pv⟩) (t.free hL) (t.lay hL)
 cases sh with
 | whole lo hi =>
  refine Zc fun _ Y5=>?_;obtain⟨a,ws,rfl,ha,at'⟩:=isv;obtain⟨w1,w2,w3,rfl,i1,i2,i3⟩:=Mu at';cases Zr i1;refine Y5 ?_;refine⟨_,rfl,a,_,_,_,rfl,rfl,ha,at0,(sz 3),fun e0 h0=>?_⟩;have s0:=Zw.lay (o:=.tup [.str "whole",.str "truth",.str "text"]) h0;refine⟨e0,_,rfl,.inr (Yv.of Zz),rfl,rfl,_,rfl,iY ?_⟩;refine⟨_,rfl,_,rfl,l,_,.whole lo hi,[],r+VB n - 1,rfl,Zb.up s0.upT _ _ yq,shk,(fe.same s0).m,fun v u H' i pv t=>⟨(sz 1),fun L hL=>?_⟩⟩;exact plain s0 shk v u H' i pv ((((Ve.refl fe).same s0).trans t).m) L hL
 | truth =>
  refine Zc fun _ Vm=>?_;obtain⟨a,ws,rfl,ha,at'⟩:=isv;obtain⟨w1,rfl,i1⟩:=A7 at';cases Zr i1;refine Vm ?_;refine⟨_,rfl,a,_,_,_,rfl,rfl,ha,at0,(sz 3),fun e0 h0=>?_⟩;have s0:=Zw.lay (o:=.tup [.str "whole",.str "truth",.str "text"]) h0;refine⟨e0,_,rfl,.inr (Yv.of Zz),rfl,rfl,_,rfl,iY ?_⟩;refine⟨_,rfl,_,rfl,l,_,.truth,[],r+VB n - 1,rfl,Zb.up s0.upT _ _ yq,shk,(fe.same s0).m,fun v u H' i pv t=>⟨(sz 1),fun L hL=>?_⟩⟩;exact plain s0 shk v u H' i pv ((((Ve.refl fe).same s0).trans t).m) L hL
 | text nn =>
  refine Zc fun _ Vh=>?_;obtain⟨a,ws,rfl,ha,at'⟩:=isv;obtain⟨w1,w2,rfl,i1,i2⟩:=A6 at';cases Zr i1;refine Vh ?_;refine⟨_,rfl,a,_,_,_,rfl,rfl,ha,at0,(sz 3),fun e0 h0=>?_⟩;have s0:=Zw.lay (o:=.tup [.str "whole",.str "truth",.str "text"]) h0;refine⟨e0,_,rfl,.inr (Yv.of Zz),rfl,rfl,_,rfl,iY ?_⟩;refine⟨_,rfl,_,rfl,l,_,.text nn,[],r+VB n - 1,rfl,Zb.up s0.upT _ _ yq,shk,(fe.same s0).m,fun v u H' i pv t=>⟨(sz 1),fun L hL=>?_⟩⟩;exact plain s0 shk v u H' i pv ((((Ve.refl fe).same s0).trans t).m) L hL
 | row b y nn =>
  refine Zc fun _ Vs=>?_;obtain⟨a,ws,rfl,ha,at'⟩:=isv;obtain⟨w1,w2,w3,rfl,i1,i2,i3⟩:=Mu at';cases Zr i2;cases Zr i3;have hb:∀b:Bool,z9 (.str (if b=true then ("row" : Str) else "map")) [.str "whole",.str "truth",.str "text"]=false/\z9 (.str (if b=true then ("row" : Str) else "map")) [.str "row",.str "map"]=true/\decide (V.str (if b=true then ("row" : Str) else "map")=V.str "row")=b:=by decide +kernel
  cases Zr i1;refine Vs ?_;refine⟨_,rfl,a,_,_,_,rfl,rfl,ha,at0,(sz 3),fun e0 h0=>?_⟩;have s0:=Zw.lay (o:=.tup [.str "whole",.str "truth",.str "text"]) h0;refine⟨e0,_,rfl,.inr (Yv.of Zz),rfl,rfl,_,rfl,Z5 (hb b).1 ?_⟩;refine⟨_,rfl,a,_,_,_,rfl,rfl,s0.up _ _ ha,at0,(sz 2),fun e1 h1=>?_⟩;have s1:=s0.trans (Zw.lay (o:=.tup [.str "row",.str "map"]) h1);refine⟨e1,_,rfl,.inr (Yv.of Zz),rfl,rfl,_,rfl,Yj (hb b).2.1 ?_⟩;have t1:=(Ve.refl fe).same s1;refine⟨_,rfl,_,rfl,l,4,r+(VB n - 1),rfl,t1.feed.m,by decide,by decide,fun d H2 d0 d1 t2=>?_⟩;refine⟨_,rfl,_,_,rfl,rfl,.inr ⟨_,rfl,_,_,rfl,rfl,.inr ⟨by split<;>decide,by split<;>decide⟩, ?_⟩⟩;refine Zc fun _ Vu=>?_
  obtain⟨mm,emm,m3,mz⟩:∃mm:Nat,d * (if decide ((n:Int)>0)=true then (1:Int) else 0)=(mm:Int)/\mm<=3/\(n=0->mm=0):=by
   by_cases z:(n:Int)>0
   ·rw[if_pos (Gq z)];exact⟨d.toNat,by omega,by omega,fun y=>by omega⟩
   ·rw[if_neg (by simpa using z)];exact⟨0,by omega,by omega,fun _=>rfl⟩
  refine Vu ?_;have t12:=t1.trans t2;refine⟨l,mm,r+(VB n - 3),by rw[<-emm];rfl,t2.feed.m,by omega,fun C cs H3 hC nC okC t3=>?_⟩;have t13:=t12.trans t3;refine⟨C,cs.map Sum.inr,rfl,by rw[List.map_map];exact Z0.of hC, ?_,fun Sx uz hSx ndz mz' lz=>?_⟩
  ·rw[Yp,okC.len];exact Iz (show mm+1<=9 by omega) (by decide)
  refine Zc fun _ Ug=>?_;obtain⟨zs,rfl,hzs⟩:=Zzb (us:=uz) fun z m=>(mz' z).mp m;refine Ug ?_;rw[Yp,Yp,okC.len]at lz;have sS:=Zw.lay (o:=gj P w Sx (zs.map Sum.inr)) hSx;refine⟨Sx,zs,rfl,Zz,by omega,fun KL ns hKL pz sd=>?_⟩;have sK:=Zw.lay (o:=.lst (ns.map V.str)) hKL;have t14:=t13.same (sS.trans sK);have u14:=t14.upT (K:=K) fe;have ha4:=u14.tup _ _ ha;refine Zc fun _ Uk=>?_;obtain⟨ks,eks,sks,lkn⟩:=Zkp ns shk.2.1;refine Uk ?_;have ndn:ns.Nodup:=pz.nodup_iff.mpr (nd_inr ndz);have upk:adj ltS ks:=up_sub sd ndn sks;refine⟨_,rfl,a,_,_,_,rfl,rfl,ha4,Oz,_,rfl,KL,_,rfl,Z0.of Zz, ?_⟩;rw[eks];intro KS hKS;have sKS:=Zw.lay (o:=.lst (ks.map V.str)) hKS;have t15:=t14.same sKS;have hK15:Yq (Yq (Yq H3 Sx (gj P w Sx (zs.map Sum.inr))) KL (.lst (ns.map V.str))) KS (.lst (ks.map V.str)) KS=some (.lst (ks.map V.str)):=Zz;have lks:ks.length<=mm:=Gw sks.length_le (by rw[pz.length_eq];exact lz);have mks:∀k∈ks,k∈Gx:=fun k m=>okC.mem k (hzs k (pz.mem_iff.mp (sks.subset m)));have nKS0:H KS=none:=t14.free hKS;have nKSl:KS≠l:=fe.ne nKS0;have u15:=t15.upT (K:=K) fe;refine⟨_,rfl,KS,rfl,⟨_,Z0.of hK15⟩,fun D fp sx hD=>?_⟩;have nD0:H D=none:=t15.free hD;have nDl:D≠l:=fe.ne nD0;have nKD:KS≠D:=Yw hK15 hD
  refine Jw (K:=K) (xs:=ks.map V.str) (fun i ys σ H5=>(∃o,σ=[o,some (.ref l),some (.ref e),some (.ref a),some (.int (n:Int))])/\Ve l (r+(3 - i) * (VB n / 6)) H H5/\H5 KS=some (.lst (ks.map V.str))/\H5 D=some (.lst ys)/\∃Ls:List Addr,ys=Ls.map V.ref/\Ls.length=i/\∀L∈Ls,q0 K H5 (Wr' true ms n y) L/\L≠D/\L≠KS)
   ⟨⟨_,rfl⟩,(t15.lay hD).m,(Zw.lay hD) _ _ hK15,Zz,[],rfl,rfl,fun L m=>absurd m U6⟩ ?_ ?_ ?_
  ·intro i ys σ H5 hi K0;refine Zc fun _ U1=>?_;obtain⟨_,_,h5,h5D,_⟩:=K0;refine U1 ?_;exact⟨Z0.of h5,h5D⟩
  ·intro i xk ys σ H5 hx Zkj;refine Zc fun _ Y5=>?_;obtain⟨⟨o,rfl⟩,t5,h5,h5D,Ls,rfl,lL,hL⟩:=Zkj;refine Y5 ?_;have hi:i<ks.length:=by rw[<-Yp V.str];exact(Q8.mp hx).1
   cases n with
   | zero=>rw[mz rfl]at lks;omega
   | succ n' =>
    have vbe:VB (n'+1)=10+6 * VB n':=rfl;have vb6:VB n'<=VB (n'+1) / 6:=by omega
    generalize VB (n'+1) / 6=vd at *;have eb:(3 - i) * vd=(3 - (i+1)) * vd+vd:=Ap (by omega);have u5:=t5.upT (K:=K) fe;have arg:[V.ref l,V.ref e,V.str y,V.int (((n'+1:Nat):Int) - 1)]=[V.ref l,V.ref e,V.str y,V.int (n':Int)]:=by rw[show ((n'+1:Nat):Int) - 1=(n':Int) by omega]
    refine V2 ?_;refine⟨_,rfl,_,rfl,_,rfl,a,_,_,_,rfl,rfl,u5.tup _ _ ha,Jy,_,rfl,_,_,rfl,rfl,l,e,S,ms,y,r+(3 - (i+1)) * vd,arg,mk.up u5,mo,shk.1,t5.feed.m,fun LX H6 rX nL t6=>?_⟩;have h6D:=t6.keep _ _ nDl h5D;have nLD:LX≠D:=fun z=>by rw[z,h5D]at nL;cases nL
    have nLK:LX≠KS:=fun z=>by rw[z,h5]at nL;cases nL
    refine⟨h6D, ?_,⟨_,rfl⟩,(t5.trans t6).put nD0 (fe.far nD0),by rw[Zl nKD];exact t6.keep _ _ nKSl h5,Zz,Ls++[LX],by rw[Gj];rfl,by rw[Xs,List.length_singleton,lL],fun L m=>?_⟩
    ·rw[Yp,lL];exact Yi (by omega)
    ·rcases T6.mp m with m | m
     ·refine Zc fun _ Vm=>?_;obtain⟨z,n1,n2⟩:=hL L m;refine Vm ?_;exact⟨(z.step t5.feed t6).put h6D n1,n1,n2⟩
     ·rw[N6.mp m];exact⟨rX.put h6D nLD,nLD,nLK⟩
  ·intro ys σ H5 K4;refine Zc fun _ Vh=>?_;obtain⟨⟨o,rfl⟩,t5,h5,h5D,Ls,rfl,lL,hL⟩:=K4;refine Vh ?_;have t5:=t5.mono (r':=r) (by omega);have u5:=t5.upT (K:=K) fe;rw[Yp]at lL;refine⟨(sz 0),fun eA hA=>?_⟩;have sA:=Zw.lay (o:=.lst []) hA;refine Zc fun _ Vs=>?_;obtain⟨os,aD,dp,alt⟩:=Zda (wr'_dp mo (by omega) (x:=y)) (ks:=ks) lL.symm fun L m=>((hL L m).1).same sA;refine Vs ?_;refine⟨_,rfl,D,_,.lst [],os.map rD,rfl,Z0.of (sA _ _ h5D),⟨eA,[],rfl,Z0.of Zz,rfl⟩,aD,fun e' me=>?_,_,rfl, ?_⟩
   ·refine Zc fun _ Vu=>?_;obtain⟨o',mo',rfl⟩:=Dp.mp me;refine Vu ?_;have:=dp o' mo';show A.units+3+N2 (rD o')+10<cLine;omega
   have t6:=t5.same sA;have ha6:=(t6.upT (K:=K) fe).tup _ _ ha;rcases alt with c | ⟨c,ents,ek,pd⟩
   ·refine Yj (by rw[ku];exact c) ⟨(sz 0),fun p3 He=>⟨(sz 1),fun p4 hp4=>?_⟩⟩;have s3:=Zw.lay (o:=.tup []) He;have s4:=Zw.lay (o:=.lst [.ref p3]) hp4;exact q p4 _ (.inr ⟨_,.tup [],Zz,⟨p3,[],rfl,s4.up _ _ (Yv.of Zz),rfl⟩,og (d:=.tup []) shk es trivial⟩) (t6.free (s3.free hp4)) (t6.same (s3.trans s4))
   ·refine Z5 (by rw[ku];exact c) ?_;have le:ents.length=Ls.length:=Paired.length pd;have l3:ents.length<=3:=by omega
    have lnn:(ents.length:Int)<=nn:=by omega
    have hal:∀en∈ents,en.k∈Gx/\Wr' true ms n y en.u:=fun en me=>⟨mks _ (by rw[<-ek];exact List.mem_map_of_mem me),yf pd en me⟩;refine⟨_,rfl,a,_,_,_,rfl,rfl,ha6,at0,rfl,_,rfl, ?_⟩;cases b with
    | true =>
     refine iY ?_;refine⟨_,rfl,D,rfl,⟨_,Z0.of (sA _ _ h5D)⟩,fun D2 fp2 sx2 Ek=>?_⟩;refine Jw (K:=K) (xs:=Ls.map V.ref) (fun i zs σ H7=>(∃o,σ=[o])/\Zw _ H7/\H7 D2=some (.lst zs)/\Zy K H7 ((ents.take i).map B1.u) zs) ⟨⟨_,rfl⟩,Zw.lay Ek,Zz,rfl⟩ ?_ ?_ ?_
     ·intro i zs σ H7 hi yc;refine Zc fun _ Ug=>?_;obtain⟨_,s7,h7,_⟩:=yc;refine Ug ?_;exact⟨Z0.of (s7 _ _ (sA _ _ h5D)),h7⟩
     ·intro i xv zs σ H7 hx K3;refine Zc fun _ Uk=>?_;obtain⟨⟨o,rfl⟩,s7,h7,az⟩:=K3;rw[Ma]at hx;obtain⟨L,eL,rfl⟩:=Qe.mp hx;obtain⟨en,ee,v,hv,iv,_⟩:=xw pd eL;refine Uk ?_;refine V2 ?_;have uS:Mz K H7 (Yq H7 D2 (.lst (zs++[v]))):=Y8 h7;refine⟨_,rfl,L,_,_,_,rfl,rfl,Z0.of (s7 _ _ hv),at0,h7, ?_,⟨_,rfl⟩,s7.put Ek,Zz, ?_⟩
      ·rw[<-az.length,Yp,T1];exact Yi (by omega)
      ·rw[Zs ee,Gj];exact Zy.append (Zy.up uS _ _ az) (Zy.one (Zb.up (s7.upT.trans uS) _ _ iv))
     ·intro zs σ H7 yt;refine Zc fun _ U1=>?_;obtain⟨_,s7,h7,az⟩:=yt;refine U1 ?_;rw[Yp, <-le,fc]at az;refine⟨D2,zs,rfl,.inl ⟨Z0.of h7,fun p3 He=>⟨(sz 1),fun p4 hp4=>?_⟩⟩⟩;have s3:=Zw.lay (o:=.tup zs) He;have s4:=Zw.lay (o:=.lst [.ref p3]) hp4;exact q p4 _ (.inr ⟨_,.tup (ents.map B1.u),Zz,⟨p3,zs,rfl,s4.up _ _ (Yv.of Zz),Zy.up (s3.trans s4).upT _ _ az⟩,Wr.of es ⟨ents,l3,lnn,hal,rfl⟩⟩) (t6.free (s7.free (s3.free hp4))) (t6.same (s7.trans (s3.trans s4)))
    | false =>
     refine iN ?_;have lkm:(ks.map V.str).length=ks.length:=Yp _;refine⟨_,rfl,KS,_,rfl,.inl (Z0.of (sA _ _ h5)),((ks.map V.str).length:Int),rfl,by omega,by omega,fun D2 fp2 sx2 Ek=>?_⟩;refine Dw (n:=(((ks.map V.str).length:Nat):Int).toNat) (fun i zs σ H7=>(∃o,σ=[o,some (.ref KS),some (.ref D)])/\Zw _ H7/\H7 D2=some (.lst zs)/\Zy K H7 ((ents.take i).map B1.t) zs) ⟨⟨_,rfl⟩,Zw.lay Ek,Zz,rfl⟩ ?_ ?_ ?_
     ·intro i zs σ H7 hi yd;refine Zc fun _ Y5=>?_;obtain⟨_,s7,h7,_⟩:=yd;refine Y5 ?_;exact h7
     ·intro i zs σ H7 hi Zkk;refine Zc fun _ Vm=>?_;obtain⟨⟨o,rfl⟩,s7,h7,az⟩:=Zkk
      have hi:i<Ls.length:=by
       have:(ks.map V.str).length=ks.length:=Yp _;omega
      have eL:Ls[i]?=some Ls[i]:=Nn hi;obtain⟨en,ee,v,hv,iv,_⟩:=xw pd eL;refine Vm ?_;have ekk:ks[i]?=some en.k:=by rw[<-ek,Ma,ee];rfl
      have aK:Pz (ks.map V.str) (0+(i:Int))=some (.str en.k):=by rw[Int.zero_add];exact V4 (by rw[Ma,ekk];rfl)
      have aL:Pz (Ls.map V.ref) (0+(i:Int))=some (.ref Ls[i]):=by rw[Int.zero_add];exact V4 (by rw[Ma,eL];rfl)
      refine V2 ?_;refine⟨_,rfl,_,rfl,KS,_,_,_,rfl,rfl,Z0.of (s7 _ _ (sA _ _ h5)),aK,_,rfl,_,rfl,D,_,_,_,rfl,rfl,Z0.of (s7 _ _ (sA _ _ h5D)),aL,_,_,_,_,rfl,rfl,Z0.of (s7 _ _ hv),at0,(sz 2),fun e2 h2=>?_⟩;have s2:=Zw.lay (o:=.tup [.str en.k,v]) h2;have h8:=s2 _ _ h7;have uS:Mz K _ (Yq _ D2 (.lst (zs++[.ref e2]))):=Y8 h8;refine⟨h8, ?_,⟨_,rfl⟩,(s7.trans s2).put Ek,Zz, ?_⟩
      ·rw[<-az.length,Yp,T1];exact Yi (by omega)
      ·rw[Zs ee,Gj];exact Zy.append (Zy.up (s2.upT.trans uS) _ _ az) (Zy.one (Zb.up uS _ _ ⟨e2,_,rfl,Yv.of Zz,_,_,rfl,rfl,_,_,rfl,Zb.up (s7.trans s2).upT _ _ iv,rfl⟩))
     ·intro zs σ H7 ym;refine Zc fun _ Vh=>?_;obtain⟨_,s7,h7,az⟩:=ym;refine Vh ?_
      have lz:ents.length<=(((ks.map V.str).length:Nat):Int).toNat:=by
       have:(ks.map V.str).length=ks.length:=Yp _;omega
      rw[Xt lz]at az;refine⟨D2,zs,rfl,.inl ⟨Z0.of h7,fun p3 He=>⟨(sz 1),fun p4 hp4=>?_⟩⟩⟩;have s3:=Zw.lay (o:=.tup zs) He;have s4:=Zw.lay (o:=.lst [.ref p3]) hp4;exact q p4 _ (.inr ⟨_,.tup (ents.map B1.t),Zz,⟨p3,zs,rfl,s4.up _ _ (Yv.of Zz),Zy.up (s3.trans s4).upT _ _ az⟩,Wr.of es ⟨ents,l3,lnn,hal,by rw[ek];exact upk,rfl⟩⟩) (t6.free (s7.free (s3.free hp4))) (t6.same (s7.trans (s3.trans s4)))
 | rcd fs us =>
  refine Zc fun _ Vs=>?_;obtain⟨a,ws,rfl,ha,at'⟩:=isv;obtain⟨w1,w2,w3,rfl,i1,i2,i3⟩:=Mu at';cases Zr i1;refine Vs ?_;have ha00:=ha;refine⟨_,rfl,a,_,_,_,rfl,rfl,ha,at0,(sz 3),fun e0 h0=>?_⟩;have s0:=Zw.lay (o:=.tup [.str "whole",.str "truth",.str "text"]) h0;refine⟨e0,_,rfl,.inr (Yv.of Zz),rfl,rfl,_,rfl,iN ?_⟩;refine⟨_,rfl,a,_,_,_,rfl,rfl,s0.up _ _ ha,at0,(sz 2),fun e1 h1=>?_⟩;have s1:=s0.trans (Zw.lay (o:=.tup [.str "row",.str "map"]) h1);refine⟨e1,_,rfl,.inr (Yv.of Zz),rfl,rfl,_,rfl,iN ?_⟩;have t1:=(Ve.refl fe).same s1;have ha:=s1.up _ _ ha;refine⟨_,rfl,_,_,rfl,rfl,_,rfl, ?_⟩;cases n with
  | zero =>
   refine Yj rfl ⟨(sz 0),fun L hL=>?_⟩;exact q L _ (.inl Zz) (t1.free hL) ((t1.lay hL).m)
  | succ n' =>
   refine Z5 (My (by omega)) ?_;refine⟨_,rfl,a,_,_,_,rfl,rfl,ha,at0,rfl,_,rfl,iY ?_⟩;have vbe:VB (n'+1)=10+6 * VB n':=rfl;refine⟨_,rfl,_,rfl,_,rfl,_,rfl,l,e,S,ms,_,fs,us,r,rfl,mk.up s1.upT,mo,Zb.up s1.upT _ _ yq,shk,t1.feed.m,fun L H' rs nL t=>?_⟩;refine q L H' ?_ (t1.free nL) (t1.trans t);exact rs.imp id fun⟨v,u,e',i,z⟩=>⟨v,u,e',i,_,es,z⟩
 | cho fs us o =>
  refine Zc fun _ Vu=>?_;obtain⟨a,ws,rfl,ha,at'⟩:=isv;obtain⟨w1,w2,w3,w4,rfl,i1,i2,i3,i4⟩:=A5 at';cases Zr i1;obtain⟨fa,fws,rfl,O1,afs⟩:=i2;refine Vu ?_;have pr:Us ms fs:=shk.1;have ha00:=ha;refine⟨_,rfl,a,_,_,_,rfl,rfl,ha,at0,(sz 3),fun e0 h0=>?_⟩;have s0:=Zw.lay (o:=.tup [.str "whole",.str "truth",.str "text"]) h0;refine⟨e0,_,rfl,.inr (Yv.of Zz),rfl,rfl,_,rfl,iN ?_⟩;refine⟨_,rfl,a,_,_,_,rfl,rfl,s0.up _ _ ha,at0,(sz 2),fun e1 h1=>?_⟩;have s1:=s0.trans (Zw.lay (o:=.tup [.str "row",.str "map"]) h1);refine⟨e1,_,rfl,.inr (Yv.of Zz),rfl,rfl,_,rfl,iN ?_⟩;have t1:=(Ve.refl fe).same s1;have ha:=s1.up _ _ ha;refine⟨_,rfl,_,_,rfl,rfl,_,rfl, ?_⟩;cases n with
  | zero =>
   refine Yj rfl ⟨(sz 0),fun L hL=>?_⟩;exact q L _ (.inl Zz) (t1.free hL) ((t1.lay hL).m)
  | succ n' =>
   refine Z5 (My (by omega)) ?_;refine⟨_,rfl,a,_,_,_,rfl,rfl,ha,at0,rfl,_,rfl,iN ?_⟩;have vbe:VB (n'+1)=10+6 * VB n':=rfl;refine⟨_,rfl,l,8,r+5 * VB n',rfl,t1.feed.m,by decide,by decide,fun fst H2 f0 f1 t2=>?_⟩;have t12:=t1.trans t2;have u12:=t12.upT (K:=K) fe;have lfw:fws.length=fs.length:=by rw[<-afs.length,Yp]
   have l5:=pr.len;have ha2:=(t2.upT (K:=K) t1.feed).tup _ _ ha;refine⟨_,rfl,a,_,_,_,rfl,rfl,ha2,Jy,fa,_,rfl,.inr (u12.tup _ _ O1),(fws.length:Int),rfl,by omega,by omega, ?_⟩;refine P5 (n:=((fws.length:Nat):Int).toNat) (fun i σ H5=>(∃o2 o5 o6 o8 o9 o10,σ=[some (.ref l),some (.ref e),o2,some (.int ((n'+1:Nat):Int)),some (.ref a),o5,o6,some (.int fst),o8,o9,o10])/\Ve l (r+(5 - i) * VB n') H H5) ⟨⟨_,_,_,_,_,_,rfl⟩,t12.m⟩ ?_ ?_
   ·intro i σ H5 hi Zkv;refine Zc fun _ Ug=>?_;obtain⟨⟨o2,o5,o6,o8,o9,o10,rfl⟩,t5⟩:=Zkv;refine Ug ?_;have hi':i<fs.length:=by omega
    have eb:(5 - i) * VB n'=(5 - (i+1)) * VB n'+VB n':=Ap (by omega);have u5:=t5.upT (K:=K) fe;have hj0:0<=(fst+(0+(i:Int))) % (fws.length:Int):=Int.emod_nonneg _ (by omega);have hj1:(fst+(0+(i:Int))) % (fws.length:Int)<(fws.length:Int):=Int.emod_lt_of_pos _ (by omega);generalize hj:(fst+(0+(i:Int))) % (fws.length:Int)=j at hj0 hj1;refine Zc fun _ Uk=>?_;obtain⟨jn,rfl⟩:∃jn:Nat,j=jn:=⟨j.toNat,by omega⟩;have ej:fws[jn]?=some fws[jn]:=Nn (by omega);obtain⟨t,et,it⟩:=afs.got ej;rw[Ma]at et;obtain⟨fl,ee,rfl⟩:=Qe.mp et;have mf:=Ow ee;have eI:Pz fws ((fst+(0+(i:Int))) % (fws.length:Int))=some fws[jn]:=by rw[hj];exact V4 ej
    obtain⟨b,bs,eb',hb,ab⟩:=Zb.up u5 _ _ it;rw[eb']at eI;obtain⟨b1,b2,b3,rfl,j1,j2,j3⟩:=Mu ab;cases Zr j1;cases Zr j2;cases Zr j3;refine Uk ?_;have ha5:=(t5.upT (K:=K) fe).tup _ _ ha00;have hfa5:=u5.tup _ _ O1;have arg:[V.ref l,V.ref e,V.str fl.y,V.int (((n'+1:Nat):Int) - 1)]=[V.ref l,V.ref e,V.str fl.y,V.int (n':Int)]:=by rw[show ((n'+1:Nat):Int) - 1=(n':Int) by omega]
    refine⟨_,rfl,a,_,_,_,rfl,rfl,ha5,Jy,_,rfl,_,rfl,_,_,rfl,rfl,_,rfl,a,_,_,_,rfl,rfl,ha5,Jy,fa,_,rfl,.inr hfa5,_,_,rfl,rfl,(by show (0:Int)<_;omega),fa,_,_,_,rfl,rfl,hfa5,eI,b,_,rfl,hb,rfl,_,_,rfl,_,_,rfl,_,_,rfl,rfl, ?_⟩;refine⟨_,rfl,_,rfl,_,rfl,_,rfl,_,_,rfl,rfl,l,e,S,ms,fl.y,r+(5 - (i+1)) * VB n',arg,mk.up u5,mo,pr.y fl mf,t5.feed.m,fun LX H6 rX nL t6=>?_⟩;refine⟨_,rfl,(sz 0),fun eA hA=>?_⟩;have sA:=Zw.lay (o:=.lst []) hA;refine Zc fun _ U1=>?_;obtain⟨o',dO,dpO,hO⟩:=resD mo (by omega) (rX.same sA);refine U1 ?_;have un1:A.units+3+N2 (rD o')<cLine:=Iz (Nat.add_le_add_left dpO _) (by omega);have t7:=(t5.trans t6).same sA;rcases hO with ⟨rfl,hO⟩ | ⟨v,u,rfl,hO,iO,qO⟩
    ·exact⟨rD none,.lst [],dO,⟨eA,[],rfl,Z0.of Zz,rfl⟩,un1,_,rfl,Z5 rfl ⟨⟨_,_,_,_,_,_,rfl⟩,t7⟩⟩
    ·refine⟨rD (some u),.lst [],dO,⟨eA,[],rfl,Z0.of Zz,rfl⟩,un1,_,rfl,Yj rfl ?_⟩;refine⟨_,rfl,_,rfl,_,_,_,_,rfl,rfl,Z0.of hO,at0,(sz 3),fun p3 He=>⟨(sz 1),fun p4 hp4=>?_⟩⟩;have s3:=Zw.lay (o:=.tup [.str "arm",.int fl.n,v]) He;have s4:=Zw.lay (o:=.lst [.ref p3]) hp4;refine q p4 _ (.inr ⟨_,.tup [.str "arm",.int fl.n,u],Zz,⟨p3,_,rfl,s4.up _ _ (Yv.of Zz),_,_,rfl,rfl,_,_,rfl,rfl,_,_,rfl,Zb.up (s3.trans s4).upT _ _ iO,rfl⟩,_,es,.inl ⟨fl,mf,u,qO,rfl⟩⟩) (t7.free (s3.free hp4)) ((t7.same (s3.trans s4)).m)
   ·intro σ H5 Zkw;refine Zc fun _ Y5=>?_;obtain⟨⟨o2,o5,o6,o8,o9,o10,rfl⟩,t5⟩:=Zkw;refine Y5 ?_;refine⟨(sz 0),fun L hL=>?_⟩;exact q L _ (.inl Zz) (t5.free hL) ((t5.lay hL).m)
abbrev Vl:Stmt:=top 53
abbrev Uj:List Str:=["_law_feed_here","_law_make_here","_law_name","_law_value_here","_law_shape","_law_known","_law_numbers_here","_law_some","_law_inner"]
theorem V8:Zp Uj ["_law_feed_here","_law_make_here","_law_name","_law_value_here"] (Zv Vl):=by trivial
def WB:Nat->Nat
 | 0=>300
 | n+1=>5 * WB n+300
theorem WB_le:∀n,300<=WB n
 | 0=>Vj _
 | n+1=>by show 300<=5 * WB n+300;omega
inductive Zwh(K:W.Frag)(n:Nat)(vs:List V)(H:Hp)(Q:VK):Prop
 | mk(l e S:Addr)(ms:List (Str×Y3))(x:Str)(u:Th)(v:V)(r:Nat)(Vg:vs=[.ref l,.ref e,.str x,v])(Vk:T5 K H e S ms)(V1:Rx ms)(Jk:Wr true ms n x u)(Mn:Zb K H u v)(Wb:Fd (r+WB n) H l)(fm:∀v' u' H',Zb K H' u' v'->Wr false ms n x u'->Ve l r H H'->Q v' H')
def Wh(K:W.Frag)(n:Nat):Sp:=fun vs H Q _=>Zwh K n vs H Q
def ah(K:W.Frag):Nat->Sp
 | 0=>fun _ _ _ _=>False
 | n+1=>Wh K n
theorem S7{n:Nat}{ms:List (Str×Y3)}{y:Str}{u:Th}(h:Wr' true ms n y u):∃n',n=n'+1:=by
 cases n with
 | zero=>exact False.elim h
 | succ n'=>exact⟨n',rfl⟩
theorem Zkc{fs:List V6}(nd:(fs.map V6.n).Nodup){g:V6}(m:g∈fs):(fs.filter fun f=>decide (f.n=g.n))=[g]:=by
 show fs.filter (fun f=>decide (f.n=g.n))=[g]
 exact(by
  induction fs with
  | nil=>cases m
  | cons h fs ih =>
   rw[R5,List.nodup_cons]at nd;rcases G2.mp m with rfl | m
   ·rw[List.filter_cons,if_pos (Gq rfl)];have:fs.filter (fun f=>decide (f.n=g.n))=[]:=List.filter_eq_nil_iff.mpr fun f mf z=>nd.1 (by rw[<-ph z];exact List.mem_map_of_mem mf);rw[this]
   ·have z:¬ h.n=g.n:=fun z=>nd.1 (by rw[z];exact List.mem_map_of_mem m);rw[List.filter_cons,if_neg (by simpa using z)];exact ih nd.2 m)
theorem alw{σ:L2.St}{H:Hp}{A B:Hp->Prop}(h:A H):Jt σ H fun ok H3=>if ok=true then A H3 else B H3:=by
 show if true=true then A H else B H
 exact Yj rfl h
theorem Ej{k n:Nat}(k4:4<=k)(F:Fu K "_law_wild" Vl f fd)(m:Bn mg)(Zt:gD P w K mg base)(Nq:Fn P w K mg base 4 "_law_item" ["_law_feed_here","_law_deep"] (Zxc K 2))(Dq:Fn P w K mg base k "_law_wild" ["_law_feed_here","_law_make_here","_law_name","_law_value_here"] (ah K n)):Yn P w K mg base Je (k+1) f fd ["_law_feed_here","_law_make_here","_law_name","_law_value_here"] (Wh K n):=by
 refine F.ok V8 (fun vs H Q E h=>?_) fun _ A _ s H vs Q E hr h=>?_
 ·obtain⟨l,e,S,ms,x,u,v,r,rfl,_⟩:=h
  rfl
 obtain⟨l,e,S,ms,x,u,v,r,rfl,mk,mo,hw,iu,fe,q⟩:=h;obtain⟨sh,es,hw⟩:=hw.out;obtain⟨v0,he⟩:=mk.e;obtain⟨kvs,sv,hS,ev,isv⟩:=mk.get es
 refine⟨_,(@Zf _ _ _ _ _ (sI 4 V8.nd (@Fi _ _ _ _ _ _ (To hr) (iX Zk (pv 1) Zq) (pv 2) (fun _ _=>rfl))) (@Zf _ _ _ _ _ (qi (tQ Ym (iX Zk (pv 4) Zq) Zm) (q1 (qr (cT Yl m.tuple Yr (Zg (pC Uj (Zv Vl) ["_law_one","_law_feed_here","_law_make_here","_law_shape"] [none,some 0,some 1,some 4] (qI (pv 3)) (fun _ _ _=>(nI 0)) (fun _ _ _=>Z1) (fun _ _ _=>(cF Dq hr (Zg (pv 1) (Zg (pv 2) (Zg (iX Zk (pv 3) Zq) (Zg (pv 0) Zx))))))) Zx)))) Zd) (@Zf _ _ _ _ _ (qi (tQ Ym (iX Zk (pv 4) Zq) Zm) (q1 (qr (cT Yl m.tuple Yr (Zg (pC Uj (Zv Vl) ["_law_key","_law_one","_law_feed_here","_law_make_here","_law_shape"] [none,none,some 0,some 1,some 4] (qI (pv 3)) (fun _ _ _=>(N9 rfl (Ys (nI 0) (Ys (nI 1) Dn)))) (fun _ _ _=>Z1) (fun _ _ _=>(qt (Zg (pv 0) (Zg (cF Dq hr (Zg (pv 2) (Zg (pv 3) (Zg (iX Zk (pv 4) Zq) (Zg (pv 1) Zx))))) Zx))))) Zx)))) Zd) (@Zf _ _ _ _ _ (@J3 _ _ _ _ _ _ _ _ (tQ Ym (iX Zk (pv 4) Zq) Zm) (@Zf _ _ _ _ _ (@Ud _ 5 Uj (Zv Vl) ["_law_field","_law_one","_law_feed_here","_law_make_here"] [none,none,some 0,some 1] _ _ _ _ _ _ _ _ _ _ _ _ _ V8.nd rfl (by trivial) rfl (@zv _ _ _ _ _ _ _ _ _ rfl m.zip (Zg (iX Zk (pv 4) Zq) (Zg (iX Zk (pv 3) Zq) Zx)) (by trivial) (by trivial)) ⟨rfl,rfl,by decide +kernel,by decide +kernel⟩ (fun _ _ _=>(N9 rfl (Ys (nI 0) (Ys (nI 1) Dn)))) (fun _ _ _=>Z1) (fun _ _ _=>(cF Dq hr (Zg (pv 2) (Zg (pv 3) (Zg (iX Zk (pv 0) Zq) (Zg (pv 1) Zx)))))) (by trivial) (by trivial) (by trivial)) (@Zf _ _ _ _ _ (sI 6 V8.nd (pC Uj (Zv Vl) ["_law_field"] [none] (qI (iX Zk (pv 4) Zq)) (fun _ _ _=>(nI 0)) (fun _ _ _=>Z1) (fun _ _ _=>(iX Zk (pv 0) Zq)))) (@Zf _ _ _ _ _ (@Ud _ 7 Uj (Zv Vl) ["_law_number","_law_numbers_here","_law_feed_here"] [none,some 6,some 0] _ _ _ _ _ _ _ _ _ _ _ _ _ V8.nd rfl (by trivial) rfl (@Ni _ _ _ _ (@Yt _ _ _ _ (@Mt _ _ [1,4,7,50,100,998] rfl))) ⟨rfl,rfl,by decide +kernel,by decide +kernel⟩ (fun _ _ _=>(nI 0)) (fun _ _ _=>(@Rp _ _ _ (qp (@pw_and _ _ _ _ _ _ _ (Md Jx (pv 0) (pv 1) rfl) (@pw_and1 _ _ _ _ (tQ Ym (cF Zt hr (Zg (pv 2) (Zg Zq Zx))) Zq)))))) (fun _ _ _=>(pv 0)) (by trivial) (by trivial) (by trivial)) (q1 (qr (qt (Zg (cT Yl m.tuple Yr (Zg (pv 5) Zx)) (Zg (cT Yl m.tuple Yr (Zg (pC Uj (Zv Vl) ["_law_number","_law_feed_here"] [none,some 0] (qL (pv 7)) (fun _ _ _=>(nI 0)) (fun _ _ _=>Z1) (fun _ _ _=>(qt (Zg (pv 0) (Zg (cF Nq hr (Zg (pv 1) (Zg Zq Zx))) Zx))))) Zx)) Zx)))))))) Zd) (@Zf _ _ _ _ _ (@J3 _ _ _ _ _ _ _ _ (tQ Ym (iX Zk (pv 4) Zq) Zm) (@Zf _ _ _ _ _ (sI 6 V8.nd (pC Uj (Zv Vl) ["_law_arm"] [none] (qI (iX Zk (pv 4) Zq)) (fun _ _ _=>(nI 0)) (fun _ _ _=>Z1) (fun _ _ _=>(iX Zk (pv 0) Zq)))) (@Zf _ _ _ _ _ (@Ud _ 7 Uj (Zv Vl) ["_law_number","_law_numbers_here"] [none,some 6] _ _ _ _ _ _ _ _ _ _ _ _ _ V8.nd rfl (by trivial) rfl (@Ni _ _ _ _ (@Yt _ _ _ _ (@Mt _ _ [1,4,7,50,100,998] rfl))) ⟨rfl,rfl,by decide +kernel,by decide +kernel⟩ (fun _ _ _=>(nI 0)) (fun _ _ _=>(@Rp _ _ _ (Md Jx (pv 0) (pv 1) rfl))) (fun _ _ _=>(pv 0)) (by trivial) (by trivial) (by trivial)) (qs (qi (qp (@pw_and _ _ _ _ _ _ _ (@E8 _ _ _ (iX Zk (pv 4) Zq) (fun _=>rfl)) (@pw_and1 _ _ _ _ (tQ Ym (cF Zt hr (Zg (pv 0) (Zg Zq Zx))) Zq)))) (q1 (qr (qt (Zg Zm (Zg (iX Z2 (pv 7) (cF Zt hr (Zg (pv 0) (Zg (cB Zn m.len Vv (Zg (pv 7) Zx)) Zx)))) (Zg (cF Nq hr (Zg (pv 0) (Zg Zq Zx))) Zx)))))) Zd) (qs (@Ud _ 8 Uj (Zv Vl) ["_law_arm","_law_value_here"] [none,some 3] _ _ _ _ _ _ _ _ _ _ _ _ _ V8.nd rfl (by trivial) rfl (qI (iX Zk (pv 4) Zq)) ⟨rfl,rfl,by decide +kernel,by decide +kernel⟩ (fun _ _ _=>(nI 0)) (fun _ _ _=>(@Rp _ _ _ (tQ Ym (iX Zk (pv 0) Zq) (iX Zk (pv 1) Zq)))) (fun _ _ _=>(iX Zk (pv 0) Zq)) (by trivial) (by trivial) (by trivial)) (q1 (qr (qo F4 (@Uy _ _ _ _ _ _ _ _ _ _ B6 (pv 3) (@U8 _) (@U7 _ _ _ Zq)) (qt (Zg (cF Dq hr (Zg (pv 0) (Zg (pv 1) (Zg (iX Z2 (pv 8) Zq) (Zg (iX Zk (pv 3) Zq) Zx))))) Zx))))))))) Zd) (q1 (qr (pv 3)))))))), ?_⟩
 have uN:A.units+3+16 * k+200<cLine:=hr.un;have shk:=mo.ok x sh es;have wb:=WB_le n;refine⟨_,rfl,e,_,_,_,rfl,rfl,he,Jy,_,rfl,S,_,rfl,(show Nl H S (kV (.inr x)) (some sv) from ev ▸ E7 hS (.inr x)), ?_⟩;have yq:=isv;cases sh with
 | whole lo hi =>
  refine Zc fun _ Y5=>?_;obtain⟨a,ws,rfl,ha,at'⟩:=isv;obtain⟨w1,w2,w3,rfl,i1,i2,i3⟩:=Mu at';cases Zr i1;refine Y5 ?_
  iterate 4 refine⟨_,rfl,a,_,_,_,rfl,rfl,ha,at0,rfl,_,rfl,iN ?_⟩
  exact⟨_,rfl,q v u H iu (Wr.of es hw) ((Ve.refl fe).m)⟩
 | truth =>
  refine Zc fun _ Vm=>?_;obtain⟨a,ws,rfl,ha,at'⟩:=isv;obtain⟨w1,rfl,i1⟩:=A7 at';cases Zr i1;refine Vm ?_
  iterate 4 refine⟨_,rfl,a,_,_,_,rfl,rfl,ha,at0,rfl,_,rfl,iN ?_⟩
  exact⟨_,rfl,q v u H iu (Wr.of es hw) ((Ve.refl fe).m)⟩
 | text nn =>
  refine Zc fun _ Vh=>?_;obtain⟨a,ws,rfl,ha,at'⟩:=isv;obtain⟨w1,w2,rfl,i1,i2⟩:=A6 at';cases Zr i1;refine Vh ?_
  iterate 4 refine⟨_,rfl,a,_,_,_,rfl,rfl,ha,at0,rfl,_,rfl,iN ?_⟩
  exact⟨_,rfl,q v u H iu (Wr.of es hw) ((Ve.refl fe).m)⟩
 | row b y nn =>
  refine Zc fun _ Vs=>?_;obtain⟨a,ws,rfl,ha,at'⟩:=isv;obtain⟨w1,w2,w3,rfl,i1,i2,i3⟩:=Mu at';cases Zr i2;refine Vs ?_;cases b with
  | true =>
   refine Zc fun _ Vu=>?_;obtain⟨l0,l3,ln,hl,rfl⟩:=hw;cases Zr i1;obtain⟨pa,xs,rfl,fg,axs⟩:=iu;refine Vu ?_;refine⟨_,rfl,a,_,_,_,rfl,rfl,ha,at0,rfl,_,rfl,iY ?_⟩;refine⟨_,rfl,pa,rfl,⟨_,fg⟩,fun D fp sx hD=>?_⟩;have nDl:D≠l:=fe.ne hD;have lx:xs.length=l0.length:=by rw[<-axs.length,Yp]
   refine D6 (K:=K) (xs:=xs) (fun i ys σ H5=>(∃o1,σ=[o1,some (.ref l),some (.ref e),some (.ref a)])/\Ve l (r+(3 - i) * (WB n / 5)) H H5/\H5 D=some (.lst ys)/\∃l1:List B1,l1.map B1.k=(l0.take i).map B1.k/\(∀e∈l1,e.k∈Gx/\Wr' false ms n y e.u)/\Zy K H5 (l1.map B1.u) ys)
    ⟨⟨_,rfl⟩,((Ve.refl fe).lay hD).m,Zz,[],rfl,fun e m=>absurd m U6,rfl⟩ ?_ ?_ ?_
   ·intro i ys σ H5 hi xf;refine Zc fun _ Ug=>?_;obtain⟨_,t5,h5,_⟩:=xf;refine Ug ?_;exact⟨(t5.upT (K:=K) fe).tup _ _ fg,h5⟩
   ·intro i xv ys σ H5 hx xg;refine Zc fun _ Uk=>?_;obtain⟨⟨o1,rfl⟩,t5,h5,l1,le,Ax,a1⟩:=xg;have hi:i<l0.length:=by rw[<-lx];exact(Q8.mp hx).1
    obtain⟨t,et,it⟩:=axs.got hx;rw[Ma]at et;obtain⟨en,ee,rfl⟩:=Qe.mp et;obtain⟨hk,hwn⟩:=hl en (Ow ee);obtain⟨n',rfl⟩:=S7 hwn;refine Uk ?_;have wbe:WB (n'+1)=5 * WB n'+300:=rfl;have wb6:WB n'<=WB (n'+1) / 5:=by omega
    generalize WB (n'+1) / 5=vd at *;have eb:(3 - i) * vd=(3 - (i+1)) * vd+vd:=Ap (by omega);have u5:=t5.upT (K:=K) fe;refine V2 ?_;refine⟨_,rfl,_,rfl,_,rfl,a,_,_,_,rfl,rfl,u5.tup _ _ ha,Jy,_,rfl,l,e,S,ms,y,en.u,xv,r+(3 - (i+1)) * vd,rfl,mk.up u5,mo,hwn,Zb.up u5 _ _ it,t5.feed.m,fun v' u' H6 iv hw6 t6=>?_⟩;have t7:=t5.trans t6;have h7:=t6.keep _ _ nDl h5;have u7:Mz K H5 _:=t6.upT (K:=K) t5.feed;have i7:=iv;refine⟨h7, ?_,⟨_,rfl⟩,t7.put hD (fe.far hD),Zz,l1++[⟨en.k,u'⟩],by rw[Gj,le,Zs ee,Gj];rfl,fun z mz=>?_, ?_⟩
    ·have:=congrArg List.length le;rw[Yp,Yp,T1]at this;rw[<-a1.length,Yp];exact Yi (by omega)
    ·rcases T6.mp mz with mz | mz
     ·exact Ax z mz
     ·rw[N6.mp mz];exact⟨hk,hw6⟩
    ·rw[Gj];have uS:Mz K _ (Yq _ D (.lst (ys++[v']))):=Y8 h7;exact Zy.append (Zy.up (u7.trans uS) _ _ a1) (Zy.one (Zb.up uS _ _ i7))
   ·intro ys σ H5 K0;refine Zc fun _ U1=>?_;obtain⟨_,t5,h5,l1,le,Ax,a1⟩:=K0;refine U1 ?_;refine⟨D,ys,rfl,.inl ⟨Z0.of h5,fun p3 He=>?_⟩⟩;have s3:=Zw.lay (o:=.tup ys) He;rw[Xt (by omega)]at le;have ll:=congrArg List.length le;rw[Yp,Yp]at ll;exact q _ (.tup (l1.map B1.u)) _ ⟨p3,ys,rfl,Yv.of Zz,Zy.up s3.upT _ _ a1⟩ (Wr.of es ⟨l1,by omega,by omega,Ax,rfl⟩) ((t5.same s3).m)
  | false =>
   refine Zc fun _ Y5=>?_;obtain⟨l0,l3,ln,hl,up,rfl⟩:=hw;cases Zr i1;obtain⟨pa,xs,rfl,fg,axs⟩:=iu;refine Y5 ?_;refine⟨_,rfl,a,_,_,_,rfl,rfl,ha,at0,rfl,_,rfl,iN ?_⟩;refine⟨_,rfl,a,_,_,_,rfl,rfl,ha,at0,rfl,_,rfl,iY ?_⟩;refine⟨_,rfl,pa,rfl,⟨_,fg⟩,fun D fp sx hD=>?_⟩;have nDl:D≠l:=fe.ne hD;have lx:xs.length=l0.length:=by rw[<-axs.length,Yp]
   refine D6 (K:=K) (xs:=xs) (fun i ys σ H5=>(∃o1 o2,σ=[o1,o2,some (.ref l),some (.ref e),some (.ref a)])/\Ve l (r+(3 - i) * (WB n / 5)) H H5/\H5 D=some (.lst ys)/\∃l1:List B1,l1.map B1.k=(l0.take i).map B1.k/\(∀e∈l1,e.k∈Gx/\Wr' false ms n y e.u)/\Zy K H5 (l1.map B1.t) ys)
    ⟨⟨_,_,rfl⟩,((Ve.refl fe).lay hD).m,Zz,[],rfl,fun e m=>absurd m U6,rfl⟩ ?_ ?_ ?_
   ·intro i ys σ H5 hi K5;refine Zc fun _ Vm=>?_;obtain⟨_,t5,h5,_⟩:=K5;refine Vm ?_;exact⟨(t5.upT (K:=K) fe).tup _ _ fg,h5⟩
   ·intro i xv ys σ H5 hx K4;refine Zc fun _ Vh=>?_;obtain⟨⟨o1,o2,rfl⟩,t5,h5,l1,le,Ax,a1⟩:=K4;have hi:i<l0.length:=by rw[<-lx];exact(Q8.mp hx).1
    obtain⟨t,et,it⟩:=axs.got hx;rw[Ma]at et;obtain⟨en,ee,rfl⟩:=Qe.mp et;obtain⟨hk,hwn⟩:=hl en (Ow ee);obtain⟨n',rfl⟩:=S7 hwn;refine Vh ?_;have wbe:WB (n'+1)=5 * WB n'+300:=rfl;have wb6:WB n'<=WB (n'+1) / 5:=by omega
    generalize WB (n'+1) / 5=vd at *;have eb:(3 - i) * vd=(3 - (i+1)) * vd+vd:=Ap (by omega);have u5:=t5.upT (K:=K) fe;refine Zc fun _ Vs=>?_;obtain⟨pb,zs,rfl,hpb,azs⟩:=Zb.up u5 _ _ it;obtain⟨z1,z2,rfl,k1,k2⟩:=A6 azs;cases Zr k1;refine Vs ?_;refine⟨pb,_,rfl,hpb,rfl,_,_,rfl,_,_,rfl,rfl, ?_⟩;refine alw ?_;refine⟨_,rfl,_,rfl,_,rfl,_,rfl,a,_,_,_,rfl,rfl,u5.tup _ _ ha,Jy,_,rfl,l,e,S,ms,y,en.u,z2,r+(3 - (i+1)) * vd,rfl,mk.up u5,mo,hwn,k2,t5.feed.m,fun v' u' H6 iv hw6 t6=>⟨(sz 2),fun e2 h2=>?_⟩⟩;have s2:=Zw.lay (o:=.tup [.str en.k,v']) h2;have t7:=(t5.trans t6).same s2;have h7:=s2 _ _ (t6.keep _ _ nDl h5);have u7:Mz K H5 _:=(t6.upT (K:=K) t5.feed).trans s2.upT;have i7:Zb K _ (.tup [.str en.k,u']) (.ref e2):=⟨e2,_,rfl,Yv.of Zz,_,_,rfl,rfl,_,_,rfl,Zb.up s2.upT _ _ iv,rfl⟩;refine⟨h7, ?_,⟨_,_,rfl⟩,t7.put hD (fe.far hD),Zz,l1++[⟨en.k,u'⟩],by rw[Gj,le,Zs ee,Gj];rfl,fun z mz=>?_, ?_⟩
    ·have:=congrArg List.length le;rw[Yp,Yp,T1]at this;rw[<-a1.length,Yp];exact Yi (by omega)
    ·rcases T6.mp mz with mz | mz
     ·exact Ax z mz
     ·rw[N6.mp mz];exact⟨hk,hw6⟩
    ·rw[Gj];have uS:Mz K _ (Yq _ D (.lst (ys++[.ref e2]))):=Y8 h7;exact Zy.append (Zy.up (u7.trans uS) _ _ a1) (Zy.one (Zb.up uS _ _ i7))
   ·intro ys σ H5 Zkg;refine Zc fun _ Vu=>?_;obtain⟨_,t5,h5,l1,le,Ax,a1⟩:=Zkg;refine Vu ?_;refine⟨D,ys,rfl,.inl ⟨Z0.of h5,fun p3 He=>?_⟩⟩;have s3:=Zw.lay (o:=.tup ys) He;rw[Xt (by omega)]at le;have ll:=congrArg List.length le;rw[Yp,Yp]at ll;exact q _ (.tup (l1.map B1.t)) _ ⟨p3,ys,rfl,Yv.of Zz,Zy.up s3.upT _ _ a1⟩ (Wr.of es ⟨l1,by omega,by omega,Ax,by rw[le];exact up,rfl⟩) ((t5.same s3).m)
 | rcd fs us =>
  refine Zc fun _ Ug=>?_;obtain⟨l0,os,rfl,hl,ho,rfl⟩:=hw;have pr:Us ms (l0.map Nb.f):=shk;have l5:l0.length<=5:=by have:=pr.len;rw[Yp]at this;exact this
  obtain⟨a,ws,rfl,ha,at'⟩:=isv;obtain⟨w1,w2,w3,rfl,i1,i2,i3⟩:=Mu at';cases Zr i1;obtain⟨fa,fws,rfl,O1,afs⟩:=i2;obtain⟨pa,xs,rfl,fg,axs⟩:=iu;obtain⟨z1,z2,rfl,k1,k2⟩:=A6 axs;obtain⟨ka,kx,rfl,hka,akx⟩:=k1;refine Ug ?_;have lfw:fws.length=l0.length:=by rw[<-afs.length,Yp,Yp]
  have lkx:kx.length=l0.length:=by rw[<-akx.length,Yp]
  iterate 2 refine⟨_,rfl,a,_,_,_,rfl,rfl,ha,at0,rfl,_,rfl,iN ?_⟩
  refine⟨_,rfl,a,_,_,_,rfl,rfl,ha,at0,rfl,_,rfl,iY ?_⟩;refine⟨_,rfl,a,_,_,_,rfl,rfl,ha,Jy,_,rfl,pa,_,_,_,rfl,rfl,fg,at0,fa,ka,rfl,⟨_,O1⟩,⟨_,hka⟩,fun D fp sx hD=>?_⟩;have nDl:D≠l:=fe.ne hD
  refine P7 (K:=K) (xs:=fws) (ys:=kx) (fun i ys σ H5=>(∃o1 o2,σ=[o1,o2,some (.ref l),some (.ref e)])/\Ve l (r+300+(5 - i) * ((WB n - 300) / 5)) H H5/\H5 D=some (.lst ys)/\∃l1:List Nb,l1.map Nb.f=(l0.map Nb.f).take i/\(∀t∈l1,Wr' false ms n t.f.y t.u)/\Zy K H5 (l1.map Nb.u) ys)
   ⟨⟨_,_,rfl⟩,((Ve.refl fe).lay hD).m,Zz,[],rfl,fun e m=>absurd m U6,rfl⟩ ?_ ?_ ?_
  ·intro i ys σ H5 hi K3;refine Zc fun _ Uk=>?_;obtain⟨_,t5,h5,_⟩:=K3;refine Uk ?_;have u5:=t5.upT (K:=K) fe;exact⟨u5.tup _ _ O1,u5.tup _ _ hka,h5⟩
  ·intro i xv yv p ys σ H5 hx hy yt hpn;refine Zc fun _ U1=>?_;obtain⟨⟨o1,o2,rfl⟩,t5,h5,l1,le,Ax,a1⟩:=yt;have hi:i<l0.length:=by rw[<-lfw];exact(Q8.mp hx).1
   obtain⟨t,et,it⟩:=afs.got hx;rw[Ma,Ma]at et
   obtain⟨en,ee,rfl⟩:∃en,l0[i]?=some en/\en.f.t=t:=by
    cases z:l0[i]? with
    | none=>rw[z]at et;cases et
    | some en=>rw[z]at et;exact⟨en,rfl,Hn et⟩
   obtain⟨t2,et2,iu⟩:=akx.got hy;refine U1 ?_;rw[Ma,ee]at et2;cases et2;have hwn:=hl en (Ow ee);refine Zc fun _ Y5=>?_;obtain⟨n',rfl⟩:=S7 hwn;refine Y5 ?_;have wbe:WB (n'+1)=5 * WB n'+300:=rfl;have wb6:WB n'=(WB (n'+1) - 300) / 5:=by omega
   rw[<-wb6]at t5 ⊢;have eb:(5 - i) * WB n'=(5 - (i+1)) * WB n'+WB n':=Ap (by omega);have sP:=Zw.lay (o:=.tup [xv,yv]) hpn;have t6:=t5.same sP;have u6:=t6.upT (K:=K) fe;refine Zc fun _ Vm=>?_;obtain⟨b,bs,rfl,hb,ab⟩:=it;obtain⟨b1,b2,b3,b4,rfl,j1,j2,j3,j4⟩:=A5 ab;cases Zr j3;refine Vm ?_;refine⟨p,_,rfl,Yv.of Zz,rfl,_,_,rfl,_,_,rfl,rfl, ?_⟩;refine alw ?_;refine⟨_,rfl,_,rfl,_,rfl,b,_,_,_,rfl,rfl,u6.tup _ _ hb,Oz,_,rfl,l,e,S,ms,en.f.y,en.u,yv,r+300+(5 - (i+1)) * WB n',rfl,mk.up u6,mo,hwn,Zb.up u6 _ _ iu,t6.feed.m,fun v' u' H7 iv hw7 t7=>?_⟩;have h7:=t7.keep _ _ nDl (sP _ _ h5);have u7:Mz K H5 H7:=sP.upT.trans (t7.upT (K:=K) t6.feed);refine⟨h7, ?_,⟨_,_,rfl⟩,(t6.trans t7).put hD (fe.far hD),Zz,l1++[⟨en.f,u'⟩], ?_,fun z mz=>?_, ?_⟩
   ·have:=congrArg List.length le;rw[Yp,T1,Yp]at this;rw[<-a1.length,Yp];exact Yi (by omega)
   ·rw[Gj,le,Zs (x:=en.f) (by rw[Ma,ee];rfl)];rfl
   ·rcases T6.mp mz with mz | mz
    ·exact Ax z mz
    ·rw[N6.mp mz];exact hw7
   ·rw[Gj];have uS:Mz K _ (Yq _ D (.lst (ys++[v']))):=Y8 h7;exact Zy.append (Zy.up (u7.trans uS) _ _ a1) (Zy.one (Zb.up uS _ _ iv))
  ·intro ys σ H5 ym;refine Zc fun _ Vh=>?_;obtain⟨⟨o1,o2,rfl⟩,t5,h5,l1,le,Ax,a1⟩:=ym;refine Vh ?_;have t5:=t5.mono (r':=r+300) (by omega);rw[lfw,lkx,Nat.min_self,Xt (by rw[Yp];exact Vj _)]at le;have u5:=t5.upT (K:=K) fe;have f5:=Zy.up u5 _ _ afs;refine⟨_,rfl,a,_,_,_,rfl,rfl,u5.tup _ _ ha,Jy,fa,rfl,⟨_,u5.tup _ _ O1⟩,fun D2 fp2 sx2 Ek=>?_⟩;refine Ub (f:=Kt) (u5.tup _ _ O1) f5 (by rw[Yp,Yp];omega) Ek (fun t v H5 Q5 mt s5 i5 q5=>?_) fun H6 w6 s6 h6 a6=>?_
   ·refine Zc fun _ Vs=>?_;obtain⟨fl,mfl,rfl⟩:=Dp.mp mt;obtain⟨b,bs,rfl,hb,y1,yr,rfl,iy,_⟩:=i5;refine Vs ?_;exact⟨_,rfl,b,_,_,_,rfl,rfl,hb,at0,q5 y1 H5 (Zw.refl H5) iy⟩
   rw[(C3 (l0.map Nb.f)).1]at a6;have ew:=B0 a6;subst ew;have t6:=t5.same s6;have nD2l:D2≠l:=t5.feed.ne Ek;refine⟨(sz 6),fun L hL=>⟨L,rfl,⟨_,Z0.of Zz⟩,fun D3 fp3 sx3 hD3=>?_⟩⟩;have sL:=Zw.lay (o:=.lst (Xc.map V.int)) hL;have t7:=t6.same sL;have nLl:L≠l:=t6.feed.ne hL;have nD3l:D3≠l:=t7.feed.ne hD3;have h7D2:=sL _ _ h6;have h7D:=sL _ _ (s6 _ _ h5);have h7L:Yq H6 L (.lst (Xc.map V.int)) L=some (.lst (Xc.map V.int)):=Zz
   refine Jw (K:=K) (xs:=Xc.map V.int) (fun i ys σ H8=>(∃o,σ=[o,some (.ref D2),some (.ref l)])/\(∃ns:List Int,ys=ns.map V.int/\ns.Sublist (Xc.take i)/\∀u∈ns,u ∉ (l0.map Nb.f).map V6.n)/\Ve l (r+280+(6 - i)) (Yq H6 L (.lst (Xc.map V.int))) H8/\H8 D3=some (.lst ys))
    ⟨⟨_,rfl⟩,⟨[],rfl,.slnil,fun u mu=>absurd mu U6⟩,((Ve.refl t7.feed).lay hD3).m,Zz⟩ ?_ ?_ ?_
   ·intro i ys σ H8 hi Zky;refine Zc fun _ Vu=>?_;obtain⟨_,_,t8,h8⟩:=Zky;refine Vu ?_;exact⟨Z0.of (t8.keep _ _ nLl h7L),h8⟩
   ·intro i xv ys σ H8 hx Zkv;refine Zc fun _ Ug=>?_;obtain⟨⟨o,rfl⟩,⟨ns,rfl,sb,nn⟩,t8,h8⟩:=Zkv;rw[Ma]at hx;obtain⟨nb,en,rfl⟩:=Qe.mp hx;refine Ug ?_;have hi:i<6:=(Q8.mp en).1;have tm:=Zs en;refine Zqa ?_;refine⟨_,rfl,_,rfl,D2,_,rfl,.inl (Z0.of (t8.keep _ _ nD2l h7D2)),rfl,Ro _,_,rfl, ?_⟩;show if (!z9 (.int nb) (((l0.map Nb.f).map V6.n).map V.int))=true then _ else _
    rw[Qj];refine Vw (fun cm=>?_) (fun cm=>?_)
    ·have cm':nb ∉ (l0.map Nb.f).map V6.n:=by simpa using cm
     refine⟨_,rfl,l,3,r+280+(6 - (i+1)),rfl,t8.feed.m,by decide,by decide,fun z H9 z0 z1 t9=>?_⟩;have h9:=t9.keep _ _ nD3l h8;refine⟨rfl,_,rfl, ?_⟩;refine Vw (fun c=>?_) (fun c=>?_)
     ·refine⟨_,rfl,h9, ?_,⟨_,rfl⟩,⟨ns++[nb],by rw[Gj];rfl, ?_, ?_⟩,(t8.trans t9).put hD3 (t7.feed.far hD3),Zz⟩
      ·have:=sb.length_le;rw[T1]at this;rw[Yp];exact Yi (by omega)
      ·rw[tm];exact sb.append (List.Sublist.refl _)
      ·intro u mu;rcases T6.mp mu with mu | mu
       ·exact nn u mu
       ·rw[N6.mp mu];exact cm'
     ·exact⟨⟨_,rfl⟩,⟨ns,rfl,by rw[tm];exact sb.trans (List.sublist_append_left _ _),nn⟩,t8.trans t9,h9⟩
    ·exact⟨⟨_,rfl⟩,⟨ns,rfl,by rw[tm];exact sb.trans (List.sublist_append_left _ _),nn⟩,t8.m,h8⟩
   ·intro ys' σ H8 hI23_;refine Zc fun _ Uk=>?_;obtain⟨⟨o,rfl⟩,⟨ns,rfl,sb,nn⟩,t8,h8⟩:=hI23_;refine Uk ?_;have sb:ns.Sublist Xc:=sb.trans (List.take_sublist _ _);have ln:ns.length<=6:=sb.length_le;have t8:=t8.mono (r':=r+280) (by omega);have h8D:=t8.keep _ _ nDl h7D;refine⟨_,rfl,D,ys,rfl,.inl ⟨Z0.of h8D,fun p1 fb=>?_⟩⟩;have s9:=Zw.lay (o:=.tup ys) fb;have t9:=(t7.trans t8).same s9;have u9:Mz K H5 _:=(s6.trans sL).upT.trans ((t8.upT (K:=K) t7.feed).trans s9.upT);have a9:=Zy.up u9 _ _ a1;have h9:=s9 _ _ h8;have hp9:Yq H8 p1 (.tup ys) p1=some (.tup ys):=Zz;refine⟨_,rfl,D3,rfl,⟨_,Z0.of h9⟩,fun D4 fp4 sx4 hD4=>?_⟩;have nD4l:D4≠l:=t9.feed.ne hD4
    refine Jw (K:=K) (xs:=ns.map V.int) (fun i zs σ H10=>(∃o,σ=[o,some (.ref l)])/\Ve l (r+(6 - i) * IB 2) (Yq H8 p1 (.tup ys)) H10/\H10 D4=some (.lst zs)/\∃qs:List (Int×Th),qs.map (·.1)=ns.take i/\(∀q∈qs,jx 60 7 q.2)/\Zy K H10 (qs.map om) zs)
     ⟨⟨_,rfl⟩,((Ve.refl t9.feed).lay hD4).mono (by show r+6 * IB 2<=_;rw[show IB 2=30 from rfl];omega),Zz,[],rfl,fun q m=>absurd m U6,rfl⟩ ?_ ?_ ?_
    ·intro i zs σ H10 hi hI24_;refine Zc fun _ U1=>?_;obtain⟨_,Ig,Eg,_⟩:=hI24_;refine U1 ?_;exact⟨Z0.of (Ig.keep _ _ nD3l h9),Eg⟩
    ·intro i xv zs σ H10 hx Zkw;refine Zc fun _ Y5=>?_;obtain⟨⟨o,rfl⟩,Ig,Eg,qs,eq,gq,aq⟩:=Zkw;rw[Ma]at hx;obtain⟨nb,en,rfl⟩:=Qe.mp hx;refine Y5 ?_;have hi:i<ns.length:=(Q8.mp en).1;have eb:(6 - i) * IB 2=(6 - (i+1)) * IB 2+IB 2:=Ap (by omega);refine V2 ?_;refine⟨_,rfl,_,rfl,l,r+(6 - (i+1)) * IB 2,rfl,Ig.feed.m,fun v' u' H11 iv gv Ik=>⟨(sz 2),fun e2 h2=>?_⟩⟩;have Bm:=Zw.lay (o:=.tup [.int nb,v']) h2;have h12:=Bm _ _ (Ik.keep _ _ nD4l Eg);have u12:Mz K H10 _:=(Ik.upT (K:=K) Ig.feed).trans Bm.upT;refine⟨h12, ?_,⟨_,rfl⟩,((Ig.trans Ik).same Bm).put hD4 (t9.feed.far hD4),Zz,qs++[(nb,u')], ?_,fun z mz=>?_, ?_⟩
     ·rw[<-aq.length,Yp, <-Yp (·.1),eq,T1];exact Yi (by omega)
     ·rw[Gj,eq,Zs en];rfl
     ·rcases T6.mp mz with mz | mz
      ·exact gq z mz
      ·rw[N6.mp mz];exact gv.mono (by decide) (by decide)
     ·rw[Gj];have uS:Mz K _ (Yq _ D4 (.lst (zs++[.ref e2]))):=Y8 h12;exact Zy.append (Zy.up (u12.trans uS) _ _ aq) (Zy.one (Zb.up uS _ _ ⟨e2,_,rfl,Yv.of Zz,_,_,rfl,rfl,_,_,rfl,Zb.up Bm.upT _ _ iv,rfl⟩))
    ·intro zs σ H10 hI26_;refine Zc fun _ Vm=>?_;obtain⟨_,Ig,Eg,qs,eq,gq,aq⟩:=hI26_;refine Vm ?_;rw[Xt (by rw[Yp];exact Vj _)]at eq;refine⟨D4,zs,rfl,.inl ⟨Z0.of Eg,fun p2 Az=>⟨(sz 2),fun p3 He=>?_⟩⟩⟩;have s11:=Zw.lay (o:=.tup zs) Az;have Bm:=Zw.lay (o:=.tup [.ref p1,.ref p2]) He;have u10:Mz K _ H10:=Ig.upT (K:=K) t9.feed;have uE:=u10.trans (s11.trans Bm).upT
     have oth:OsOk false (l1.map Nb.f) qs:=by
      refine⟨fun z=>(nomatch z),by rw[eq];exact sb,fun o mo'=>?_⟩;have mn:o.1∈ns:=by rw[<-eq];exact List.mem_map_of_mem mo'
      exact⟨by rw[le];exact nn _ mn,gq o mo'⟩
     have hwn:VW (Wr' false ms n) false (.rcd (l1.map Nb.f) us) (.tup [.tup (l1.map Nb.u),.tup (qs.map om)]):=⟨l1,qs,rfl,Ax,oth,rfl⟩;rw[le]at hwn;refine q _ (.tup [.tup (l1.map Nb.u),.tup (qs.map om)]) _ ⟨p3,_,rfl,Yv.of Zz,_,_,rfl,⟨p1,ys,rfl,uE.tup _ _ (Yv.of hp9),Zy.up uE _ _ a9⟩,_,_,rfl,⟨p2,zs,rfl,Bm.up _ _ (Yv.of Zz),Zy.up (s11.trans Bm).upT _ _ aq⟩,rfl⟩ (Wr.of es hwn) (((t9.trans Ig).same (s11.trans Bm)).m)
 | cho fs us o =>
  have pr:Us ms fs:=shk.1;have nd:(fs.map V6.n).Nodup:=List.Nodup.sublist pr.nums (by decide);have l5:=pr.len;refine Zc fun _ Vh=>?_;obtain⟨a,ws,rfl,ha,at'⟩:=isv;obtain⟨w1,w2,w3,w4,rfl,i1,i2,i3,i4⟩:=A5 at';cases Zr i1;cases Zr i4;obtain⟨fa,fws,rfl,O1,afs⟩:=i2
  obtain⟨g,mg',u',hw',rfl⟩:∃f∈fs,∃u',Wr' true ms n f.y u'/\u=.tup [.str "arm",.int f.n,u']:=by
   rcases hw with hw | ⟨z,_⟩
   ·exact hw
   ·cases z
  obtain⟨n',rfl⟩:=S7 hw';have wbe:WB (n'+1)=5 * WB n'+300:=rfl;obtain⟨pa,xs,rfl,fg,axs⟩:=iu;obtain⟨z1,z2,z3,rfl,k1,k2,k3⟩:=Mu axs;cases Zr k1;cases Zr k2;refine Vh ?_
  iterate 3 refine⟨_,rfl,a,_,_,_,rfl,rfl,ha,at0,rfl,_,rfl,iN ?_⟩
  refine⟨_,rfl,a,_,_,_,rfl,rfl,ha,at0,rfl,_,rfl,iY ?_⟩;refine⟨_,rfl,a,_,_,_,rfl,rfl,ha,Jy,fa,rfl,⟨_,O1⟩,fun D2 fp2 sx2 Ek=>?_⟩;refine Ub (f:=Kt) O1 afs (by rw[Yp];omega) Ek (fun t v H5 Q5 mt s5 i5 q5=>?_) fun H6 w6 s6 h6 a6=>?_
  ·refine Zc fun _ Vs=>?_;obtain⟨fl,mfl,rfl⟩:=Dp.mp mt;obtain⟨b,bs,rfl,hb,y1,yr,rfl,iy,_⟩:=i5;refine Vs ?_;exact⟨_,rfl,b,_,_,_,rfl,rfl,hb,at0,q5 y1 H5 (Zw.refl H5) iy⟩
  rw[(C3 fs).2]at a6;have ew:=B0 a6;subst ew;refine⟨(sz 6),fun L hL=>⟨L,rfl,⟨_,Z0.of Zz⟩,fun D3 fp3 sx3 hD3=>?_⟩⟩;have sL:=Zw.lay (o:=.lst (Xc.map V.int)) hL;have h7D2:=sL _ _ h6;have h7L:Yq H6 L (.lst (Xc.map V.int)) L=some (.lst (Xc.map V.int)):=Zz;refine Jw (K:=K) (xs:=Xc.map V.int) (fun i ys σ H8=>(∃o,σ=[o,some (.ref D2)])/\ys=((Xc.take i).filter fun z=>decide (z ∉ fs.map V6.n)).map V.int/\Zw (Yq H6 L (.lst (Xc.map V.int))) H8/\H8 D3=some (.lst ys)) ⟨⟨_,rfl⟩,rfl,Zw.lay hD3,Zz⟩ ?_ ?_ ?_
  ·intro i ys σ H8 hi hI29_;refine Zc fun _ Vu=>?_;obtain⟨_,_,s8,h8⟩:=hI29_;refine Vu ?_;exact⟨Z0.of (s8 _ _ h7L),h8⟩
  ·intro i xv ys σ H8 hx hI30_;refine Zc fun _ Ug=>?_;obtain⟨⟨o,rfl⟩,ey,s8,h8⟩:=hI30_;rw[Ma]at hx;obtain⟨nb,en,rfl⟩:=Qe.mp hx;refine Ug ?_;have hi:i<6:=(Q8.mp en).1;refine Zqa ?_;refine⟨_,rfl,_,rfl,D2,_,rfl,.inl (Z0.of (s8 _ _ h7D2)),rfl,Ro _,_,rfl, ?_⟩;show if (!z9 (.int nb) ((fs.map V6.n).map V.int))=true then _ else _
   rw[Qj];refine Vw (fun cm=>?_) (fun cm=>?_)
   ·have cm':nb ∉ fs.map V6.n:=by simpa using cm
    refine⟨_,rfl,h8, ?_,⟨_,rfl⟩, ?_,s8.put hD3,Zz⟩
    ·rw[ey,Yp];exact Yi (Gw (List.length_filter_le _ _) (by rw[T1];omega))
    ·rw[Zs en,List.filter_append,Gj, <-ey,List.filter_cons,if_pos (Gq cm')];rfl
   ·have cm':¬ nb ∉ fs.map V6.n:=by simpa using cm
    refine⟨⟨_,rfl⟩, ?_,s8,h8⟩;rw[Zs en,List.filter_append,Gj, <-ey,List.filter_cons,if_neg (by simpa using cm')];exact(List.append_nil _).symm
  ·intro ys σ H8 hI31_;refine Zc fun _ Uk=>?_;obtain⟨⟨o',rfl⟩,ey,s8,h8⟩:=hI31_;refine Uk ?_;rw[Xt (by decide)]at ey;have s68:=s6.trans (sL.trans s8);have t8:=(Ve.refl fe).same s68;have ha8:=s68.up _ _ ha;have hpa8:=s68.up _ _ fg
   have ne:1<=(Xc.filter fun z=>decide (z ∉ fs.map V6.n)).length:=by
    have m4:(4:Int)∈Xc.filter fun z=>decide (z ∉ fs.map V6.n):=List.mem_filter.mpr ⟨by decide,Gq fun z=>absurd (pr.nums.subset z) (by decide)⟩;exact List.length_pos_of_mem m4
   have l6:(Xc.filter fun z=>decide (z ∉ fs.map V6.n)).length<=6:=List.length_filter_le _ _;refine Zvk (fun σ' HT=>(∃o5 o6 o7 o8,σ'=[some (.ref l),some (.ref e),some (.str x),some (.ref pa),some (.ref a),o5,o6,o7,o8])/\Ve l (r+WB n') H HT) ?_ fun M hM=>?_
   ·intro σ' HT hI32_;refine Zc fun _ U1=>?_;obtain⟨⟨o5,o6,o7,o8,rfl⟩,tT⟩:=hI32_;refine U1 ?_;have uT:=tT.upT (K:=K) fe;have haT:=uT.tup _ _ ha;have hpaT:=uT.tup _ _ fg;have hfaT:=uT.tup _ _ O1;have afT:=Zy.up uT _ _ afs;refine⟨_,rfl,a,_,_,_,rfl,rfl,haT,Jy,fa,rfl,⟨_,hfaT⟩,fun D5 fp5 sx5 hD5=>?_⟩;refine D6 (K:=K) (xs:=fws) (fun i ys σ H5=>(∃o,σ=[o,some (.ref pa)])/\ys=((fs.take i).filter fun f=>decide (f.n=g.n)).map (fun f=>V.str f.y)/\Zw _ H5/\H5 D5=some (.lst ys)) ⟨⟨_,rfl⟩,rfl,Zw.lay hD5,Zz⟩ ?_ ?_ ?_
    ·intro i ys σ H5 hi hI33_;refine Zc fun _ Y5=>?_;obtain⟨_,_,g5,h5⟩:=hI33_;refine Y5 ?_;exact⟨g5.up _ _ hfaT,h5⟩
    ·intro i x ys σ H5 hx hI34_;refine Zc fun _ Vm=>?_;obtain⟨⟨o,rfl⟩,ey,g5,h5⟩:=hI34_;obtain⟨t,et,it⟩:=afT.got hx;rw[Ma]at et;obtain⟨fl,ef,rfl⟩:=Qe.mp et;obtain⟨b,bs,rfl,hb,ab⟩:=Zb.up g5.upT _ _ it;obtain⟨b1,b2,b3,rfl,j1,j2,j3⟩:=Mu ab;cases Zr j1;cases Zr j3;refine Vm ?_;refine Zqa ?_;refine⟨_,rfl,b,_,_,_,rfl,rfl,hb,at0,_,rfl,pa,_,_,_,rfl,rfl,g5.up _ _ hpaT,Jy,rfl,_,rfl, ?_⟩;refine Vw (fun c=>?_) (fun c=>?_)
     ·have c:fl.n=g.n:=by injection ph c
      refine⟨_,rfl,b,_,_,_,rfl,rfl,hb,Oz,h5, ?_,⟨_,rfl⟩, ?_,g5.put hD5,Zz⟩
      ·rw[ey,Yp];exact Yi (Gw (List.length_filter_le _ _) (by rw[T1];omega))
      ·rw[Zs ef,List.filter_append,Gj, <-ey];simp[c]
     ·have c:¬ fl.n=g.n:=fun z=>c (by rw[z];exact Gq rfl);refine⟨⟨_,rfl⟩, ?_,g5,h5⟩;rw[Zs ef,List.filter_append,Gj, <-ey];simp[c]
    ·intro ys σ H5 hI35_;refine Zc fun _ Vh=>?_;obtain⟨_,ey,g5,h5⟩:=hI35_;refine Vh ?_;have lf:=afs.length;rw[Yp]at lf;rw[<-lf,fc,Zkc nd mg']at ey;subst ey;refine⟨_,rfl,_,rfl,pa,_,rfl,g5.up _ _ hpaT,fun p5 H10 W7 Eg=>?_⟩;have sT:=g5.trans W7;have tU:=tT.same sT;have uU:=tU.upT (K:=K) fe;refine⟨_,rfl,_,rfl,_,rfl,D5,_,_,_,rfl,rfl,Z0.of (W7 _ _ h5),at0,_,rfl,pa,_,_,_,rfl,rfl,sT.up _ _ hpaT,Oz,l,e,S,ms,g.y,u',z3,r,rfl,mk.up uU,mo,hw',Zb.up uU _ _ k3,tU.feed,fun v' u2 H11 iv hw2 Ik=>⟨(sz 1),fun p6 hp6=>?_⟩⟩;have Bm:=Zw.lay (o:=.tup [v']) hp6;have u12:Mz K H10 _:=(Ik.upT (K:=K) tU.feed).trans Bm.upT;refine⟨p5,p6,_,[v'],rfl,rfl,u12.tup _ _ Eg,Yv.of Zz,(sz 3),fun p7 H13 s13 h13=>?_⟩;exact q _ (.tup [.str "arm",.int g.n,u2]) _ ⟨p7,_,rfl,h13,_,_,rfl,rfl,_,_,rfl,rfl,_,_,rfl,Zb.up (Bm.trans s13).upT _ _ iv,rfl⟩ (Wr.of es (.inl ⟨g,mg',u2,hw2,rfl⟩)) ((tU.trans Ik).same (Bm.trans s13))
   refine⟨_,rfl,a,_,_,_,rfl,rfl,ha8,at3,o,rfl, ?_⟩;cases o with
   | false =>
    exact Z5 rfl (Y6 (hM _ _ ⟨⟨_,_,_,_,rfl⟩,t8.m⟩))
   | true =>
    refine Yj rfl ?_;refine⟨_,rfl,l,2,r+(WB n'+50),rfl,t8.feed.m,by decide,by decide,fun z H9 z0 z1 t9=>⟨rfl,_,rfl, ?_⟩⟩;have t89:=t8.trans t9;refine Vw (fun c=>?_) (fun c=>?_)
    ·have nD3l:D3≠l:=((Ve.refl fe).same (s6.trans sL)).feed.ne hD3;have h9:=t9.keep _ _ nD3l h8;subst ey;refine⟨_,rfl,_,rfl,_,rfl,D3,_,rfl,.inl (Z0.of h9),l,_,r+40,rfl,t9.feed.m, ?_, ?_,fun y H10 y0 y1 Ig=>?_⟩
     ·rw[Yp];omega
     ·rw[Yp];omega
     rw[Yp]at y1;refine Zc fun _ Vs=>?_;obtain⟨nb,mnb,enb⟩:=Cb (Xc.filter fun z=>decide (z ∉ fs.map V6.n)) y0 y1;refine Vs ?_;have Eg:=Ig.keep _ _ nD3l h9;refine⟨D3,_,_,_,rfl,rfl,Z0.of Eg,enb, ?_⟩;refine⟨_,rfl,l,r,rfl,Ig.feed.mono (by rw[show IB 2=30 from rfl];omega),fun v' u2 H11 iv gv Ik=>⟨(sz 3),fun p3 He=>?_⟩⟩;have Bm:=Zw.lay (o:=.tup [.str "other",.int nb,v']) He;refine Zc fun _ Vu=>?_;obtain⟨mo1,mo2⟩:=List.mem_filter.mp mnb;refine Vu ?_;have b:=Zv5 nb mo1;refine q _ (.tup [.str "other",.int nb,u2]) _ ⟨p3,_,rfl,Yv.of Zz,_,_,rfl,rfl,_,_,rfl,rfl,_,_,rfl,Zb.up Bm.upT _ _ iv,rfl⟩ (Wr.of es (.inr ⟨rfl,rfl,nb,u2,ph mo2,b.1,b.2,gv.mono (by decide) (by decide),rfl⟩)) (((t89.trans Ig).trans Ik).same Bm)
    ·exact hM _ _ ⟨⟨_,_,_,_,rfl⟩,t89.m⟩
abbrev Ck:Stmt:=top 61
abbrev gc:List Str:=["_law_make_here","_law_name","_law_thing","_law_found"]
theorem Fs:Zp gc ["_law_make_here","_law_name","_law_thing"] (Zv Ck):=by trivial
abbrev G9:Stmt:=top 62
abbrev Oq:List Str:=["_law_feed_here","_law_make_here","_law_name","_law_value_here","_law_deep","_law_item_here","_law_k","_law_found"]
theorem Vn:Zp Oq ["_law_feed_here","_law_make_here","_law_name","_law_value_here"] (Zv G9):=by trivial
def jv:Nat->Th
 | 0=>.tup [.str "whole",.int 0]
 | n+1=>.tup [.str "arm",.int 1,jv n]
theorem Zdl:∀m n:Nat,B2 m (jv n)=decide (n<m)
 | 0,n=>by rw[My (by omega)];rfl
 | m+1,0=>by
  rw[Gq (by omega)];show (Vx (.tup [.str "whole",.int 0]) && (Yc (.tup [.str "whole",.int 0])).all (B2 m))=true;have e:Vx (.tup [.str "whole",.int 0])=true:=Pt (by decide) (by decide);rw[e];have k:Yc (.tup [.str "whole",.int 0])=[]:=by decide +kernel
  rw[k];rfl
 | m+1,n+1=>by
  show (Vx (.tup [.str "arm",.int 1,jv n]) && (B2 m (jv n) && true))=_
  have e:Vx (.tup [.str "arm",.int 1,jv n])=true:=by
   show (Ue (.str "arm") "arm" && Z4 1 999 (.int 1))=true
   decide +kernel
  rw[e,Zdl m n,Bool.and_true,O9];exact decide_eq_decide.mpr (by omega)
theorem Zdr:∀n,Dr (jv n)
 | 0=>⟨Bx (by decide +kernel) (by decide +kernel),trivial,trivial⟩
 | n+1=>⟨Bx (by decide +kernel) (by decide +kernel),trivial,Zdr n,trivial⟩
theorem Zdn:∀n,U4 (jv n)=3 * n+3
 | 0=>rfl
 | n+1=>by
  have:=Zdn n;show Yd [.str "arm",.int 1,jv n]+1=_;simp only[Yd,U4];omega
theorem VW.any{W W':Str->Th->Prop}(h:∀x u,W x u->W' x u){s:Y3}{u:Th}(v:VW W true s u):VW W' false s u:=by
 cases s with
 | whole _ _=>exact v
 | truth=>exact v
 | text _=>exact v
 | row b y k =>
  cases b with
  | true =>
   obtain⟨l,l3,lk,hl,e1⟩:=v;exact⟨l,l3,lk,fun e m=>⟨(hl e m).1,h _ _ (hl e m).2⟩,e1⟩
  | false =>
   obtain⟨l,l3,lk,hl,up,e1⟩:=v;exact⟨l,l3,lk,fun e m=>⟨(hl e m).1,h _ _ (hl e m).2⟩,up,e1⟩
 | rcd fs us =>
  obtain⟨l,os,ef,hl,ho,e1⟩:=v;exact⟨l,os,ef,fun e m=>h _ _ (hl e m),⟨fun z=>(nomatch z),ho.sub,ho.ok⟩,e1⟩
 | cho fs us o =>
  rcases v with ⟨f,mf,u',hw,e1⟩ | ⟨z,_⟩
  ·exact .inl ⟨f,mf,u',h _ _ hw,e1⟩
  ·cases z
theorem Wr.any{ms:List (Str×Y3)}:∀{n:Nat} {x:Str} {u:Th},Wr true ms n x u->Wr false ms n x u
 | 0,_,_,⟨s,es,v⟩=>⟨s,es,v.any fun _ _ z=>z⟩
 | _+1,_,_,⟨s,es,v⟩=>⟨s,es,v.any fun _ _ z=>z.any⟩
theorem Zmn{ms:List (Str×Y3)}(mo:Rx ms){n:Nat}{x:Str}{fs:List V6}{us:List Int}{u:Th}(es:Jf ms x=some (.rcd fs us))(h:Wr true ms n x u):∃ks o,u=.tup [.tup ks,o]/\∀m,T4 false ms x (.tup [.tup ks,.tup [.tup [.int 777,jv m]]])=decide (m<100)/\T4 true ms x (.tup [.tup ks,.tup [.tup [.int 777,jv m]]])=false:=by
 obtain⟨s,O4,v⟩:=h.out;rw[es]at O4;cases O4;obtain⟨l,os,rfl,hl,ho,rfl⟩:=v;have pr:Us ms (l.map Nb.f):=mo.ok x _ es;refine⟨_,_,rfl,fun m=>⟨?_, ?_⟩⟩
 ·rw[Ed es];have n7:Jm (l.map Nb.f) 777=none:=rg fun z=>absurd (pr.nums.subset z) (by decide)
  have co:N0 false (l.map Nb.f) (.tup [.tup [.int 777,jv m]])=decide (m<100):=by
   show (true && true && ((decide ((1:Int)<=777) && decide ((777:Int)<=999) && true) && true && ((Jm (l.map Nb.f) 777).isNone && B2 100 (jv m) && true)))=_;rw[n7,Zdl];cases decide (m<100)<;>decide
  show Et false ms (if (decide ((l.map Nb.u).length=(l.map Nb.f).length) && N0 false (l.map Nb.f) (.tup [.tup [.int 777,jv m]]))=true then some (List.zipWith (fun f k=>(f.y,k)) (l.map Nb.f) (l.map Nb.u)) else none)=_;rw[co,Gq (by rw[Yp,Yp]),uo,O9];cases decide (m<100) with
  | false=>rfl
  | true =>
   refine Wv.mpr fun p mp=>?_;obtain⟨e,me,rfl⟩:=Dp.mp mp;have z:=hl e me;cases n with
   | zero=>exact z.elim
   | succ n'=>exact Wr.vl mo (Wr.any z)
 ·rw[Ed es];show Et true ms (if (decide ((l.map Nb.u).length=(l.map Nb.f).length) && false)=true then _ else none)=_;rw[Bool.and_false];rfl
theorem Zwk(a b:Bool):je [.bl a,.bl b]/\vp [.bl a,.bl b]<=100/\(rpD (.tup [.bl a,.bl b])).length<=sizeLine:=by
 refine⟨⟨trivial,trivial,trivial⟩,(by show max 0 (max 0 0)<=100;decide), ?_⟩;exact Gw (show _<=20 by revert a b;decide +kernel) (by decide)
inductive Zxl(K:W.Frag)(vs:List V)(H:Hp)(Q:VK):Prop
 | mk(e S:Addr)(ms:List (Str×Y3))(x:Str)(v:V)(t:Th)(Vg:vs=[.ref e,.str x,v])(Vk:T5 K H e S ms)(V1:Rx ms)(Jk:(Jf ms x).isSome=true)(Mn:Zb K H t v)(Wb:Dr t)(fm:U4 t<=1000000)(h7_:Jn t<26)(h8_:∀H',Zw H H'->Q (.bl true) H')
def X4(K:W.Frag):Sp:=fun vs H Q _=>Zxl K vs H Q
inductive Zvx(K:W.Frag)(vs:List V)(H:Hp)(Q:VK):Prop
 | mk(l e S:Addr)(ms:List (Str×Y3))(x:Str)(v:V)(u:Th)(fs:List V6)(us:List Int)(r:Nat)(Vg:vs=[.ref l,.ref e,.str x,v])(Vk:T5 K H e S ms)(V1:Rx ms)(Jk:Jf ms x=some (.rcd fs us))(Mn:Wr true ms 3 x u)(Wb:Zb K H u v)(fm:Fd (r+1) H l)(h7_:∀H',Ve l r H H'->Q (.bl true) H')
def dq(K:W.Frag):Sp:=fun vs H Q _=>Zvx K vs H Q
theorem Zyj(F:Fu K "_law_asked" Ck f fd)(m:Bn mg)(Lc:Fn P w K mg base 11 "is_value" ["make","name","thing"] (Oc K false))(K8:Fn P w K mg base 11 "is_own" ["make","name","thing"] (Oc K true))(Ua:Fn P w K mg base (2 * 26+44) "_law_is" ["_law_make_here","_law_name","_law_thing","_law_own"] (Eu K 26)):Yn P w K mg base Je 97 f fd ["_law_make_here","_law_name","_law_thing"] (X4 K):=by
 refine F.ok Fs (fun vs H Q E h=>?_) fun _ A _ s H vs Q E hr h=>?_
 ·obtain⟨e,S,ms,x,v,t,rfl,_⟩:=h
  rfl
 obtain⟨e,S,ms,x,v,t,rfl,mk,mo,lx,ht,gd,hz,hd,q⟩:=h;refine⟨_,(@Zf _ _ _ _ _ (sI 3 Fs.nd (qt (Zg (cF Lc hr (Zg (pv 0) (Zg (pv 1) (Zg (pv 2) Zx)))) (Zg (cF K8 hr (Zg (pv 0) (Zg (pv 1) (Zg (pv 2) Zx)))) Zx)))) (q1 (qr (eQ Ym (cB (Tv hr) m.repr qk (Zg (pv 3) Zx)) (cB (Tv hr) m.repr qk (Zg (qt (Zg (cF Ua hr (Zg (pv 0) (Zg (pv 1) (Zg (pv 2) (Zg Vz Zx))))) (Zg (cF Ua hr (Zg (pv 0) (Zg (pv 1) (Zg (pv 2) (Zg Vz Zx))))) Zx))) Zx)))))), ?_⟩;refine⟨_,rfl,_,rfl,_,rfl,e,S,ms,x,v,t,rfl,mk,mo,lx,ht,gd,hz,fun H1 s1=>?_⟩;refine⟨_,rfl,_,rfl,_,rfl,e,S,ms,x,v,t,rfl,mk.up s1.upT,mo,lx,Zb.up s1.upT _ _ ht,gd,hz,fun H2 s2=>⟨(sz 2),fun p hp=>?_⟩⟩;have s3:=Zw.lay (o:=.tup [.bl (T4 false ms x t),.bl (T4 true ms x t)]) hp;have s03:=(s1.trans s2).trans s3;refine Zc fun _ Y5=>?_;obtain⟨r1,r2,r3⟩:=Zwk (T4 false ms x t) (T4 true ms x t);refine Y5 ?_;refine⟨_,rfl,_,[.bl (T4 false ms x t),.bl (T4 true ms x t)],rfl,⟨p,_,rfl,Yv.of Zz,_,_,rfl,rfl,_,_,rfl,rfl,rfl⟩,r1,r2,r3, ?_⟩;refine⟨_,rfl,_,rfl,_,rfl,e,S,ms,x,v,t,false,rfl,mk.up s03.upT,mo,lx,Zb.up s03.upT _ _ ht,gd,hz,hd,fun H4 s4=>?_⟩;have s04:=s03.trans s4;refine⟨_,rfl,_,rfl,_,rfl,e,S,ms,x,v,t,true,rfl,mk.up s04.upT,mo,lx,Zb.up s04.upT _ _ ht,gd,hz,hd,fun H5 s5=>⟨(sz 2),fun p6 hp6=>?_⟩⟩;have s6:=Zw.lay (o:=.tup [.bl (T4 false ms x t),.bl (T4 true ms x t)]) hp6;refine⟨_,[.bl (T4 false ms x t),.bl (T4 true ms x t)],rfl,⟨p6,_,rfl,Yv.of Zz,_,_,rfl,rfl,_,_,rfl,rfl,rfl⟩,r1,r2,r3,rfl, ?_⟩;rw[Gq rfl];exact q _ ((s04.trans s5).trans s6)
theorem Ad(F:Fu K "_law_deep_right" G9 f fd)(m:Bn mg)(Zt:gD P w K mg base)(Lc:Fn P w K mg base 11 "is_value" ["make","name","thing"] (Oc K false))(K8:Fn P w K mg base 11 "is_own" ["make","name","thing"] (Oc K true)):Yn P w K mg base Je 12 f fd ["_law_feed_here","_law_make_here","_law_name","_law_value_here"] (dq K):=by
 refine F.ok Vn (fun vs H Q E h=>?_) fun _ A _ s H vs Q E hr h=>?_
 ·obtain⟨l,e,S,ms,x,v,u,fs,us,r,rfl,_⟩:=h
  rfl
 obtain⟨l,e,S,ms,x,v,u,fs,us,r,rfl,mk,mo,es,hw,iu,fe,q⟩:=h;have bd:=Wr.bd mo hw;obtain⟨ks,o,rfl,hv⟩:=Zmn mo es hw;obtain⟨a,v1,v2,rfl,ha,i1,i2⟩:=Bo iu;refine⟨_,(@Zf _ _ _ _ _ (sI 4 Vn.nd (qo Ju Zq (cF Zt hr (Zg (pv 0) (Zg Zq Zx))))) (qs (sI 5 Vn.nd (qt (Zg Zm (Zg Zq Zx)))) (qs (Dz PassesOwn.never rfl (@U9 _ _ _ _ _ _ rfl m.range (Zg (pv 4) Zx) (by trivial)) (nJ 6 Vn.nd) (q1 (sI 5 Vn.nd (qt (Zg Zm (Zg Zq (Zg (pv 5) Zx))))))) (qs (sI 7 Vn.nd (qt (Zg (cF Lc hr (Zg (pv 1) (Zg (pv 2) (Zg (qt (Zg (iX Zk (pv 3) Zq) (Zg (qt (Zg (qt (Zg Zq (Zg (pv 5) Zx))) Zx)) Zx))) Zx)))) (Zg (cF K8 hr (Zg (pv 1) (Zg (pv 2) (Zg (qt (Zg (iX Zk (pv 3) Zq) (Zg (qt (Zg (qt (Zg Zq (Zg (pv 5) Zx))) Zx)) Zx))) Zx)))) Zx)))) (q1 (qr (eQ Ym (cB (Tv hr) m.repr qk (Zg (pv 7) Zx)) (cB (Tv hr) m.repr qk (Zg (qt (Zg (eQ F0 (pv 4) Zq) (Zg Vz Zx))) Zx))))))))), ?_⟩;refine⟨_,rfl,l,4,r,rfl,fe,by decide,by decide,fun y H1 y0 y1 t1=>⟨_,_,rfl,rfl, ?_⟩⟩;refine⟨(sz 2),fun p0 hp0=>?_⟩;have t2:=t1.lay (o:=.tup [.str "whole",.int 0]) hp0;refine Zc fun _ Vm=>?_;obtain⟨yn,rfl⟩:∃yn:Nat,y=yn:=⟨y.toNat,by omega⟩;refine Vm ?_;refine⟨_,rfl,_,rfl,by omega,by omega, ?_⟩;refine P5 (n:=(98+(yn:Int)).toNat) (fun i σ H5=>∃vi o6 o7,σ=[some (.ref l),some (.ref e),some (.str x),some (.ref a),some (.int (98+(yn:Int))),some vi,o6,o7]/\Zb K H5 (jv i) vi/\Ve l r H H5) ⟨_,_,_,rfl,⟨p0,_,rfl,Yv.of Zz,_,_,rfl,rfl,_,_,rfl,rfl,rfl⟩,t2⟩ ?_ ?_
 ·intro i σ H5 hi K1;refine Zc fun _ Vh=>?_;obtain⟨vi,o6,o7,rfl,iv,t5⟩:=K1;refine Vh ?_;refine⟨_,rfl,(sz 3),fun p hp=>?_⟩;have s6:=Zw.lay (o:=.tup [.str "arm",.int 1,vi]) hp;exact⟨_,_,_,rfl,⟨p,_,rfl,Yv.of Zz,_,_,rfl,rfl,_,_,rfl,rfl,_,_,rfl,Zb.up s6.upT _ _ iv,rfl⟩,t5.same s6⟩
 ·intro σ H5 xt;refine Zc fun _ Vs=>?_;obtain⟨vi,o6,o7,rfl,iv,t5⟩:=xt;have en:(98+(yn:Int)).toNat=98+yn:=by omega
  rw[en]at iv;obtain⟨e1,e2⟩:=hv (98+yn);refine Vs ?_;have u5:=t5.upT (K:=K) fe;have ha5:=u5.tup _ _ ha;have gdU:Dr (.tup [.tup ks,.tup [.tup [.int 777,jv (98+yn)]]]):=⟨bd.gd.1,⟨⟨trivial,Zdr _,trivial⟩,trivial⟩,trivial⟩
  have szU:U4 (.tup [.tup ks,.tup [.tup [.int 777,jv (98+yn)]]])<=1000000:=by
   have z1:=bd.sz;have z2:=Zdn (98+yn);have c4:CW (3+1)=78000:=rfl;simp only[U4,Yd]at z1 ⊢;omega
  have lx:(Jf ms x).isSome=true:=by rw[es];rfl
  refine⟨_,rfl,_,rfl,_,rfl,a,_,_,_,rfl,rfl,ha5,at0,_,rfl,(sz 2),fun q1 hq1=>⟨(sz 1),fun q2 hq2=>⟨(sz 2),fun q3 hq3=>?_⟩⟩⟩;have s1:=Zw.lay (o:=.tup [.int 777,vi]) hq1;have s2:=Zw.lay (o:=.tup [.ref q1]) hq2;have s3:=Zw.lay (o:=.tup [v1,.ref q2]) hq3;have s23:=s2.trans s3;have s13:=s1.trans s23;have t6:=t5.same s13;have iU:Zb K _ (.tup [.tup ks,.tup [.tup [.int 777,jv (98+yn)]]]) (.ref q3):=⟨q3,_,rfl,Yv.of Zz,_,_,rfl,Zb.up (u5.trans s13.upT) _ _ i1,_,_,rfl,⟨q2,_,rfl,s3.up _ _ (Yv.of Zz),Zy.one ⟨q1,_,rfl,s23.up _ _ (Yv.of Zz),_,_,rfl,rfl,_,_,rfl,Zb.up s13.upT _ _ iv,rfl⟩⟩,rfl⟩;refine⟨e,S,ms,x,.ref q3,_,rfl,mk.up (t6.upT fe),mo,lx,iU,gdU,szU,fun H7 s7=>?_⟩;rw[e1];have t7:=t6.same s7;have u7:=t7.upT (K:=K) fe;refine⟨_,rfl,_,rfl,_,rfl,a,_,_,_,rfl,rfl,u7.tup _ _ ha,at0,_,rfl,(sz 2),fun r1 hr1=>⟨(sz 1),fun r2 hr2=>⟨(sz 2),fun r3 hr3=>?_⟩⟩⟩;have w1:=Zw.lay (o:=.tup [.int 777,vi]) hr1;have w2:=Zw.lay (o:=.tup [.ref r1]) hr2;have w3:=Zw.lay (o:=.tup [v1,.ref r2]) hr3;have w23:=w2.trans w3;have w13:=w1.trans w23;have t8:=t7.same w13;have iW:Zb K _ (.tup [.tup ks,.tup [.tup [.int 777,jv (98+yn)]]]) (.ref r3):=⟨r3,_,rfl,Yv.of Zz,_,_,rfl,Zb.up (u7.trans w13.upT) _ _ i1,_,_,rfl,⟨r2,_,rfl,w3.up _ _ (Yv.of Zz),Zy.one ⟨r1,_,rfl,w23.up _ _ (Yv.of Zz),_,_,rfl,rfl,_,_,rfl,Zb.up (s13.trans (s7.trans w13)).upT _ _ iv,rfl⟩⟩,rfl⟩;refine⟨e,S,ms,x,.ref r3,_,rfl,mk.up (t8.upT fe),mo,lx,iW,gdU,szU,fun H9 s9=>⟨(sz 2),fun p9 hp9=>?_⟩⟩;rw[e2];have W7:=Zw.lay (o:=.tup [.bl (decide (98+yn<100)),.bl false]) hp9;refine Zc fun _ Vu=>?_;obtain⟨k1,k2,k3⟩:=Zwk (decide (98+yn<100)) false;refine Vu ?_;refine⟨_,rfl,_,[.bl (decide (98+yn<100)),.bl false],rfl,⟨p9,_,rfl,Yv.of Zz,_,_,rfl,rfl,_,_,rfl,rfl,rfl⟩,k1,k2,k3, ?_⟩;refine⟨_,rfl,_,_,rfl,rfl,(sz 2),fun p11 hp11=>?_⟩;have ed:decide ((98+(yn:Int))<100)=decide (98+yn<100):=decide_eq_decide.mpr (by omega);rw[ed]at *;have Bm:=Zw.lay (o:=.tup [.bl (decide (98+yn<100)),.bl false]) hp11;refine⟨_,[.bl (decide (98+yn<100)),.bl false],rfl,⟨p11,_,rfl,Yv.of Zz,_,_,rfl,rfl,_,_,rfl,rfl,rfl⟩,k1,k2,k3,rfl, ?_⟩;rw[Gq rfl];exact q _ (((t8.same s9).same W7).same Bm)
abbrev Il:Stmt:=top 63
abbrev N_law:List Str:=["_law_script","_law_feed_here","_law_make_here","_law_name","_law_value_here","_law_wild_here","_law_thing","_law_k","_law_bent_here","_law_odd_here"]
theorem N7:Zp N_law ["_law_script"] (Zv Il):=by trivial
theorem Zwv{K:W.Frag}{H:Hp}{S:Addr}{kvs:List (Um×V)}{o:HO}(h:H S=some (.dK kvs)):Up K H (Yq H S o):=by
 have ne:∀{x:Addr} {o:HO},H x=some o->(∀k,o≠.dK k)->x≠S:=fun e n z=>by
  rw[z,h]at e;cases e;exact n _ rfl
 intro c xs q;rcases q with (q | ⟨o,q⟩) | q
 ·exact .inl (.inl (by rw[Zl (ne q fun _ z=>nomatch z)];exact q))
 ·exact .inl (.inr ⟨o,by rw[Zl (ne q fun _ z=>nomatch z)];exact q⟩)
 ·exact .inr q
inductive Zfv(K:W.Frag)(vs:List V)(H:Hp)(Q:VK):Prop
 | mk(a:Addr)(ns:List Int)(Vg:vs=[.ref a])(Vk:Z0 K H a (ns.map V.int))(V1:ns.length<=63)(Jk:∀H',Q (.bl true) H')
def aa(K:W.Frag):Sp:=fun vs H Q _=>Zfv K vs H Q
theorem Zyh{ms:List (Str×Y3)}(nd:(ms.map (·.1)).Nodup){x:Str}{s:Y3}(h:(x,s)∈ms):Jf ms x=some s:=by
 induction ms with
 | nil=>cases h
 | cons p ms ih =>
  obtain⟨y,t⟩:=p;rw[R5,List.nodup_cons]at nd;rcases G2.mp h with h | h
  ·cases h;simp[Jf]
  ·have:¬ y=x:=fun z=>nd.1 (by rw[show ((y,t):Str×Y3).1=x from z];exact List.mem_map_of_mem (f:=(·.1)) h);simp only[Jf,this,if_false];exact ih nd.2 h
theorem shp_nq{ms:List (Str×Y3)}{s:Y3}(h:pj ms s):nqT s.t:=by
 have iq:∀us:List Int,nqT (.tup (us.map Th.int)):=fun us=>Ca fun t m=>by
  obtain⟨u,_,rfl⟩:=Dp.mp m
  trivial
 cases s with
 | whole _ _=>exact⟨trivial,trivial,trivial,trivial⟩
 | truth=>exact⟨trivial,trivial⟩
 | text _=>exact⟨trivial,trivial,trivial⟩
 | row _ _ _=>exact⟨trivial,trivial,trivial,trivial⟩
 | rcd fs us =>
  have h:Us ms fs:=h;refine⟨trivial,Ca fun t m=>?_,iq us,trivial⟩;obtain⟨f,mf,rfl⟩:=Dp.mp m;exact⟨trivial,trivial,trivial,(Zv6 h mf).nq,trivial⟩
 | cho fs us o =>
  refine⟨trivial,Ca fun t m=>?_,iq us,trivial,trivial⟩;obtain⟨f,mf,rfl⟩:=Dp.mp m;exact⟨trivial,trivial,trivial,trivial⟩
theorem Dm.nq{K:W.Frag}{H H':Hp}(u:Up K H H'):∀{kvs:List (Um×V)} {ms:List (Str×Y3)},Dm K H kvs ms->(∀p∈ms,nqT p.2.t)->Dm K H' kvs ms
 | _,_,.nil,_=>.nil
 | _,_,.cons r t,h=>.cons ⟨r.1,Zzf u _ _ (h _ Te) r.2⟩ (Dm.nq u t fun p m=>h p (Rq _ m))
structure Wd(K:W.Frag)(l e S:Addr)(ms:List (Str×Y3))(kvs:List (Um×V))(o:Obj)(r:Nat)(H:Hp):Prop where
 fd:Fd r H l
 md:T5 K H e S ms
 fz:H S=some (.frz o (.dK kvs))
section
variable{K:W.Frag}{l e S:Addr}{ms:List (Str×Y3)}{kvs:List (Um×V)}{o:Obj}{r r':Nat}{H H':Hp}
theorem Wd.same(w:Wd K l e S ms kvs o r H)(s:Zw H H'):Wd K l e S ms kvs o r H':=⟨w.fd.same s,w.md.up s.upT,s _ _ w.fz⟩
theorem Wd.step(w:Wd K l e S ms kvs o r H)(t:Ve l r' H H'):Wd K l e S ms kvs o r' H':=⟨t.feed,w.md.up (t.upT w.fd),(t.upT (K:=K) w.fd).frz _ _ _ w.fz⟩
theorem Wd.mono(w:Wd K l e S ms kvs o r H)(h:r'<=r):Wd K l e S ms kvs o r' H:=⟨w.fd.mono h,w.md,w.fz⟩
theorem Wd.m(w:Wd K l e S ms kvs o r H)(h:r'<=r:=by omega):Wd K l e S ms kvs o r' H:=w.mono h
end
structure Ask(t:Th):Prop where
 gd:Dr t
 sz:U4 t<=1000000
 dp:Jn t<26
abbrev A201:Str:=df "a" (201:Int).toNat
def Zm3:List Th:=[.non,.bl true,.int 0,.str "",.tup [],.opq,.opq,.tup [.tup [],.tup []],.tup [.str "arm",.int 1,.int 0],.tup [.str "other",.int 7,.tup [.str "whole",.int 0]],.int (-1),.str A201]
abbrev wO(e1 e2 e3 e6 e7 e9:Addr):List V:=[.non,.bl true,.int 0,.str "",.ref e1,.ref e2,.ref e3,.ref e6,.ref e7,.ref e9,.int (-1),.str A201]
theorem Zyw:∀t∈Zm3,Ask t:=by
 have s:∀{x:Str},Dr (.str x)->Ask (.str x):=fun g=>⟨g,by show 1<=1000000;decide,by show 0<26;decide⟩;intro t m;simp only[Zm3,G2,U6,or_false]at m;rcases m with rfl | rfl | rfl | rfl | rfl | rfl | rfl | rfl | rfl | rfl | rfl | rfl
 ·exact⟨trivial,by decide,by decide⟩
 ·exact⟨trivial,by decide,by decide⟩
 ·exact⟨trivial,by decide,by decide⟩
 ·exact s (Bx (by decide +kernel) (by decide +kernel))
 ·exact⟨trivial,by decide,by decide⟩
 ·exact⟨trivial,by decide,by decide⟩
 ·exact⟨trivial,by decide,by decide⟩
 ·exact⟨⟨trivial,trivial,trivial⟩,by decide,by decide⟩
 ·exact⟨⟨Bx (by decide +kernel) (by decide +kernel),trivial,trivial,trivial⟩,by show 4<=1000000;decide,by show 1<26;decide⟩
 ·exact⟨⟨Bx (by decide +kernel) (by decide +kernel),trivial,⟨Bx (by decide +kernel) (by decide +kernel),trivial,trivial⟩,trivial⟩,by show 6<=1000000;decide,by show 2<26;decide⟩
 ·exact⟨trivial,by decide,by decide⟩
 ·exact s (Bx (by decide +kernel) (by decide +kernel))
set_option maxHeartbeats 0 in
theorem ok_law(F:Fu K "law" Il f fd)(m:Bn mg)(l9:Fn P w K mg base 1 "_law_feed" ["_law_script"] (m9 K))(l8:Fn P w K mg base 4 "_law_make" ["_law_feed_here"] (mq K))
    (J4:Fn P w K mg base 10 "_law_value" ["_law_feed_here","_law_make_here","_law_name","_law_deep"] (Ot K 3)) (Dq:Fn P w K mg base 8 "_law_wild" ["_law_feed_here","_law_make_here","_law_name","_law_value_here"] (Wh K 3))
    (Tw:Fn P w K mg base 28 "_law_bent" ["_law_feed_here","_law_thing"] (X2 K 25)) (Ua:Fn P w K mg base (2 * 26+44) "_law_is" ["_law_make_here","_law_name","_law_thing","_law_own"] (Eu K 26))
    (N1:Fn P w K mg base 97 "_law_asked" ["_law_make_here","_law_name","_law_thing"] (X4 K)) (P1:Fn P w K mg base 12 "_law_deep_right" ["_law_feed_here","_law_make_here","_law_name","_law_value_here"] (dq K)):Yn P w K mg base Je 98 f fd ["_law_script"] (aa K):=by
  refine F.ok N7 (fun vs H Q E h=>?_) fun _ A _ s H vs Q E hr h=>?_
  · obtain⟨a,ns,rfl,_⟩:=h
    rfl
  obtain⟨a,ns,rfl,hA,h63,q⟩:=h;refine⟨_,(@Zf _ _ _ _ _ (sI 1 N7.nd (cF l9 hr (Zg (pv 0) Zx))) (@Zf _ _ _ _ _ (sI 2 N7.nd (cF l8 hr (Zg (pv 1) Zx))) (@Zf _ _ _ _ _ (@Dz _ _ _ _ _ _ _ _ PassesOwn.never rfl (@Zf2 _ _ _ _ (iX Zk (pv 2) Zq)) (nJ 3 N7.nd) (@Zf _ _ _ _ _ (@Dz _ _ _ _ _ _ _ _ PassesOwn.never rfl (qL (cF J4 hr (Zg (pv 1) (Zg (pv 2) (Zg (pv 3) (Zg Zq Zx)))))) (nJ 4 N7.nd) (@Zf _ _ _ _ _ (qi (qp (@pw_and _ _ _ _ _ _ _ (tQ Ym (iX Zk (@Fi _ _ _ _ _ _ (To hr) (iX Zk (pv 2) Zq) (pv 3) (fun _ _=>rfl)) Zq) Zm) (@pw_and1 _ _ _ _ (qn (Yg (cF P1 hr (Zg (pv 1) (Zg (pv 2) (Zg (pv 3) (Zg (pv 4) Zx))))) (by intro _;rfl)))))) (q1 (qr Vz)) Zd) (@Zf _ _ _ _ _ (sI 5 N7.nd (cF Dq hr (Zg (pv 1) (Zg (pv 2) (Zg (pv 3) (Zg (pv 4) Zx)))))) (@Zf _ _ _ _ _ (qi (qp (qO (qn (Yg (cF Ua hr (Zg (pv 2) (Zg (pv 3) (Zg (pv 4) (Zg Vz Zx))))) (by intro _;rfl))) (qQ (qn (Yg (cF Ua hr (Zg (pv 2) (Zg (pv 3) (Zg (pv 5) (Zg Vz Zx))))) (by intro _;rfl)))))) (q1 (qr Vz)) Zd) (@Yx _ _ _ (@Dz _ _ _ _ _ _ _ _ PassesOwn.never rfl (@Ni _ _ _ _ (@Yt _ _ _ _ (@Zj _ _ _ _ _ (pv 4) (@Zj _ _ _ _ _ (pv 5) Zx rfl) rfl))) (nJ 6 N7.nd) (qs (qi (qn (Yg (cF N1 hr (Zg (pv 2) (Zg (pv 3) (Zg (pv 6) Zx)))) (by intro _;rfl))) (q1 (qr Vz)) Zd) (q1 (Dz PassesOwn.never rfl (@U9 _ _ _ _ _ _ rfl m.range (Zg Zq Zx) (by trivial)) (nJ 7 N7.nd) (qs (sI 8 N7.nd (cF Tw hr (Zg (pv 1) (Zg (pv 6) Zx)))) (q1 (qi (qp (qO (qn (Yg (cF N1 hr (Zg (pv 2) (Zg (pv 3) (Zg (pv 8) Zx)))) (by intro _;rfl))) (qQ (qn (Yg (cF N1 hr (Zg (pv 2) (Zg (pv 3) (Zg (cF Tw hr (Zg (pv 1) (Zg (pv 8) Zx))) Zx)))) (by intro _;rfl)))))) (q1 (qr Vz)) Zd)))))) (by trivial)))))) (by trivial)) (@Yx _ _ _ (@Dz _ _ _ _ _ _ _ _ PassesOwn.never rfl (@Ni _ _ _ _ (@Yt _ _ _ _ (@Zj _ _ _ _ _ Gd (@Zj _ _ _ _ _ Vz (@Zj _ _ _ _ _ Zq (@Zj _ _ _ _ _ Zm (@Zj _ _ _ _ _ (@Ya _ _ _ _ _ Zx) (@Zj _ _ _ _ _ (@Yt _ _ _ _ Zx) (@Zj _ _ _ _ _ (@Ex _ _) (@Zj _ _ _ _ _ (@Ya _ _ _ _ _ (@Zj _ _ _ _ _ (@Ya _ _ _ _ _ Zx) (@Zj _ _ _ _ _ (@Ya _ _ _ _ _ Zx) Zx rfl) rfl)) (@Zj _ _ _ _ _ (@Ya _ _ _ _ _ (@Zj _ _ _ _ _ Zm (@Zj _ _ _ _ _ Zq (@Zj _ _ _ _ _ Zq Zx rfl) rfl) rfl)) (@Zj _ _ _ _ _ (@Ya _ _ _ _ _ (@Zj _ _ _ _ _ Zm (@Zj _ _ _ _ _ Zq (@Zj _ _ _ _ _ (@Ya _ _ _ _ _ (@Zj _ _ _ _ _ Zm (@Zj _ _ _ _ _ Zq Zx rfl) rfl)) Zx rfl) rfl) rfl)) (@Zj _ _ _ _ _ (@Cm _ _ _ _ _ _ M4 Zq) (@Zj _ _ _ _ _ (@Di _ _ _ _ _ _ _ _ ij Zm Zq) Zx rfl) rfl) rfl) rfl) rfl) rfl) rfl) rfl) rfl) rfl) rfl) rfl))) (nJ 9 N7.nd) (q1 (qi (qn (Yg (cF N1 hr (Zg (pv 2) (Zg (pv 3) (Zg (pv 9) Zx)))) (by intro _;rfl))) (q1 (qr Vz)) Zd)) (by trivial)))) (by trivial)) (q1 (qr Vz))))), ?_⟩;refine⟨_,rfl,a,ns,rfl,hA,h63,fun l H1 s1 nl f1=>?_⟩;refine⟨_,rfl,l,1000+600000,rfl,f1.mono (by decide),fun e S v ms H2 he hS nS mo t2=>?_⟩;refine Zc fun _ Y5=>?_;obtain⟨kvs,hS,dm⟩:=hS;refine Y5 ?_;refine⟨_,rfl,e,_,_,_,rfl,rfl,he,Jy,S,kvs,rfl,hS,fun o=>?_⟩;have nqs:∀p∈ms,nqT p.2.t:=fun p mp=>shp_nq (mo.ok p.1 p.2 (Zyh mo.nd mp))
  have W3:Wd K l e S ms kvs o (1000+600000) (Yq H2 S (.frz o (.dK kvs))):=⟨t2.feed.set hS (fun _ z=>nomatch z),⟨⟨v,Zwv hS _ _ he⟩,kvs,.inr ⟨o,Zz⟩,dm.nq (Zwv hS) nqs⟩,Zz⟩;have lk:kvs.length<=6:=by rw[Paired.length dm];exact mo.len
  have keys:=dm.keys
  clear nqs dm hS he t2 nS
  refine Zkd (fun i σ H5=>(∃o3 o4 o5 o6 o7 o8 o9,σ=[some (.ref a),some (.ref l),some (.ref e),o3,o4,o5,o6,o7,o8,o9])/\Wd K l e S ms kvs o (1000+100000 * (6 - i)) H5) ⟨⟨_,_,_,_,_,_,_,rfl⟩,W3⟩ ?_ ?_ ?_
  · intro i σ H5 hi K2
    refine Zc fun _ Vm=>?_;obtain⟨_,W5⟩:=K2;refine Vm ?_;exact W5.fz
  · intro i kk xx σ H5 ek K1
    refine Zc fun _ Vh=>?_;obtain⟨⟨o3,o4,o5,o6,o7,o8,o9,rfl⟩,W5⟩:=K1;have hi:i<kvs.length:=(Q8.mp ek).1;obtain⟨R1,hR1⟩:∃R1,R1=1000+100000 * (6 - (i+1)):=⟨_,rfl⟩;have eR:1000+100000 * (6 - i)=R1+100000:=by omega
    rw[eR]at W5
    obtain⟨nm,sh,rfl,em⟩:∃nm sh,kk=.inr nm/\(nm,sh)∈ms:=by
      have h2:=congrArg (fun z=>z[i]?) keys;simp only[Ma,ek]at h2;cases z:ms[i]? with
      | none=>rw[z]at h2;cases h2
      | some p=>rw[z]at h2;exact⟨p.1,p.2,Hn h2,Ow z⟩
    refine Vh ?_;have es:=Zyh mo.nd em;have lx:(Jf ms nm).isSome=true:=by rw[es];rfl
    have vb3:VB 3=2590:=rfl;have wb3:WB 3=46800:=rfl;have cw4:CW (3+1)=78000:=rfl;show bh _ _ _ _ _;refine Zvg (fun σ' HX=>(∃o4 o5 o6 o7 o8 o9,σ'=[some (.ref a),some (.ref l),some (.ref e),some (.str nm),o4,o5,o6,o7,o8,o9])/\Wd K l e S ms kvs o R1 HX) ?_ fun M hM=>?_
    · intro σ' HX xt
      refine Zc fun _ Vs=>?_;obtain⟨⟨o4,o5,o6,o7,o8,o9,rfl⟩,WX⟩:=xt;refine Vs ?_;refine⟨(sz 0),fun e1 g1=>⟨(sz 0),fun e2 g2=>fun e3 g3=>⟨(sz 0),fun e4 g4=>⟨(sz 0),fun e5 g5=>⟨(sz 2),fun e6 g6=>⟨(sz 3),fun e7 g7=>⟨(sz 2),fun e8 g8=>⟨(sz 3),fun e9 g9=>?_⟩⟩⟩⟩⟩⟩⟩⟩;refine⟨_,rfl,_,_,rfl,rfl,by decide,by decide,by decide +kernel,by decide +kernel,(sz 12),fun L hL=>?_⟩;have u1:=Zw.lay (o:=.tup []) g1;have u2:=Zw.lay (o:=.lst []) g2;have u3:=Zw.lay (o:=.dK []) g3;have u4:=Zw.lay (o:=.tup []) g4;have u5:=Zw.lay (o:=.tup []) g5;have u6:=Zw.lay (o:=.tup [.ref e4,.ref e5]) g6;have u7:=Zw.lay (o:=.tup [.str "arm",.int 1,.int 0]) g7;have u8:=Zw.lay (o:=.tup [.str "whole",.int 0]) g8;have u9:=Zw.lay (o:=.tup [.str "other",.int 7,.ref e8]) g9;have uL:=Zw.lay (o:=.lst (wO e1 e2 e3 e6 e7 e9)) hL;have v9:=u9.trans uL;have v8:=u8.trans v9;have v7:=u7.trans v8;have v6:=u6.trans v7;have v5:=u5.trans v6;have v4:=u4.trans v5;have v3:=u3.trans v4;have v2:=u2.trans v3;have v1:=u1.trans v2
      have all:Zy K _ Zm3 (wO e1 e2 e3 e6 e7 e9) :=
        ⟨_,_,rfl,rfl,_,_,rfl,rfl,_,_,rfl,rfl,_,_,rfl,rfl,_,_,rfl,⟨e1,_,rfl,v2.up _ _ (Yv.of Zz),rfl⟩,_,_,rfl,⟨e2,rfl,.inl ⟨[],v3 _ _ Zz⟩⟩,_,_,rfl,⟨e3,rfl,.inr ⟨[],v4 _ _ Zz⟩⟩,
         _,_,rfl,⟨e6,_,rfl,v7.up _ _ (Yv.of Zz),_,_,rfl,⟨e4,_,rfl,v5.up _ _ (Yv.of Zz),rfl⟩,_,_,rfl,⟨e5,_,rfl,v6.up _ _ (Yv.of Zz),rfl⟩,rfl⟩,_,_,rfl,⟨e7,_,rfl,v8.up _ _ (Yv.of Zz),_,_,rfl,rfl,_,_,rfl,rfl,_,_,rfl,rfl,rfl⟩,
         _,_,rfl,⟨e9,_,rfl,uL.up _ _ (Yv.of Zz),_,_,rfl,rfl,_,_,rfl,rfl,_,_,rfl,⟨e8,_,rfl,v9.up _ _ (Yv.of Zz),_,_,rfl,rfl,_,_,rfl,rfl,rfl⟩,rfl⟩,_,_,rfl,rfl,_,_,rfl,rfl,rfl⟩
      refine⟨L,rfl,⟨_,Z0.of Zz⟩, ?_⟩;refine Nw (K:=K) (xs:=wO e1 e2 e3 e6 e7 e9) (fun j σ H9=>(∃o4 o5 o6 o7 o8 o9,σ=[some (.ref a),some (.ref l),some (.ref e),some (.str nm),o4,o5,o6,o7,o8,o9])/\Wd K l e S ms kvs o R1 H9/\Zy K H9 Zm3 (wO e1 e2 e3 e6 e7 e9)/\H9 L=some (.lst (wO e1 e2 e3 e6 e7 e9))) ⟨⟨_,_,_,_,_,_,rfl⟩,WX.same v1,all,Zz⟩ ?_ ?_ ?_
      · intro j σ H9 _ xm
        refine Zc fun _ Vu=>?_;obtain⟨_,_,_,h9⟩:=xm;refine Vu ?_;exact Z0.of h9
      · intro j xv σ H9 hx xf
        refine Zc fun _ Ug=>?_;obtain⟨⟨o4,o5,o6,o7,o8,o9,rfl⟩,W9,a9,h9⟩:=xf;obtain⟨t,et,it⟩:=a9.got hx;refine Ug ?_;have ak:=Zyw t (Ow et);refine⟨_,rfl,_,rfl,_,rfl,e,S,ms,nm,xv,t,rfl,W9.md,mo,lx,it,ak.gd,ak.sz,ak.dp,fun H10 W7=>⟨_,rfl,Z5 rfl ?_⟩⟩;exact⟨⟨_,_,_,_,_,_,rfl⟩,W9.same W7,Zy.up W7.upT _ _ a9,W7 _ _ h9⟩
      · intro σ H9 xg
        refine Zc fun _ Uk=>?_;obtain⟨⟨o4,o5,o6,o7,o8,o9,rfl⟩,W9,_⟩:=xg;refine Uk ?_;exact⟨⟨_,_,_,_,_,_,_,rfl⟩,W9.m⟩
    refine⟨_,rfl,_,rfl,_,rfl,l,e,S,ms,nm,R1+90000,rfl,W5.md,mo,lx,W5.fd.m,fun L H8 rX nL t8=>?_⟩;have W8:=W5.step t8;rcases rX with hL | ⟨v,u,hL,iu,hw⟩
    · refine⟨L,rfl,⟨_,Z0.of hL⟩, ?_⟩
      refine Nw (K:=K) (xs:=[]) (fun j σ H9=>(∃o4 o5 o6 o7 o8 o9,σ=[some (.ref a),some (.ref l),some (.ref e),some (.str nm),o4,o5,o6,o7,o8,o9])/\Wd K l e S ms kvs o R1 H9/\H9 L=some (.lst [])) ⟨⟨_,_,_,_,_,_,rfl⟩,W8.m,hL⟩ ?_ ?_ ?_
      · intro j σ H9 _ K0
        refine Zc fun _ U1=>?_;obtain⟨_,_,h9⟩:=K0;refine U1 ?_;exact Z0.of h9
      · rintro j xv σ H9 hx _
        simp at hx
      · intro σ H9 Zkj
        refine Zc fun _ Y5=>?_;obtain⟨z,W9,_⟩:=Zkj;refine Y5 ?_;exact hM _ _ ⟨z,W9⟩
    refine⟨L,rfl,⟨_,Z0.of hL⟩, ?_⟩;have bu:=Wr.bd mo hw;refine Nw (K:=K) (xs:=[v]) (fun j σ H9=>(∃o4 o5 o6 o7 o8 o9,σ=[some (.ref a),some (.ref l),some (.ref e),some (.str nm),o4,o5,o6,o7,o8,o9])/\Wd K l e S ms kvs o (R1+(1 - j) * 90000) H9/\H9 L=some (.lst [v])/\Zb K H9 u v) ⟨⟨_,_,_,_,_,_,rfl⟩,W8.m,hL,iu⟩ ?_ ?_ ?_
    · intro j σ H9 _ K5
      refine Zc fun _ Vm=>?_;obtain⟨_,_,h9,_⟩:=K5;refine Vm ?_;exact Z0.of h9
    · intro j xv σ H9 hx K4
      refine Zc fun _ Vh=>?_;obtain⟨⟨o4,o5,o6,o7,o8,o9,rfl⟩,W9,h9,iu9⟩:=K4
      have j0:j=0:=by
        have:=(Q8.mp hx).1;simp at this;exact this
      subst j0;cases Zr hx;refine Vh ?_;rw[show (1 - 0) * 90000=90000 from rfl]at W9
      have hLl:∀{H':Hp} {r':Nat},Fd r' H' l->H' L=some (.lst [v])->L≠l:=fun f h z=>by
        refine Zc fun _ Vs=>?_;obtain⟨x1,x2,x3,x4,x5,x6,_⟩:=f;refine Vs ?_;rw[z,x6]at h;cases h
      show bh _ _ _ _ _;refine Zvg (fun σ' HX=>(∃o5 o6 o7 o8 o9,σ'=[some (.ref a),some (.ref l),some (.ref e),some (.str nm),some v,o5,o6,o7,o8,o9])/\Wd K l e S ms kvs o (R1+80000) HX/\HX L=some (.lst [v])/\Zb K HX u v) ?_ fun M2 hM2=>?_
      · intro σ' HX Zkg
        refine Zc fun _ Vu=>?_;obtain⟨⟨o5,o6,o7,o8,o9,rfl⟩,WX,hX,iuX⟩:=Zkg;refine Vu ?_;refine⟨_,rfl,_,rfl,_,rfl,_,rfl,l,e,S,ms,nm,u,v,R1+10000,rfl,WX.md,mo,hw,iuX,WX.fd.m,fun vw uw H10 iw hww Ig=>?_⟩;have W10:=WX.step Ig;have Eg:=Ig.keep _ _ (hLl WX.fd hX) hX;have iu10:=Zb.up (Ig.upT WX.fd) _ _ iuX;have bw:=Wr.bd mo hww;refine⟨_,rfl,_,rfl,_,rfl,e,S,ms,nm,v,u,true,rfl,W10.md,mo,lx,iu10,bu.gd,(by have:=bu.sz;omega),(by have:=bu.dp;omega),fun H11 s11=>⟨_,rfl,Z5 (by rw[Wr.vl mo hw];rfl) ?_⟩⟩;have W11:=W10.same s11;refine⟨_,rfl,_,rfl,_,rfl,e,S,ms,nm,vw,uw,false,rfl,W11.md,mo,lx,Zb.up s11.upT _ _ iw,bw.gd,(by have:=bw.sz;omega),(by have:=bw.dp;omega),fun H12 Bm=>⟨_,rfl,Z5 (by rw[Wr.vl mo hww];rfl) ?_⟩⟩;have s112:=s11.trans Bm;refine⟨_,rfl,_,rfl,(sz 2),fun L3 hL3=>⟨L3,rfl,⟨_,Z0.of Zz⟩, ?_⟩⟩;have s13:=Zw.lay (o:=.lst [v,vw]) hL3;have Hi:=s112.trans s13;refine Nw (K:=K) (xs:=[v,vw]) (fun j σ H13=>(∃o5 o6 o7 o8 o9,σ=[some (.ref a),some (.ref l),some (.ref e),some (.str nm),some v,o5,o6,o7,o8,o9])/\Wd K l e S ms kvs o (R1+(2 - j) * 800) H13/\H13 L=some (.lst [v])/\H13 L3=some (.lst [v,vw])/\Zb K H13 u v/\Zb K H13 uw vw) ⟨⟨_,_,_,_,_,rfl⟩,(W10.same Hi).m,Hi _ _ Eg,Zz,Zb.up Hi.upT _ _ iu10,Zb.up Hi.upT _ _ iw⟩ ?_ ?_ ?_
        · intro j σ H13 _ yc
          refine Zc fun _ Ug=>?_;obtain⟨_,_,_,h,_⟩:=yc;refine Ug ?_;exact Z0.of h
        · intro j xv σ H13 hx K3
          refine Zc fun _ Uk=>?_;obtain⟨⟨o5,o6,o7,o8,o9,rfl⟩,W13,h13,h13',Zbo,iw13⟩:=K3;have hj:j<2:=(Q8.mp hx).1;have eb:R1+(2 - j) * 800=R1+(2 - (j+1)) * 800+800:=(congrArg (R1+·) (Ap (by omega))).trans (Nat.add_assoc ..).symm;obtain⟨R2,hR2⟩:∃R2,R2=R1+(2 - (j+1)) * 800:=⟨_,rfl⟩;rw[eb, <-hR2]at W13
          obtain⟨ux,ix,bx⟩:∃ux,Zb K H13 ux xv/\Bd 78000 21 ux:=by
            have mx:=Ow hx;simp only[G2,U6,or_false]at mx;rcases mx with rfl | rfl
            · exact⟨u,Zbo,bu⟩
            · exact⟨uw,iw13,bw⟩
          refine Uk ?_
          have n3:∀{H':Hp} {r':Nat},Fd r' H' l->H' L3=some (.lst [v,vw])->L3≠l:=fun f h z=>by
            refine Zc fun _ U1=>?_;obtain⟨x1,x2,x3,x4,x5,x6,_⟩:=f;refine U1 ?_;rw[z,x6]at h;cases h
          refine⟨_,rfl,_,rfl,_,rfl,e,S,ms,nm,xv,ux,rfl,W13.md,mo,lx,ix,bx.gd,(by have:=bx.sz;omega),(by have:=bx.dp;omega),fun H14 Hi=>⟨_,rfl,Z5 rfl ?_⟩⟩;refine⟨_,rfl,by decide,by decide, ?_⟩;refine P5 (fun i σ H15=>(∃o7 o8 o9,σ=[some (.ref a),some (.ref l),some (.ref e),some (.str nm),some v,o5,some xv,o7,o8,o9])/\Wd K l e S ms kvs o (R2+(4 - i) * 200) H15/\H15 L=some (.lst [v])/\H15 L3=some (.lst [v,vw])/\Zb K H15 u v/\Zb K H15 uw vw/\Zb K H15 ux xv) ⟨⟨_,_,_,rfl⟩,(W13.same Hi).m,Hi _ _ h13,Hi _ _ h13',Zb.up Hi.upT _ _ Zbo,Zb.up Hi.upT _ _ iw13,Zb.up Hi.upT _ _ ix⟩ ?_ ?_
          · intro i σ H15 hi yd
            refine Zc fun _ Y5=>?_;obtain⟨⟨o7,o8,o9,rfl⟩,W15,h15,Zmq,iu15,iw15,ix15⟩:=yd;have hi:i<4:=hi;have eb:R2+(4 - i) * 200=R2+(4 - (i+1)) * 200+200:=(congrArg (R2+·) (Ap (by omega))).trans (Nat.add_assoc ..).symm;obtain⟨R3,hR3⟩:∃R3,R3=R2+(4 - (i+1)) * 200:=⟨_,rfl⟩;refine Y5 ?_;rw[eb, <-hR3]at W15;have d1:=bx.dp;have w1:=bx.wd;have z1:=bx.sz;refine⟨_,rfl,_,rfl,l,xv,ux,R3+100,rfl,W15.fd.mono (by show R3+100+3 * 24+3<=_;omega),ix15,bx.gd,(by show Jn ux<=24;omega),by omega,fun xb ub H16 ib ob t16=>?_⟩;have W16:=W15.step t16;have u16:=t16.upT (K:=K) W15.fd;have od:=ob.dp;have ow:=ob.wd;have oz:=ob.sz;refine⟨_,rfl,_,rfl,_,rfl,e,S,ms,nm,xb,ub,rfl,W16.md,mo,lx,ib,ob.gd,by omega,by omega,fun H17 s17=>⟨_,rfl,Z5 rfl ?_⟩⟩;have W17:=W16.same s17;refine⟨_,rfl,_,rfl,_,rfl,_,rfl,l,xb,ub,R3,rfl,W17.fd.mono (by show R3+3 * 24+3<=_;omega),Zb.up s17.upT _ _ ib,ob.gd,(by show Jn ub<=24;omega),by omega,fun xc uc H18 ic oc t18=>?_⟩;have W18:=W17.step t18;have cd:=oc.dp;have cz:=oc.sz;refine⟨e,S,ms,nm,xc,uc,rfl,W18.md,mo,lx,ic,oc.gd,by omega,by omega,fun H19 s19=>⟨_,rfl,Z5 rfl ?_⟩⟩;have uA:Mz K H15 H19:=u16.trans (s17.upT.trans ((t18.upT W17.fd).trans s19.upT));have k1:=s17 _ _ (t16.keep _ _ (hLl W15.fd h15) h15);have k2:=s17 _ _ (t16.keep _ _ (n3 W15.fd Zmq) Zmq);exact⟨⟨_,_,_,rfl⟩,(W18.same s19).m,s19 _ _ (t18.keep _ _ (hLl W17.fd k1) k1),s19 _ _ (t18.keep _ _ (n3 W17.fd k2) k2),Zb.up uA _ _ iu15,Zb.up uA _ _ iw15,Zb.up uA _ _ ix15⟩
          · intro σ H15 Zkk
            refine Zc fun _ Vm=>?_;obtain⟨⟨o7,o8,o9,rfl⟩,W15,h15,Zmq,iu15,iw15,_⟩:=Zkk;refine Vm ?_;exact⟨⟨_,_,_,_,_,rfl⟩,W15.m,h15,Zmq,iu15,iw15⟩
        · intro σ H13 ym
          refine Zc fun _ Vh=>?_;obtain⟨⟨o5,o6,o7,o8,o9,rfl⟩,W13,h13,_,Zbo,_⟩:=ym;refine Vh ?_;exact⟨⟨_,_,_,_,_,_,rfl⟩,W13.m,h13,Zbo⟩
      refine Zc fun _ Vs=>?_;obtain⟨v5,he5⟩:=W9.md.e;obtain⟨kv5,sv,hS5,ev5,is5⟩:=W9.md.get es;obtain⟨a',wr,rfl,ha'⟩:=a8 is5;refine Vs ?_;refine⟨_,rfl,e,_,_,_,rfl,rfl,he5,Jy,_,rfl,S,_,rfl,(show Nl H9 S (kV (.inr nm)) (some (.ref a')) from ev5 ▸ E7 hS5 (.inr nm)),a',_,_,_,rfl,rfl,ha',at0,rfl,_,rfl, ?_⟩;have hMM:∀{o5 o6 o7 o8 o9:Option V},M2 [some (.ref a),some (.ref l),some (.ref e),some (.str nm),some v,o5,o6,o7,o8,o9] H9:=hM2 _ _ ⟨⟨_,_,_,_,_,rfl⟩,W9.m,h9,iu9⟩;cases sh with
      | rcd fs us =>
        refine Yj (show decide (V.str "record" = V.str "record")=true by decide +kernel) ⟨_,rfl,_,rfl,_,rfl,_,rfl,l,e,S,ms,nm,v,u,fs,us,R1+80000,rfl,W9.md,mo,es,hw,iu9,W9.fd.m,fun H10 Ig=>⟨_,rfl,Z5 rfl ?_⟩⟩;exact hM2 _ _ ⟨⟨_,_,_,_,_,rfl⟩,W9.step Ig,Ig.keep _ _ (hLl W9.fd h9) h9,Zb.up (Ig.upT W9.fd) _ _ iu9⟩
      | whole _ _=>exact Z5 (show decide (V.str "whole" = V.str "record")=false by decide +kernel) (Y6 hMM)
      | truth=>exact Z5 (show decide (V.str "truth" = V.str "record")=false by decide +kernel) (Y6 hMM)
      | text _=>exact Z5 (show decide (V.str "text" = V.str "record")=false by decide +kernel) (Y6 hMM)
      | row b _ _ =>
        have hb:∀b:Bool,decide (V.str (if b=true then ("row" : Str) else "map")=V.str "record")=false:=by decide +kernel
        exact Z5 (hb b) (Y6 hMM)
      | cho _ _ _=>exact Z5 (show decide (V.str "choice" = V.str "record")=false by decide +kernel) (Y6 hMM)
    · intro σ H9 Zky
      refine Zc fun _ Vu=>?_;obtain⟨⟨o4,o5,o6,o7,o8,o9,rfl⟩,W9,_⟩:=Zky;refine Vu ?_;exact hM _ _ ⟨⟨_,_,_,_,_,_,rfl⟩,W9.m⟩
  · rintro σ H5 _
    exact q H5
theorem ip{P:Program}{w:World}{K:W.Frag}{mg:Bw}{base:Heap}{x qual:Str}{st:Stmt}{f:Addr}{fd:FuncData}{N ps:List Str}{k:Nat}{sp:Sp}(F:Fun K x qual st f fd)(S:Zp N ps (Zv st))(h:∀vs H Q E,¬ sp vs H Q E):Yn P w K mg base Je (k+1) f fd ps sp :=
 F.ok S (fun _ _ _ _ z=>(h _ _ _ _ z).elim) (fun _ _ _ _ _ _ _ _ _ z=>(h _ _ _ _ z).elim)
structure FA(K:W.Frag)(x:Str)(st:Stmt)(f:Addr)(fd:FuncData):Prop where
 a:W.nsIn K mainGlobals x=some (some (.ref f))
 F:Fun K x x st f fd
set_option maxHeartbeats 0 in
theorem all_mk{l:W.OpenLaw}{w:World}{K:W.Frag}{h:Heap}{mg:Bw}{fa f1 f2 f3 f4 f5 f6 f7 f8 f9 f10 f11 f12 f13 f14 f15 f16 f17 f18 f19 f20 f21 f22 f23 f24 f25 f26 f27 f28 f29 f30 f31 f32 f33 f34 f35 f36 f37 f38 f39 f40 f41 f42 f43 f44 f45 f46 f47 f48 f49 f50 f51 f52:Addr}{d1 d2 d3 d4 d5 d6 d7 d8 d9 d10 d11 d12 d13 d14 d15 d16 d17 d18 d19 d20 d21 d22 d23 d24 d25 d26 d27 d28 d29 d30 d31 d32 d33 d34 d35 d36 d37 d38 d39 d40 d41 d42 d43 d44 d45 d46 d47 d48 d49 d50 d51 d52:FuncData}(X:K.In h)(G:h.Ns mainGlobals mg)(O1:mg "law" = some (.ref fa))
  {tk0 tk1 tk2 tk3 tk4 tk5 tk6:Tok}
  (h1:FA K "is_whole" W4 f1 d1)
  (h2:FA K "is_item_whole" Mx f2 d2)
  (h3:FA K "is_number" Cg f3 d3)
  (h4:FA K "is_text" Rn f4 d4)
  (h5:FA K "is_name" Rr f5 d5)
  (h6:FA K "rises" S9 f6 d6)
  (h7:FA K "is_item" Rh f7 d7)
  (h8:FA K "level_below" N8 f8 d8)
  (h9:FA K "items_in" Tz f9 d9)
  (Eg:FA K "is_right_outside" Jp f10 d10)
  (h11:FA K "is_right_behind" Uz f11 d11)
  (h12:FA K "are_pairs" Na f12 d12)
  (h13:FA K "are_labels" Mb f13 d13)
  (h14:FA K "is_single_value" Gb f14 d14)
  (h15:FA K "member_of" Cw f15 d15)
  (h16:FA K "form_of" Pm f16 d16)
  (h17:FA K "is_value" W6 f17 d17)
  (h18:FA K "is_own" E3 f18 d18)
  (h19:FA K "is_right_through" Jh f19 d19)
  (h20:FA K "parts_in" We f20 d20)
  (h21:FA K "parts_in_row" Gy f21 d21)
  (h22:FA K "parts_in_map" U5 f22 d22)
  (h23:FA K "parts_in_record" U3 f23 d23)
  (h24:FA K "are_others" Gm f24 d24)
  (h25:FA K "parts_in_choice" Gk f25 d25)
  (h26:FA K "_law_feed" W0 f26 d26)
  (h27:FA K "_law_draw" W1 f27 d27)
  (h28:FA K "_law_is_name" Dt f28 d28)
  (h29:FA K "_law_whole" Cv f29 d29)
  (h30:FA K "_law_is_text" Df f30 d30)
  (h31:FA K "_law_rise" B8 f31 d31)
  (h32:FA K "_law_names" Nu f32 d32)
  (h33:FA K "_law_numbers" Dg f33 d33)
  (h34:FA K "_law_plain_shape" Gf f34 d34)
  (h35:FA K "_law_plain_value" Gg f35 d35)
  (h36:FA K "_law_struck" Mf f36 d36)
  (h37:FA K "_law_parts" Cy f37 d37)
  (h38:FA K "_law_make" G7 f38 d38)
  (h39:FA K "_law_value" J2 f39 d39)
  (h40:FA K "_law_record" B9 f40 d40)
  (h41:FA K "_law_item" G8 f41 d41)
  (h42:FA K "_law_wild" Vl f42 d42)
  (h43:FA K "_law_odd" Pb f43 d43)
  (h44:FA K "_law_bent" W2 f44 d44)
  (h45:FA K "_law_is_item" Jg f45 d45)
  (h46:FA K "_law_are_pairs" V5 f46 d46)
  (h47:FA K "_law_is" Bp f47 d47)
  (h48:FA K "_law_is_record" Vr f48 d48)
  (h49:FA K "_law_is_choice" Uu f49 d49)
  (h50:FA K "_law_asked" Ck f50 d50)
  (h51:FA K "_law_deep_right" G9 f51 d51)
  (h52:FA K "law" Il f52 d52)
  (Px:W.nsIn K mainGlobals "LETTERS" = some (some (.str "abcdefghijklmnopqrstuvwxyz" tk0)))
  (Xo : W.nsIn K mainGlobals "SIGNS" = some (some (.str " !\"#$&'()*+,-./0123456789:;<=>?\x40ABCDEFGHIJKLMNOPQRSTUVWXYZ[\\]^_`abcdefghijklmnopqrstuvwxyz{|}~" tk1)))
  (G6:W.nsIn K mainGlobals "GREATEST_WHOLE" = some (some (.int 1000000000000000000 tk2)))
  (Gv:W.nsIn K mainGlobals "GREATEST_NUMBER" = some (some (.int 999 tk3)))
  (M0:W.nsIn K mainGlobals "LONGEST_TEXT" = some (some (.int 200 tk4)))
  (M3:W.nsIn K mainGlobals "LONGEST_NAME" = some (some (.int 8 tk5)))
  (Pq:W.nsIn K mainGlobals "DEEPEST" = some (some (.int 100 tk6)))
  (Zj6:W.nsIn K mainGlobals "len" = some none)
  (Zj9:W.nsIn K mainGlobals "all" = some none)
  (Zj8:W.nsIn K mainGlobals "any" = some none)
  (Zj5:W.nsIn K mainGlobals "max" = some none)
  (Zj4:W.nsIn K mainGlobals "min" = some none)
  (B3:W.nsIn K mainGlobals "isinstance" = some none)
  (Xu:W.nsIn K mainGlobals "tuple" = some none)
  (bq:W.nsIn K mainGlobals "list" = some none)
  (Zj2:W.nsIn K mainGlobals "set" = some none)
  (Zj7:W.nsIn K mainGlobals "int" = some none)
  (Zj1:W.nsIn K mainGlobals "str" = some none)
  (bg:W.nsIn K mainGlobals "bool" = some none)
  (bj:W.nsIn K mainGlobals "dict" = some none)
  (Xa:W.nsIn K mainGlobals "range" = some none)
  (Zj0:W.nsIn K mainGlobals "zip" = some none)
  (T8:W.nsIn K mainGlobals "enumerate" = some none)
  (Em:W.nsIn K mainGlobals "sorted" = some none)
  (bz:W.nsIn K mainGlobals "repr" = some none)
  (Zj3:W.nsIn K mainGlobals "ord" = some none)
  : ∃fd:FuncData,(∀(s:Shared) (v:Value),BindsTo s fd ⟨[v],[]⟩ [("_law_script",v)])/\∀base:Heap,K.In base->base.Ns mainGlobals mg->Yn l.prog w K mg base Je 98 fa fd ["_law_script"] (aa K):=by
 have e:=O1.symm.trans (W.mg_of X G h52.a);cases e;have L9:=h1.F;have su:=L9.b3 (ps:=["thing","low","high"]) rfl;have n9:=W.mg_of X G h1.a;have Mw:=h2.F;have Si:=Mw.b1 (ps:=["thing"]) rfl;have Sm:=W.mg_of X G h2.a;have D8:=h3.F;have O6:=D8.b1 (ps:=["thing"]) rfl;have Ci:=W.mg_of X G h3.a;have Oy:=h4.F;have Zq9:=Oy.b2 (ps:=["thing","most"]) rfl;have Zqf:=W.mg_of X G h4.a;have Og:=h5.F;have Zjz:=Og.b1 (ps:=["thing"]) rfl;have I0:=W.mg_of X G h5.a;have jq:=h6.F;have Zmo:=jq.b1 (ps:=["things"]) rfl;have Zbc:=W.mg_of X G h6.a;have Of:=h7.F;have Zjx:=Of.b1 (ps:=["thing"]) rfl;have Zqb:=W.mg_of X G h7.a;have By:=h8.F;have A1:=By.b1 (ps:=["level"]) rfl;have Al:=W.mg_of X G h8.a;have L8:=h9.F;have sr:=L8.b1 (ps:=["item"]) rfl;have n8:=W.mg_of X G h9.a;have Ji:=Eg.F;have Lp:=Ji.b1 (ps:=["thing"]) rfl;have Lm:=W.mg_of X G Eg.a;have G1:=h11.F;have Qu:=G1.b2 (ps:=["sort","thing"]) rfl;have Qq:=W.mg_of X G h11.a;have Rb:=h12.F;have kl:=Rb.b1 (ps:=["thing"]) rfl;have vh:=W.mg_of X G h12.a;have Tp:=h13.F;have qd:=Tp.b2 (ps:=["things","is_label"]) rfl;have z7:=W.mg_of X G h13.a;have G0:=h14.F;have Qp:=G0.b2 (ps:=["shape","thing"]) rfl;have Qx:=W.mg_of X G h14.a;have Rw:=h15.F;have ky:=Rw.b2 (ps:=["shape","number"]) rfl;have vg:=W.mg_of X G h15.a;have Ob:=h16.F;have Zjq:=Ob.b2 (ps:=["make","name"]) rfl;have Zqm:=W.mg_of X G h16.a;have Fz:=h17.F;have si:=Fz.b3 (ps:=["make","name","thing"]) rfl;have lq:=W.mg_of X G h17.a;have Ho:=h18.F;have Zk6:=Ho.b3 (ps:=["make","name","thing"]) rfl;have Zyr:=W.mg_of X G h18.a;have Jo:=h19.F;have Lh:=Jo.b4 (ps:=["make","name","thing","own"]) rfl;have Lb:=W.mg_of X G h19.a;have Lo:=h20.F;have sj:=Lo.b3 (ps:=["shape","thing","own"]) rfl;have ng:=W.mg_of X G h20.a;have Ng:=h21.F;have Hm:=Ng.b2 (ps:=["shape","thing"]) rfl;have Kn:=W.mg_of X G h21.a;have Nf:=h22.F;have Hd:=Nf.b2 (ps:=["shape","thing"]) rfl;have Kl:=W.mg_of X G h22.a;have Gu:=h23.F;have Ql:=Gu.b3 (ps:=["shape","thing","own"]) rfl;have F7:=W.mg_of X G h23.a;have Tr:=h24.F;have qm:=Tr.b3 (ps:=["shape","thing","own"]) rfl;have z6:=W.mg_of X G h24.a;have Ga:=h25.F;have Qr:=Ga.b3 (ps:=["shape","thing","own"]) rfl;have F8:=W.mg_of X G h25.a;have L5:=h26.F;have sf:=L5.b1 (ps:=["_law_script"]) rfl;have nu:=W.mg_of X G h26.a;have L6:=h27.F;have sm:=L6.b2 (ps:=["_law_feed_here","_law_many"]) rfl;have ni:=W.mg_of X G h27.a;have Bf:=h28.F;have A4:=Bf.b1 (ps:=["_law_thing"]) rfl;have Ah:=W.mg_of X G h28.a;have Rv:=h29.F;have kg:=Rv.b3 (ps:=["_law_thing","_law_low","_law_high"]) rfl;have vf:=W.mg_of X G h29.a;have Bg:=h30.F;have A3:=Bg.b2 (ps:=["_law_thing","_law_most"]) rfl;have As:=W.mg_of X G h30.a;have Li:=h31.F;have sy:=Li.b1 (ps:=["_law_some"]) rfl;have nr:=W.mg_of X G h31.a;have Rg:=h32.F;have km:=Rg.b2 (ps:=["_law_feed_here","_law_many"]) rfl;have vt:=W.mg_of X G h32.a;have Bk:=h33.F;have A2:=Bk.b2 (ps:=["_law_feed_here","_law_most"]) rfl;have Ar:=W.mg_of X G h33.a;have Ge:=h34.F;have Qh:=Ge.b2 (ps:=["_law_feed_here","_law_names_here"]) rfl;have Qz:=W.mg_of X G h34.a
 have Gi:=h35.F;have Qs:=Gi.b2 (ps:=["_law_feed_here","_law_shape"]) rfl;have F9:=W.mg_of X G h35.a;have Tn:=h36.F;have qf:=Tn.b2 (ps:=["_law_feed_here","_law_numbers_here"]) rfl;have ze:=W.mg_of X G h36.a;have Ry:=h37.F;have kf:=Ry.b3 (ps:=["_law_feed_here","_law_names_here","_law_shapes"]) rfl;have vm:=W.mg_of X G h37.a;have Le:=h38.F;have sk:=Le.b1 (ps:=["_law_feed_here"]) rfl;have nh:=W.mg_of X G h38.a;have Vd:=h39.F;have D7:=Vd.b4 (ps:=["_law_feed_here","_law_make_here","_law_name","_law_deep"]) rfl;have De:=W.mg_of X G h39.a;have Va:=h40.F;have Mp:=Va.b4 (ps:=["_law_feed_here","_law_make_here","_law_shape","_law_deep"]) rfl;have Mc:=W.mg_of X G h40.a;have Uh:=h41.F;have Tb:=Uh.b2 (ps:=["_law_feed_here","_law_deep"]) rfl;have Tq:=W.mg_of X G h41.a;have V3:=h42.F;have Ny:=V3.b4 (ps:=["_law_feed_here","_law_make_here","_law_name","_law_value_here"]) rfl;have Nz:=W.mg_of X G h42.a;have Ov:=h43.F;have Zq8:=Ov.b2 (ps:=["_law_feed_here","_law_thing"]) rfl;have Zqg:=W.mg_of X G h43.a;have L7:=h44.F;have Ht:=L7.b2 (ps:=["_law_feed_here","_law_thing"]) rfl;have Kr:=W.mg_of X G h44.a;have Bb:=h45.F;have Wm:=Bb.b1 (ps:=["_law_thing"]) rfl;have Wk:=W.mg_of X G h45.a;have Mj:=h46.F;have So:=Mj.b2 (ps:=["_law_thing","_law_numbers_here"]) rfl;have Sb:=W.mg_of X G h46.a;have g0:=h47.F;have Zk5:=g0.b4 (ps:=["_law_make_here","_law_name","_law_thing","_law_own"]) rfl;have Zyl:=W.mg_of X G h47.a;have T2:=h48.F;have Su:=T2.b4 (ps:=["_law_make_here","_law_shape","_law_thing","_law_own"]) rfl;have Sg:=W.mg_of X G h48.a;have T3:=h49.F;have Sa:=T3.b4 (ps:=["_law_make_here","_law_shape","_law_thing","_law_own"]) rfl;have Sf:=W.mg_of X G h49.a;have Rf:=h50.F;have kd:=Rf.b3 (ps:=["_law_make_here","_law_name","_law_thing"]) rfl;have vc:=W.mg_of X G h50.a;have Dk:=h51.F;have P9:=Dk.b4 (ps:=["_law_feed_here","_law_make_here","_law_name","_law_value_here"]) rfl;have Pa:=W.mg_of X G h51.a;have Zd1:=h52.F;have m:Bn mg:=⟨W.mg_none_of X G Zj6,W.mg_none_of X G Zj9,W.mg_none_of X G Zj8,W.mg_none_of X G Zj5,W.mg_none_of X G Zj4,W.mg_none_of X G B3,W.mg_none_of X G Xu,W.mg_none_of X G bq,W.mg_none_of X G Zj2,W.mg_none_of X G Zj7,W.mg_none_of X G Zj1,W.mg_none_of X G bg,W.mg_none_of X G bj,W.mg_none_of X G Xa,W.mg_none_of X G Zj0,W.mg_none_of X G T8,W.mg_none_of X G Em,W.mg_none_of X G bz,W.mg_none_of X G Zj3⟩;have c:Cn mg:=⟨⟨_,W.mg_of X G Px⟩,⟨_,W.mg_of X G Xo⟩,⟨_,W.mg_of X G G6⟩,⟨_,W.mg_of X G Gv⟩,⟨_,W.mg_of X G M0⟩,⟨_,W.mg_of X G M3⟩,⟨_,W.mg_of X G Pq⟩⟩;obtain⟨oc,od,kV,doc,pm,an,cdv,ct,osl,rfl,lk,hcd⟩:=Zd1.ex;refine⟨W.fnOf "law" "law" (Dh Il) (Gs Il) (Zv Il) .none kV doc pm an cdv ct,fun s v=>.of_eq rfl,fun base _ _=>?_⟩;have Zmw:Fn l.prog w K mg base 1 "is_whole" ["thing","low","high"] (Nh K):=⟨_,_,wo L9 m,su,L9.kp,n9⟩;have g_iw:Fn l.prog w K mg base 2 "is_item_whole" ["thing"] (bo K (-1000000000000000000) 1000000000000000000):=⟨_,_,Pp Mw c Zmw,Si,Mw.kp,Sm⟩;have g_nu:Fn l.prog w K mg base 2 "is_number" ["thing"] (bo K 1 999):=⟨_,_,F6 D8 c Zmw,O6,D8.kp,Ci⟩
 have g_tx:Fn l.prog w K mg base 1 "is_text" ["thing","most"] (B5 K):=⟨_,_,cj Oy m c,Zq9,Oy.kp,Zqf⟩;have g_ri:Fn l.prog w K mg base 1 "rises" ["things"] (Rt K):=⟨_,_,Zyx jq m,Zmo,jq.kp,Zbc⟩;have g_ap:Fn l.prog w K mg base 1 "are_pairs" ["thing"] (Ff K):=⟨_,_,za Rb m,kl,Rb.kp,vh⟩;have g_al:Fn l.prog w K mg base 3 "are_labels" ["things","is_label"] (Bc l.prog w K mg base):=⟨_,_,An Tp m g_ri,qd,Tp.kp,z7⟩;have l1:gh l.prog w K mg base true _:=⟨_,(cv Og m c).mono (by decide),Zjz,Og.kp⟩;have l2:gh l.prog w K mg base false _:=⟨_,(F6 D8 c Zmw).imp fun vs H Q E ⟨v,t,e,i,_,q⟩=>⟨v,t,e,i,q H (Zw.refl H)⟩,O6,D8.kp⟩;have g_rb:Fn l.prog w K mg base 4 "is_right_behind" ["sort","thing"] (Zvq K):=⟨_,_,Lg G1 m c g_iw g_tx g_ap g_al I0 Ci l1 l2,Qu,G1.kp,Qq⟩;have g_ro:Fn l.prog w K mg base 5 "is_right_outside" ["thing"] (Zwe K):=⟨_,_,Wz Ji m g_nu g_rb,Lp,Ji.kp,Lm⟩;have g_ii:Fn l.prog w K mg base 1 "items_in" ["item"] (mh K):=⟨_,_,wa L8 m,sr,L8.kp,n8⟩;have g_lb:Fn l.prog w K mg base 2 "level_below" ["level"] (X3 K):=⟨_,_,Kb By m g_ii,A1,By.kp,Al⟩;have g_it:Fn l.prog w K mg base 6 "is_item" ["thing"] (Fm K):=⟨_,_,cg Of m c g_ro g_lb,Zjx,Of.kp,Zqb⟩;have g_fo:Fn l.prog w K mg base 1 "form_of" ["make","name"] (m8 K):=⟨_,_,cc Ob m,Zjq,Ob.kp,Zqm⟩;have g_mb:Fn l.prog w K mg base 1 "member_of" ["shape","number"] (au K):=⟨_,_,zc Rw m,ky,Rw.kp,vg⟩;have g_sv:Fn l.prog w K mg base 2 "is_single_value" ["shape","thing"] (Zwo K):=⟨_,_,Ly G0 m Zmw g_tx,Qp,G0.kp,Qx⟩;have g_pr:Fn l.prog w K mg base 1 "parts_in_row" ["shape","thing"] (Zxm K true):=⟨_,_,Sy Ng m,Hm,Ng.kp,Kn⟩;have g_pm:Fn l.prog w K mg base 4 "parts_in_map" ["shape","thing"] (Zxm K false):=⟨_,_,Sk Nf m g_ap g_al I0 l1,Hd,Nf.kp,Kl⟩;have g_ao:Fn l.prog w K mg base 7 "are_others" ["shape","thing","own"] (Zw0 K):=⟨_,_,Ac Tr m g_ap g_al Ci l2 g_mb g_it,qm,Tr.kp,z6⟩;have g_pc:Fn l.prog w K mg base 8 "parts_in_record" ["shape","thing","own"] (spPD K):=⟨_,_,Lw Gu m g_ao,Ql,Gu.kp,F7⟩;have g_ph:Fn l.prog w K mg base 7 "parts_in_choice" ["shape","thing","own"] (spPC K):=⟨_,_,Lv Ga m g_nu g_mb g_it,Qr,Ga.kp,F8⟩;have g_pi:Fn l.prog w K mg base 9 "parts_in" ["shape","thing","own"] (spPI K):=⟨_,_,wm Lo m g_sv g_pr g_pm g_pc g_ph,sj,Lo.kp,ng⟩;have g_th:Fn l.prog w K mg base 10 "is_right_through" ["make","name","thing","own"] (X1 K):=⟨_,_,R9 Jo m g_fo g_pi,Lh,Jo.kp,Lb⟩;have g_va:Fn l.prog w K mg base 11 "is_value" ["make","name","thing"] (Oc K false):=⟨_,_,we Fz m g_th,si,Fz.kp,lq⟩;have g_ow:Fn l.prog w K mg base 11 "is_own" ["make","name","thing"] (Oc K true):=⟨_,_,Zqj Ho m g_th,Zk6,Ho.kp,Zyr⟩;have gf:Fn l.prog w K mg base 1 "_law_feed" ["_law_script"] (m9 K):=⟨_,_,Zbv L5 m,sf,L5.kp,nu⟩;have gr:Fn l.prog w K mg base 1 "_law_draw" ["_law_feed_here","_law_many"] dz:=⟨_,_,Zby L6 m,sm,L6.kp,ni⟩;have g_lw:Fn l.prog w K mg base 1 "_law_whole" ["_law_thing","_law_low","_law_high"] (Nh K):=⟨_,_,zr Rv m,kg,Rv.kp,vf⟩;have g_ln:Fn l.prog w K mg base 1 "_law_is_name" ["_law_thing"] (Im K true):=⟨_,_,Kd Bf m,A4,Bf.kp,Ah⟩
 have g_lt:Fn l.prog w K mg base 1 "_law_is_text" ["_law_thing","_law_most"] (B5 K):=⟨_,_,Km Bg m,A3,Bg.kp,As⟩;have g_lr:Fn l.prog w K mg base 1 "_law_rise" ["_law_some"] (Rt K):=⟨_,_,wc Li m,sy,Li.kp,nr⟩;have g_la:Fn l.prog w K mg base 2 "_law_are_pairs" ["_law_thing","_law_numbers_here"] (Ep K):=⟨_,_,Ph Mj m g_lw g_ln g_lr,So,Mj.kp,Sb⟩;have g_li:Fn l.prog w K mg base 43 "_law_is_item" ["_law_thing"] (Rc K 40):=⟨_,_,Cu Bb m Wm Wk g_lw g_lt g_la 40 (by decide),Wm,Bb.kp,Wk⟩;have g_ls:=g_is (P:=l.prog) (w:=w) (base:=base) g0 T2 T3 m Zk5 Su Sa Zyl Sg Sf g_lw g_lt g_la g_li 26 (by decide);have Zqo:Fn l.prog w K mg base 2 "_law_names" ["_law_feed_here","_law_many"] Fb:=⟨_,_,Zyq Rg m gr,km,Rg.kp,vt⟩;have g_ns:Fn l.prog w K mg base 2 "_law_numbers" ["_law_feed_here","_law_most"] Pk:=⟨_,_,cq Bk m gr,A2,Bk.kp,Ar⟩;have g_ps:Fn l.prog w K mg base 2 "_law_plain_shape" ["_law_feed_here","_law_names_here"] (Es K):=⟨_,_,Kf Ge m gr,Qh,Ge.kp,Qz⟩;have Zkm:Fn l.prog w K mg base 2 "_law_plain_value" ["_law_feed_here","_law_shape"] (Fg K):=⟨_,_,Kg Gi m gr,Qs,Gi.kp,F9⟩;have g_sd:Fn l.prog w K mg base 2 "_law_struck" ["_law_feed_here","_law_numbers_here"] (Py K):=⟨_,_,tu Tn m gr,qf,Tn.kp,ze⟩;have g_pd:Fn l.prog w K mg base 3 "_law_parts" ["_law_feed_here","_law_names_here","_law_shapes"] (Eh K):=⟨_,_,Zqx Ry m gr Zqo g_ns Zkm,kf,Ry.kp,vm⟩;have g_mk:Fn l.prog w K mg base 4 "_law_make" ["_law_feed_here"] (mq K):=⟨_,_,Zbw Le m gr Zqo g_ps g_pd g_sd,sk,Le.kp,nh⟩;have g_od:Fn l.prog w K mg base 2 "_law_odd" ["_law_feed_here","_law_thing"] (Zw1 K):=⟨_,_,ok_odd Ov m gr,Zq8,Ov.kp,Zqg⟩;have g_be:Fn l.prog w K mg base 28 "_law_bent" ["_law_feed_here","_law_thing"] (X2 K 25):=⟨_,_,ia L7 m Ht Kr gr g_od 25,Ht,L7.kp,Kr⟩;have gi_:Fn l.prog w K mg base 1 "_law_item" ["_law_feed_here","_law_deep"] (Zdz K 0):=⟨_,_,ip Uh Np fun _ _ _ _ z=>z,Tb,Uh.kp,Tq⟩;have gi0:Fn l.prog w K mg base 2 "_law_item" ["_law_feed_here","_law_deep"] (Zxc K 0):=⟨_,_,zh (k:=0) (n:=0) (by decide) Uh m gr gi_,Tb,Uh.kp,Tq⟩;have gi1:Fn l.prog w K mg base 3 "_law_item" ["_law_feed_here","_law_deep"] (Zxc K 1):=⟨_,_,zh (k:=1) (n:=1) (by decide) Uh m gr gi0,Tb,Uh.kp,Tq⟩;have gi2:Fn l.prog w K mg base 4 "_law_item" ["_law_feed_here","_law_deep"] (Zxc K 2):=⟨_,_,zh (k:=2) (n:=2) (by decide) Uh m gr gi1,Tb,Uh.kp,Tq⟩;have gv_:Fn l.prog w K mg base 2 "_law_value" ["_law_feed_here","_law_make_here","_law_name","_law_deep"] (Zwp K 0):=⟨_,_,ip Vd Y9 fun _ _ _ _ z=>z,D7,Vd.kp,De⟩;have gc_:Fn l.prog w K mg base 3 "_law_record" ["_law_feed_here","_law_make_here","_law_shape","_law_deep"] (Zwi K 0):=⟨_,_,ip Va Vf fun _ _ _ _ z=>z,Mp,Va.kp,Mc⟩;have gv0:Fn l.prog w K mg base 4 "_law_value" ["_law_feed_here","_law_make_here","_law_name","_law_deep"] (Ot K 0):=⟨_,_,F5 (n:=0) (by decide) (by decide) Vd m gr Zqo Zkm gv_ gc_,D7,Vd.kp,De⟩;have gc1:Fn l.prog w K mg base 5 "_law_record" ["_law_feed_here","_law_make_here","_law_shape","_law_deep"] (jl K 0):=⟨_,_,Pn (n:=0) (by decide) Va m gr gv0 (by decide),Mp,Va.kp,Mc⟩
 have gv1:Fn l.prog w K mg base 6 "_law_value" ["_law_feed_here","_law_make_here","_law_name","_law_deep"] (Ot K 1):=⟨_,_,F5 (n:=1) (by decide) (by decide) Vd m gr Zqo Zkm gv0 gc1,D7,Vd.kp,De⟩;have gc2:Fn l.prog w K mg base 7 "_law_record" ["_law_feed_here","_law_make_here","_law_shape","_law_deep"] (jl K 1):=⟨_,_,Pn (n:=1) (by decide) Va m gr gv1 (by decide),Mp,Va.kp,Mc⟩;have gv2:Fn l.prog w K mg base 8 "_law_value" ["_law_feed_here","_law_make_here","_law_name","_law_deep"] (Ot K 2):=⟨_,_,F5 (n:=2) (by decide) (by decide) Vd m gr Zqo Zkm gv1 gc2,D7,Vd.kp,De⟩;have gc3:Fn l.prog w K mg base 9 "_law_record" ["_law_feed_here","_law_make_here","_law_shape","_law_deep"] (jl K 2):=⟨_,_,Pn (n:=2) (by decide) Va m gr gv2 (by decide),Mp,Va.kp,Mc⟩;have gv3:Fn l.prog w K mg base 10 "_law_value" ["_law_feed_here","_law_make_here","_law_name","_law_deep"] (Ot K 3):=⟨_,_,F5 (n:=3) (by decide) (by decide) Vd m gr Zqo Zkm gv2 gc3,D7,Vd.kp,De⟩;have gx_:Fn l.prog w K mg base 4 "_law_wild" ["_law_feed_here","_law_make_here","_law_name","_law_value_here"] (ah K 0):=⟨_,_,ip V3 V8 fun _ _ _ _ z=>z,Ny,V3.kp,Nz⟩;have gx0:Fn l.prog w K mg base 5 "_law_wild" ["_law_feed_here","_law_make_here","_law_name","_law_value_here"] (Wh K 0):=⟨_,_,Ej (n:=0) (by decide) V3 m gr gi2 gx_,Ny,V3.kp,Nz⟩;have gx1:Fn l.prog w K mg base 6 "_law_wild" ["_law_feed_here","_law_make_here","_law_name","_law_value_here"] (Wh K 1):=⟨_,_,Ej (n:=1) (by decide) V3 m gr gi2 gx0,Ny,V3.kp,Nz⟩;have gx2:Fn l.prog w K mg base 7 "_law_wild" ["_law_feed_here","_law_make_here","_law_name","_law_value_here"] (Wh K 2):=⟨_,_,Ej (n:=2) (by decide) V3 m gr gi2 gx1,Ny,V3.kp,Nz⟩;have gx3:Fn l.prog w K mg base 8 "_law_wild" ["_law_feed_here","_law_make_here","_law_name","_law_value_here"] (Wh K 3):=⟨_,_,Ej (n:=3) (by decide) V3 m gr gi2 gx2,Ny,V3.kp,Nz⟩;have g_as:Fn l.prog w K mg base 97 "_law_asked" ["_law_make_here","_law_name","_law_thing"] (X4 K):=⟨_,_,Zyj Rf m g_va g_ow g_ls,kd,Rf.kp,vc⟩;have g_dr:Fn l.prog w K mg base 12 "_law_deep_right" ["_law_feed_here","_law_make_here","_law_name","_law_value_here"] (dq K):=⟨_,_,Ad Dk m gr g_va g_ow,P9,Dk.kp,Pa⟩;exact ok_law Zd1 m gf g_mk gv3 gx3 g_be g_ls g_as g_dr
theorem walk{l:W.OpenLaw}{q:Program}{loose:List Str}{XP:(Str->Option Value)->Heap->Prop}{YP:World->Heap->Prop}{d:DefRec}{K:Params->W.Frag}(hn:l.most=some 63)(hdf:d.params.defaults=[])
  (hY:∀(w:World) (h:Heap),YP w h->(K w.params).In h)
  (F:∀(w:World) (mg:Bw) (fa:Addr) (h:Heap),(K w.params).In h->h.Ns mainGlobals mg->mg d.name=some (.ref fa) ->
   ∃fd:FuncData,(∀(s:Shared) (u:Value),BindsTo s fd ⟨[u],[]⟩ [("_law_script",u)])/\∀base:Heap,(K w.params).In base->base.Ns mainGlobals mg->Yn l.prog w (K w.params) mg base Je 98 fa fd ["_law_script"] (aa (K w.params))) :
  W.WalkO q loose XP YP l.row.toRowW d [] (fun f vs=>PySem.call f vs) :=
 L2.Zgu (n:=63) (k:=98) (x:="_law_script") (CX:=fun _=>Je) (sp:=fun w=>aa (K w.params)) hn (by decide) hdf ⟨rfl,by decide,by decide,rfl⟩ hY F (fun _ _ a ns hl _ hS=>⟨a,ns,rfl,hS,hl,fun _=>rfl⟩) fun _ _ _ _ _ z=>z
end
end K23
open PySem PySem.W PyProof.Rows
set_option maxRecDepth 100000 in
set_option maxHeartbeats 0 in
theorem K23.ws:PySem.Challenge.rw_makes_k23_values_by_kind.wellSaid=true:=by
 delta OpenLaw.wellSaid
 iterate 18 refine look_both ?_ ?_
 case _ =>
  delta OpenRow.wellSaid
  refine look_both (look_both ?_ ?_) ?_
  case _ =>
   delta OpenRow.partSaid
   iterate 13 refine look_both ?_ ?_
   case _ =>
    delta looksOpen
    iterate 5 refine look_both ?_ ?_
    all_goals decide +kernel
   all_goals decide +kernel
  all_goals decide +kernel
 all_goals decide +kernel
set_option maxRecDepth 100000 in
set_option maxHeartbeats 0 in
theorem PySem.Challenge.cw_makes_k23_values_by_kind_holds : PySem.Challenge.rw_makes_k23_values_by_kind.Holds := by
 w_on
 refine holds_law K23.ws fun said=>?_
 refine holds_open (q:=K23.viewK) (loose:=K23.U0) (XP:=XL K23.viewK []) (YP:=Hook.says (W.kHook K23.heapK K23.asK K23.qc)) (N:=3352)
  K23.leftK (Hook.of (W.kHook K23.heapK K23.asK K23.qc)) (Hook.keeps (W.kHook K23.heapK K23.asK K23.qc)) (fun s e=>xl_of s (fq.mp e).1)
  XL.keeps (by rfl) (by rfl) (by rfl) (fun s e=>recFacts_of (fq.mp e).2) (by rfl) (by assumption)
  (by decide +kernel) ⟨rfl,rfl,rfl,rfl,rfl,by decide +kernel⟩ ?hw ?hc
 case hw=>w_witness2
 k_fill
 refine K23.walk (l:=PySem.Challenge.rw_makes_k23_values_by_kind) rfl rfl (fun w h Y=>W.kIn_of Y) ?F
 case F =>
  intro w mg fa h KX G hmg;refine' K23.all_mk KX G hmg ?h1 ?h2 ?h3 ?h4 ?h5 ?h6 ?h7 ?h8 ?h9 ?Eg ?h11 ?h12 ?h13 ?h14 ?h15 ?h16 ?h17 ?h18 ?h19 ?h20 ?h21 ?h22 ?h23 ?h24 ?h25 ?h26 ?h27 ?h28 ?h29 ?h30 ?h31 ?h32 ?h33 ?h34 ?h35 ?h36 ?h37 ?h38 ?h39 ?h40 ?h41 ?h42 ?h43 ?h44 ?h45 ?h46 ?h47 ?h48 ?h49 ?h50 ?h51 ?h52 ?Px ?Xo ?G6 ?Gv ?M0 ?M3 ?Pq ?Zj6 ?Zj9 ?Zj8 ?Zj5 ?Zj4 ?B3 ?Xu ?bq ?Zj2 ?Zj7 ?Zj1 ?bg ?bj ?Xa ?Zj0 ?T8 ?Em ?bz ?Zj3
  case h1|h2|h3|h4|h5|h6|h7|h8|h9|Eg|h11|h12|h13|h14|h15|h16|h17|h18|h19|h20|h21|h22|h23|h24|h25|h26|h27|h28|h29|h30|h31|h32|h33|h34|h35|h36|h37|h38|h39|h40|h41|h42|h43|h44|h45|h46|h47|h48|h49|h50|h51|h52=>exact⟨by k_is,L2.Z3 (by k_is) (by k_is) (by k_is)⟩
  case Px|Xo|G6|Gv|M0|M3|Pq|Zj6|Zj9|Zj8|Zj5|Zj4|B3|Xu|bq|Zj2|Zj7|Zj1|bg|bj|Xa|Zj0|T8|Em|bz|Zj3=>k_is
