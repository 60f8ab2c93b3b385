import PyProof.Rows.All
import Wide.All
import OpenK.AllK
import Wide.FinOn
import PySem.Challenge.RW_makes_k40_right_pairs
set_option genSizeOf false
set_option genInjectivity false
set_option bootstrap.genMatcherCode false
noncomputable section
set_option maxHeartbeats 2000000
set_option Elab.async false
set_option linter.all false
set_option maxRecDepth 100000
local macro_rules | `(tactic| trivial) => `(tactic| first | exact .inl rfl | exact .inr rfl | rfl | decide | (intro _; rfl) | exact Or.inl rfl | exact Or.inr rfl | assumption | exact ⟨rfl, rfl, rfl, by decide +kernel, rfl, by decide +kernel, by decide +kernel⟩ | fail)
theorem XS{p:Prop}(h:p:=by omega):p:=h
theorem XH{p:Prop}(h:p:=by decide +kernel):p:=h
theorem XU{p:Prop}(h:p:=by decide):p:=h
theorem XA{p:Prop}(h:p:=by simp):p:=h
section
open PySem
abbrev XT:List Str:=["_law_script","_law_tape_here","_law_one","_law_other"]
abbrev XC:List Str:=["shape","value","other_shape","told"]
abbrev XN:List Str:=["_law_number","_law_tape_here"]
abbrev XR:List Str:=["_law_shape"]
end
def XF:=@List.find?_eq_none
def XG:=@Int.toNat_natCast
def XY:=@List.length_set
def XJ:=@List.length_range
def XQ:=@List.append_nil
def XX:=@List.append_assoc
def XZ:=@List.any_eq_true
def ZE:=@List.pairwise_cons
def ZI:=@List.length_singleton
def ZO:=@Option.bind_eq_some_iff
section
open PySem
abbrev ZW:=Value->Shared->Prop
abbrev ZV:=Str->Option Value
abbrev ZY:=List (Addr×Obj)
abbrev ZK:=List (Str×NameKind)
abbrev ZG:=List (Option Nat)
abbrev ZF:=Array (Option Value)
abbrev ZM:=List Value
abbrev ZD:=List Str
abbrev ZT:=Option Value
abbrev ZC:=List Expr
abbrev ZN:=Array Value
abbrev ZL:=List Int
abbrev ZR:=Option Int
abbrev ZS:=Array Nat
abbrev ZH:=Option Nat
abbrev ZP:=Option Addr
abbrev ZU:=List Addr
abbrev ZA:=Unit->Shared->Prop
end
section
open PySem PyProof.Rows
def Vq:=@List.length_map
def U2:=@List.not_mem_nil
def Ul:=@List.size_toArray
def F8:=@List.mem_singleton
def Ku:=@List.map_append
def Mz:=@decide_eq_true
def Vy:=@Nat.le_refl
def Zt:=@wpAny_bind
def Yl:=@wpAny_pure
def Og:=@List.mem_map
def Oj:=@List.getElem?_map
def W8:=@List.getElem?_eq_some_iff
def yk:=@List.mem_append
def Yr:=@Option.map_eq_some_iff
def W7:=@List.length_append
def D8:=@Option.some.inj
def V4:=@List.mem_cons_self
def Uz:=@List.mem_cons_of_mem
def G0l:=@List.getElem?_append_left
def G0e:=@List.getElem_mem
def Vj:=@List.forall_mem_cons
def B0f:=@Bool.false_eq_true
def Tc:=@List.getElem?_eq_getElem
def B0n:=@beq_eq_false_iff_ne
def F7:=@Nat.lt_of_lt_of_le
def Rz:=@List.length_cons
def C9:=@List.map_cons
def Vp:=@Heap.get?_push_of_some
def Y8:=@List.mem_cons
def B0s:=@beq_self_eq_true
def D9:=@of_decide_eq_true
def Vl:=@Bool.and_eq_true
def Tg:=@Nat.le_trans
def Nj:=@Bool.false_ne_true
def Mp:=@Heap.get?_push_size
def V5:=@Heap.lt_size
def L0t:=@List.length_take
def T0l:=@List.take_of_length_le
def Io:=@Nat.zero_le
def yf:=@Array.length_toList
def Tf:=@Nat.ne_of_lt
def yq:=@List.all_eq_true
def B0z:=@Bool.and_eq_true_iff
def Bf:=@decide_eq_false
def og:=@List.mem_append_right
def T0g:=@List.take_length
def ou:=@Array.getElem?_eq_getElem
end
namespace L2
open PySem PySem.Spec PyProof.Rows
noncomputable def inClass(s:Stmt)(j:Nat):Stmt:=match s with
 | .ClassDef _ _ _ body _ _ _ _ _ _ _=>body.getD j (.Pass ⟨0,0,0,0⟩)
 | _=>.Pass ⟨0,0,0,0⟩
noncomputable def Uy(s:Stmt):Arguments:=match s with
 | .FunctionDef _ a _ _ _ _ _ _ _ _=>a
 | _=>{ posonlyargs:=[],args:=[],vararg:=none,kwonlyargs:=[],kw_defaults:=[],kwarg:=none,defaults:=[] }
def Yp(s:Stmt):List Stmt:=match s with
 | .FunctionDef _ _ b _ _ _ _ _ _ _=>b
 | _=>[]
noncomputable def Zv(s:Stmt):Scope:=match s with
 | .FunctionDef _ _ _ _ _ _ sc _ _ _=>sc
 | _=>{ kind:=.function,names:=[],isGenerator:=false,isCoroutine:=false }
end L2
namespace K40
open PySem PySem.Spec PyProof.Rows
noncomputable def top(i:Nat):Stmt:=PySem.Challenge.pw_makes_k40_right_pairs.main.body.getD i (.Pass ⟨0,0,0,0⟩)
end K40
namespace L2
open PySem PySem.W PySem.Calls PyProof.Rows
section
variable{tb:String->Option Builtin}{p:Program}{w:World}{m:Nat}{a:ZT}
def Zzs(tb:String->Option Builtin)(p:Program)(w:World)(m:Nat)(a:ZT):Nat->SharedT->Thread->Option SharedT
 | 0,_,_=>none
 | k+1,s,t=>bif through t then some s else bif stepOk m a t then (match stepT (denote tb) p w s t with | some (s',t')=>Zzs tb p w m a k s' t' | none=>none) else none
theorem Xa:∀{k:Nat} {s s':SharedT} {t:Thread},Zzs tb p w m a k s t=some s'->topRun tb p w m a k s.abs t=some s'.abs
 | 0,_,_,_,h=>by cases h
 | k+1,s,s',t,h=>by
  unfold Zzs at h;unfold topRun;cases ht:through t with
  | true=>rw[ht]at h;cases h;rfl
  | false =>
   rw[ht]at h;cases hk:stepOk m a t with
   | false=>rw[hk]at h;cases h
   | true =>
    rw[hk]at h;cases hs:stepT (denote tb) p w s t with
    | none=>rw[hs]at h;cases h
    | some r =>
     obtain⟨s₂,t₂⟩:=r;rw[hs]at h;rw[stepT_spec hs];exact Xa h
end
noncomputable def mkT:List Obj->Nat->BT->BT
 | [],_,t=>t
 | o::l,i,t=>mkT l (i+1) (t.ins i o)
noncomputable abbrev Kj(w:World)(os:OsState):Shared:=⟨boot_heap w.params,Array.mk [],boot_drawn,boot_toks,os⟩
noncomputable abbrev Zwh(w:World)(os:OsState):SharedT:=⟨mkT (boot_heap w.params).objs.toList 0 .nil,(boot_heap w.params).objs.size,(boot_heap w.params).life,Array.mk [],boot_drawn,boot_toks,os⟩
theorem boot_abs(w:World)(os:OsState):(Zwh w os).abs=Kj w os:=by kernel_rfl
noncomputable abbrev W3(p:Program)(N:Nat)(w:World)(os:OsState):Option SharedT:=Zzs treeTable p w (boot_heap w.params).objs.size ((boot_heap w.params).nsMap mainGlobals "__annotations__") N (Zwh w os) (topStub p)
noncomputable abbrev uk(p:Program)(w:World)(s:Shared):Bool:=staticsOk (importedModules p.main.body) (boot_heap w.params) s.heap&&namesBound p s.heap&&gensDone s&&laidKept (boot_heap w.params) s.heap
theorem ns_ok(w:World):((boot_heap w.params).isNs mainGlobals&&(Array.mk []:Array GenState).size==0)=true:=by kernel_rfl
theorem D5{Z:Type _}{o:Option SharedT}{f:Shared->Z}{r:Z}(h:(o.map λs=>f s.abs)=some r):∃s,o=some s/\f s.abs=r:=by
 obtain⟨s,e,q⟩:=Yr.mp h;exact⟨s,e,q⟩
theorem top_of{Z U:Type}{p:Program}{N:Nat}{w:World}{os:OsState}{f:Shared->Z}{g:Shared->U}{x:Z}{y:U}(h1:((W3 p N w os).map λs=>uk p w s.abs)=some true)
  (h2:((W3 p N w os).map λs=>f s.abs)=some x) (h3:((W3 p N w os).map λs=>g s.abs)=some y) :
  (topFrom treeTable p w N (Kj w os)).map (λs=>(f s,g s))=some (x,y):=by
 obtain⟨s,e,c⟩:=D5 h1;obtain⟨s2,e2,c2⟩:=D5 h2;obtain⟨s3,e3,c3⟩:=D5 h3;rw[e]at e2 e3;cases e2;cases e3;have r:=Xa e;rw[boot_abs]at r;unfold topFrom;rw[show ((Kj w os).heap.isNs mainGlobals&&(Kj w os).gens.size==0)=true from ns_ok w];show Option.map _ (Option.bind (topRun treeTable p w (boot_heap w.params).objs.size ((boot_heap w.params).nsMap mainGlobals "__annotations__") N (Kj w os) (topStub p)) _)=_;rw[r];show Option.map _ (match uk p w s.abs with | true=>some s.abs | false=>none)=_;rw[c];show some (f s.abs,g s.abs)=_;rw[c2,c3]
end L2
namespace K40
open PySem PySem.Spec PyProof.Rows L2
noncomputable def viewK:Program:={ PySem.Challenge.pw_makes_k40_right_pairs with main:={ PySem.Challenge.pw_makes_k40_right_pairs.main with body:=[top 1,top 2,top 3,top 4,top 5,top 6,top 7,top 8,top 9,top 10,top 11,top 12,top 13,top 14,top 15,top 16,top 17,top 18,top 19,top 20,top 22,top 23,top 24,top 25,top 26,top 27,top 29,top 31,top 32,top 33,top 34,top 35,top 36,top 37,top 38,top 40,top 41,top 43,top 44,top 45,top 46,top 47,top 48,top 50,top 51,top 52,top 53,top 54,top 55,top 57,top 58,top 59,top 60,top 61,top 62,top 63,top 64,top 65,top 66,top 67,top 68,top 69,top 70,top 71,top 72,top 73,top 74,top 75,top 76,top 77,top 78,top 79,top 80,top 81] } }
noncomputable def Y1:ZD:=["ITEM_SORTS"]
abbrev en(P:Params)(x:Str)(t:Tok)(v:Value):DictEntry:=⟨PyData.keyHash P x,.str x t,v⟩
noncomputable abbrev fo(cls:Value)(nm q:Str)(s:Stmt)(kw doc pm:Value)(an:ZP)(cd ct:Value)(sl:ZF):Obj:=⟨cls,none,.func (W.fnOf nm q (L2.Uy s) (L2.Yp s) (L2.Zv s) .none kw doc pm an cd ct),sl⟩
noncomputable abbrev fn(nm q:Str)(s:Stmt)(md:Str)(t:Nat)(c:Addr):Obj:=fo (.type "function") nm q s .none .none (.str md t) .none (.ref c) .none #[]
noncomputable abbrev cd(x:Str)(a:Nat)(q:Str)(b c:Nat)(l k:Int)(r1 r2 r3 r4 r5:Addr)(e f:Int)(g:Nat):Obj:=⟨.type "code",.none,.fields #[.str x a,.str q b,.str "/claim/cut.py" c,.int l 0,.int k 0,.int 0 0,.int 0 0,.int 3 0,.ref r1,.bool Bool.true,.int 181 0,.ref r2,.none,.ref r3,.ref r4,.ref r5,.int e 0,.int f 0,.str "/claim/cut.py" g], #[]⟩
noncomputable def heapK:Params->W.Frag:=λP =>
 (nat_lit 3, ⟨.type "dict", .none, .dict #[en P "__name__" 165 (.str "law_makes_k40_right_pairs" 562), en P "__doc__" 166 (.none), en P "__package__" 167 (.none), en P "__loader__" 168 (.builtin "__main__.__loader__#opaque"), en P "__spec__" 169 (.none), en P "__annotations__" 170 (.ref 6), en P "__builtins__" 171 (.ref 4), en P "__file__" 173 (.str "/claim/cut.py" 172), en P "__cached__" 174 (.none), en P "LETTERS" 190 (.str "abcdefghijklmnopqrstuvwxyz" 189), en P "SIGNS" 192 (.str " !\"#$&'()*+,-./0123456789:;<=>?@ABCDEFGHIJKLMNOPQRSTUVWXYZ[\\]^_`abcdefghijklmnopqrstuvwxyz{|}~" 191), en P "GREATEST_WHOLE" 194 (.int 1000000000000000000 193), en P "GREATEST_NUMBER" 196 (.int 999 195), en P "LONGEST_TEXT" 198 (.int 200 197), en P "LONGEST_NAME" 200 (.int 8 199), en P "DEEPEST" 202 (.int 100 201), en P "is_whole" 211 (.ref 21), en P "is_item_whole" 218 (.ref 28), en P "is_number" 225 (.ref 35), en P "is_text" 231 (.ref 40), en P "is_name" 237 (.ref 45), en P "rises" 243 (.ref 50), en P "is_item" 249 (.ref 55), en P "level_below" 258 (.ref 62), en P "items_in" 264 (.ref 67), en P "is_right_outside" 271 (.ref 74), en P "is_right_behind" 277 (.ref 79), en P "are_pairs" 283 (.ref 84), en P "are_labels" 289 (.ref 89), en P "ITEM_SORTS" 313 (.ref 90), en P "is_single_value" 321 (.ref 97), en P "item_sort" 328 (.ref 104), en P "bounds_of" 335 (.ref 111), en P "member_of" 344 (.ref 118), en P "may_be_left_out" 351 (.ref 125), en P "form_of" 361 (.ref 132), en P "is_value" 372 (.ref 139), en P "is_right_through" 385 (.ref 146), en P "parts_in" 395 (.ref 153), en P "parts_in_row" 401 (.ref 158), en P "parts_in_map" 407 (.ref 163), en P "parts_in_record" 413 (.ref 168), en P "are_others" 419 (.ref 173), en P "parts_in_choice" 430 (.ref 180), en P "written" 438 (.ref 185), en P "written_fields" 444 (.ref 190), en P "tells_alike" 460 (.ref 197), en P "parts_of_both" 474 (.ref 204), en P "parts_of_rows" 480 (.ref 209), en P "parts_of_maps" 486 (.ref 214), en P "parts_of_records" 492 (.ref 219), en P "parts_of_choices" 505 (.ref 226), en P "holds" 516 (.ref 233), en P "is_right_pair" 522 (.ref 238), en P "are_right_fields" 535 (.ref 245), en P "may_lack" 541 (.ref 250), en P "are_left_out_alike" 551 (.ref 257), en P "is_right_arm" 561 (.ref 264), en P "_law_tape" 570 (.ref 271), en P "_law_draw" 583 (.ref 278), en P "_law_price" 589 (.ref 283), en P "_law_prices" 600 (.ref 290), en P "_law_light" 609 (.ref 297), en P "_law_word" 615 (.ref 302), en P "_law_names" 621 (.ref 307), en P "_law_plain" 630 (.ref 314), en P "_law_default" 638 (.ref 321), en P "_law_numbers" 644 (.ref 326), en P "_law_parts" 658 (.ref 333), en P "_law_struck" 664 (.ref 338), en P "_law_make" 670 (.ref 343), en P "_law_number_turned" 680 (.ref 350), en P "_law_shape_turned" 686 (.ref 355), en P "_law_fixed" 700 (.ref 362), en P "_law_turned" 712 (.ref 369), en P "_law_bounds" 719 (.ref 376), en P "_law_holds" 728 (.ref 383), en P "_law_alike" 734 (.ref 388), en P "_law_fields_right" 740 (.ref 393), en P "_law_pair_right" 746 (.ref 398), en P "_law_paper" 752 (.ref 403), en P "_law_right" 766 (.ref 410), en P "law" 776 (.ref 417)] 83, #[]⟩) ::
 (nat_lit 20,cd "is_whole" 203 "is_whole" 204 205 9 3 15 16 17 18 19 209 9 210) ::
 (nat_lit 21,fn "is_whole" "is_whole" (top 8) "makes.items" 187 20) ::
 (nat_lit 39,⟨.type "code",.none,.fields #[.str "is_text" 226,.str "is_text" 227,.str "/claim/cut.py" 228,.int 15 0,.int 2 0,.int 0 0,.int 0 0,.int 3 0,.ref 36,.bool Bool.true,.int 181 0,.ref 37,.none,.none,.none,.ref 38,.int 229 0,.int 15 0,.str "/claim/cut.py" 230], #[]⟩) ::
 (nat_lit 40,fn "is_text" "is_text" (top 11) "makes.items" 187 39) ::
 (nat_lit 49,⟨.type "code",.none,.fields #[.str "rises" 238,.str "rises" 239,.str "/claim/cut.py" 240,.int 21 0,.int 1 0,.int 0 0,.int 0 0,.int 3 0,.ref 46,.bool Bool.true,.int 181 0,.ref 47,.none,.none,.none,.ref 48,.int 241 0,.int 21 0,.str "/claim/cut.py" 242], #[]⟩) ::
 (nat_lit 50,fn "rises" "rises" (top 13) "makes.items" 187 49) ::
 (nat_lit 83,⟨.type "code",.none,.fields #[.str "are_pairs" 278,.str "are_pairs" 279,.str "/claim/cut.py" 280,.int 63 0,.int 1 0,.int 0 0,.int 0 0,.int 3 0,.ref 80,.bool Bool.true,.int 181 0,.ref 81,.none,.none,.none,.ref 82,.int 281 0,.int 63 0,.str "/claim/cut.py" 282], #[]⟩) ::
 (nat_lit 84,fn "are_pairs" "are_pairs" (top 19) "makes.items" 187 83) ::
 (nat_lit 88,⟨.type "code",.none,.fields #[.str "are_labels" 284,.str "are_labels" 285,.str "/claim/cut.py" 286,.int 65 0,.int 2 0,.int 0 0,.int 0 0,.int 3 0,.ref 85,.bool Bool.true,.int 181 0,.ref 86,.none,.none,.none,.ref 87,.int 287 0,.int 65 0,.str "/claim/cut.py" 288], #[]⟩) ::
 (nat_lit 89,fn "are_labels" "are_labels" (top 20) "makes.items" 187 88) ::
 (nat_lit 90,⟨.type "dict",.none,.dict #[en P "whole" 292 (.str "whole" 293),en P "truth" 294 (.str "whole" 295),en P "text" 296 (.str "text" 297),en P "row" 298 (.str "row" 299),en P "map" 300 (.str "map" 301),en P "record" 302 (.str "rec" 303),en P "choice" 304 (.str "arm" 305)] 7, #[]⟩) ::
 (nat_lit 96,cd "is_single_value" 314 "is_single_value" 315 316 69 2 91 92 93 94 95 319 69 320) ::
 (nat_lit 97,fn "is_single_value" "is_single_value" (top 23) "makes.shapes" 290 96) ::
 (nat_lit 103,cd "item_sort" 322 "item_sort" 323 324 75 1 98 99 100 101 102 326 75 327) ::
 (nat_lit 104,fn "item_sort" "item_sort" (top 24) "makes.shapes" 290 103) ::
 (nat_lit 110,cd "bounds_of" 329 "bounds_of" 330 331 77 1 105 106 107 108 109 333 77 334) ::
 (nat_lit 111,fn "bounds_of" "bounds_of" (top 25) "makes.shapes" 290 110) ::
 (nat_lit 117,cd "member_of" 336 "member_of" 337 338 79 2 112 113 114 115 116 342 79 343) ::
 (nat_lit 118,fn "member_of" "member_of" (top 26) "makes.shapes" 290 117) ::
 (nat_lit 124,cd "may_be_left_out" 345 "may_be_left_out" 346 347 84 1 119 120 121 122 123 349 84 350) ::
 (nat_lit 125,fn "may_be_left_out" "may_be_left_out" (top 27) "makes.shapes" 290 124) ::
 (nat_lit 131,cd "form_of" 354 "form_of" 355 356 87 2 126 127 128 129 130 359 87 360) ::
 (nat_lit 132,fn "form_of" "form_of" (top 29) "makes.forms" 352 131) ::
 (nat_lit 138,cd "is_value" 364 "is_value" 365 366 90 3 133 134 135 136 137 370 90 371) ::
 (nat_lit 139,fn "is_value" "is_value" (top 31) "makes.values" 362 138) ::
 (nat_lit 145,cd "is_right_through" 373 "is_right_through" 374 375 92 4 140 141 142 143 144 383 92 384) ::
 (nat_lit 146,fn "is_right_through" "is_right_through" (top 32) "makes.values" 362 145) ::
 (nat_lit 152,cd "parts_in" 386 "parts_in" 387 388 101 3 147 148 149 150 151 393 101 394) ::
 (nat_lit 153,fn "parts_in" "parts_in" (top 33) "makes.values" 362 152) ::
 (nat_lit 157,⟨.type "code",.none,.fields #[.str "parts_in_row" 396,.str "parts_in_row" 397,.str "/claim/cut.py" 398,.int 112 0,.int 2 0,.int 0 0,.int 0 0,.int 3 0,.ref 154,.bool Bool.true,.int 181 0,.ref 155,.none,.none,.none,.ref 156,.int 399 0,.int 112 0,.str "/claim/cut.py" 400], #[]⟩) ::
 (nat_lit 158,fn "parts_in_row" "parts_in_row" (top 34) "makes.values" 362 157) ::
 (nat_lit 162,⟨.type "code",.none,.fields #[.str "parts_in_map" 402,.str "parts_in_map" 403,.str "/claim/cut.py" 404,.int 116 0,.int 2 0,.int 0 0,.int 0 0,.int 3 0,.ref 159,.bool Bool.true,.int 181 0,.ref 160,.none,.none,.none,.ref 161,.int 405 0,.int 116 0,.str "/claim/cut.py" 406], #[]⟩) ::
 (nat_lit 163,fn "parts_in_map" "parts_in_map" (top 35) "makes.values" 362 162) ::
 (nat_lit 196,cd "tells_alike" 447 "tells_alike" 448 449 161 6 191 192 193 194 195 458 161 459) ::
 (nat_lit 197,fn "tells_alike" "tells_alike" (top 43) "makes.alike" 445 196) ::
 (nat_lit 203,cd "parts_of_both" 461 "parts_of_both" 462 463 171 3 198 199 200 201 202 472 171 473) ::
 (nat_lit 204,fn "parts_of_both" "parts_of_both" (top 44) "makes.alike" 445 203) ::
 (nat_lit 208,⟨.type "code",.none,.fields #[.str "parts_of_rows" 475,.str "parts_of_rows" 476,.str "/claim/cut.py" 477,.int 188 0,.int 4 0,.int 0 0,.int 0 0,.int 3 0,.ref 205,.bool Bool.true,.int 181 0,.ref 206,.none,.none,.none,.ref 207,.int 478 0,.int 188 0,.str "/claim/cut.py" 479], #[]⟩) ::
 (nat_lit 209,fn "parts_of_rows" "parts_of_rows" (top 45) "makes.alike" 445 208) ::
 (nat_lit 213,⟨.type "code",.none,.fields #[.str "parts_of_maps" 481,.str "parts_of_maps" 482,.str "/claim/cut.py" 483,.int 192 0,.int 4 0,.int 0 0,.int 0 0,.int 3 0,.ref 210,.bool Bool.true,.int 181 0,.ref 211,.none,.none,.none,.ref 212,.int 484 0,.int 192 0,.str "/claim/cut.py" 485], #[]⟩) ::
 (nat_lit 214,fn "parts_of_maps" "parts_of_maps" (top 46) "makes.alike" 445 213) ::
 (nat_lit 232,cd "holds" 508 "holds" 509 510 215 3 227 228 229 230 231 514 215 515) ::
 (nat_lit 233,fn "holds" "holds" (top 50) "makes.checker" 506 232) ::
 (nat_lit 237,⟨.type "code",.none,.fields #[.str "is_right_pair" 517,.str "is_right_pair" 518,.str "/claim/cut.py" 519,.int 217 0,.int 4 0,.int 0 0,.int 0 0,.int 3 0,.ref 234,.bool Bool.true,.int 181 0,.ref 235,.none,.none,.none,.ref 236,.int 520 0,.int 217 0,.str "/claim/cut.py" 521], #[]⟩) ::
 (nat_lit 238,fn "is_right_pair" "is_right_pair" (top 51) "makes.checker" 506 237) ::
 (nat_lit 244,cd "are_right_fields" 523 "are_right_fields" 524 525 236 5 239 240 241 242 243 533 236 534) ::
 (nat_lit 245,fn "are_right_fields" "are_right_fields" (top 52) "makes.checker" 506 244) ::
 (nat_lit 249,⟨.type "code",.none,.fields #[.str "may_lack" 536,.str "may_lack" 537,.str "/claim/cut.py" 538,.int 245 0,.int 2 0,.int 0 0,.int 0 0,.int 3 0,.ref 246,.bool Bool.true,.int 181 0,.ref 247,.none,.none,.none,.ref 248,.int 539 0,.int 245 0,.str "/claim/cut.py" 540], #[]⟩) ::
 (nat_lit 250,fn "may_lack" "may_lack" (top 53) "makes.checker" 506 249) ::
 (nat_lit 256,cd "are_left_out_alike" 542 "are_left_out_alike" 543 544 247 4 251 252 253 254 255 549 247 550) ::
 (nat_lit 257,fn "are_left_out_alike" "are_left_out_alike" (top 54) "makes.checker" 506 256) ::
 (nat_lit 263,cd "is_right_arm" 552 "is_right_arm" 553 554 253 3 258 259 260 261 262 559 253 560) ::
 (nat_lit 264,fn "is_right_arm" "is_right_arm" (top 55) "makes.checker" 506 263) ::
 (nat_lit 270,cd "_law_tape" 564 "_law_tape" 565 566 259 1 265 266 267 268 269 568 259 569) ::
 (nat_lit 271,fn "_law_tape" "_law_tape" (top 57) "law_makes_k40_right_pairs" 562 270) ::
 (nat_lit 277,cd "_law_draw" 571 "_law_draw" 572 573 261 2 272 273 274 275 276 581 261 582) ::
 (nat_lit 278,fn "_law_draw" "_law_draw" (top 58) "law_makes_k40_right_pairs" 562 277) ::
 (nat_lit 282,⟨.type "code",.none,.fields #[.str "_law_price" 584,.str "_law_price" 585,.str "/claim/cut.py" 586,.int 279 0,.int 2 0,.int 0 0,.int 0 0,.int 3 0,.ref 279,.bool Bool.true,.int 181 0,.ref 280,.none,.none,.none,.ref 281,.int 587 0,.int 279 0,.str "/claim/cut.py" 588], #[]⟩) ::
 (nat_lit 283,fn "_law_price" "_law_price" (top 59) "law_makes_k40_right_pairs" 562 282) ::
 (nat_lit 289,cd "_law_prices" 590 "_law_prices" 591 592 287 1 284 285 286 287 288 598 287 599) ::
 (nat_lit 290,fn "_law_prices" "_law_prices" (top 60) "law_makes_k40_right_pairs" 562 289) ::
 (nat_lit 296,cd "_law_light" 601 "_law_light" 602 603 295 2 291 292 293 294 295 607 295 608) ::
 (nat_lit 297,fn "_law_light" "_law_light" (top 61) "law_makes_k40_right_pairs" 562 296) ::
 (nat_lit 301,⟨.type "code",.none,.fields #[.str "_law_word" 610,.str "_law_word" 611,.str "/claim/cut.py" 612,.int 301 0,.int 1 0,.int 0 0,.int 0 0,.int 3 0,.ref 298,.bool Bool.true,.int 181 0,.ref 299,.none,.none,.none,.ref 300,.int 613 0,.int 301 0,.str "/claim/cut.py" 614], #[]⟩) ::
 (nat_lit 302,fn "_law_word" "_law_word" (top 62) "law_makes_k40_right_pairs" 562 301) ::
 (nat_lit 306,⟨.type "code",.none,.fields #[.str "_law_names" 616,.str "_law_names" 617,.str "/claim/cut.py" 618,.int 303 0,.int 1 0,.int 0 0,.int 0 0,.int 3 0,.ref 303,.bool Bool.true,.int 181 0,.ref 304,.none,.none,.none,.ref 305,.int 619 0,.int 303 0,.str "/claim/cut.py" 620], #[]⟩) ::
 (nat_lit 307,fn "_law_names" "_law_names" (top 63) "law_makes_k40_right_pairs" 562 306) ::
 (nat_lit 313,cd "_law_plain" 622 "_law_plain" 623 624 307 2 308 309 310 311 312 628 307 629) ::
 (nat_lit 314,fn "_law_plain" "_law_plain" (top 64) "law_makes_k40_right_pairs" 562 313) ::
 (nat_lit 320,cd "_law_default" 631 "_law_default" 632 633 312 2 315 316 317 318 319 636 312 637) ::
 (nat_lit 321,fn "_law_default" "_law_default" (top 65) "law_makes_k40_right_pairs" 562 320) ::
 (nat_lit 325,⟨.type "code",.none,.fields #[.str "_law_numbers" 639,.str "_law_numbers" 640,.str "/claim/cut.py" 641,.int 320 0,.int 1 0,.int 0 0,.int 0 0,.int 3 0,.ref 322,.bool Bool.true,.int 181 0,.ref 323,.none,.none,.none,.ref 324,.int 642 0,.int 320 0,.str "/claim/cut.py" 643], #[]⟩) ::
 (nat_lit 326,fn "_law_numbers" "_law_numbers" (top 66) "law_makes_k40_right_pairs" 562 325) ::
 (nat_lit 332,cd "_law_parts" 645 "_law_parts" 646 647 323 4 327 328 329 330 331 656 323 657) ::
 (nat_lit 333,fn "_law_parts" "_law_parts" (top 67) "law_makes_k40_right_pairs" 562 332) ::
 (nat_lit 337,⟨.type "code",.none,.fields #[.str "_law_struck" 659,.str "_law_struck" 660,.str "/claim/cut.py" 661,.int 332 0,.int 2 0,.int 0 0,.int 0 0,.int 3 0,.ref 334,.bool Bool.true,.int 181 0,.ref 335,.none,.none,.none,.ref 336,.int 662 0,.int 332 0,.str "/claim/cut.py" 663], #[]⟩) ::
 (nat_lit 338,fn "_law_struck" "_law_struck" (top 68) "law_makes_k40_right_pairs" 562 337) ::
 (nat_lit 342,⟨.type "code",.none,.fields #[.str "_law_make" 665,.str "_law_make" 666,.str "/claim/cut.py" 667,.int 335 0,.int 1 0,.int 0 0,.int 0 0,.int 3 0,.ref 339,.bool Bool.true,.int 181 0,.ref 340,.none,.none,.none,.ref 341,.int 668 0,.int 335 0,.str "/claim/cut.py" 669], #[]⟩) ::
 (nat_lit 343,fn "_law_make" "_law_make" (top 69) "law_makes_k40_right_pairs" 562 342) ::
 (nat_lit 349,cd "_law_number_turned" 671 "_law_number_turned" 672 673 353 4 344 345 346 347 348 678 353 679) ::
 (nat_lit 350,fn "_law_number_turned" "_law_number_turned" (top 70) "law_makes_k40_right_pairs" 562 349) ::
 (nat_lit 354,⟨.type "code",.none,.fields #[.str "_law_shape_turned" 681,.str "_law_shape_turned" 682,.str "/claim/cut.py" 683,.int 355 0,.int 3 0,.int 0 0,.int 0 0,.int 3 0,.ref 351,.bool Bool.true,.int 181 0,.ref 352,.none,.none,.none,.ref 353,.int 684 0,.int 355 0,.str "/claim/cut.py" 685], #[]⟩) ::
 (nat_lit 355,fn "_law_shape_turned" "_law_shape_turned" (top 71) "law_makes_k40_right_pairs" 562 354) ::
 (nat_lit 361,cd "_law_fixed" 687 "_law_fixed" 688 689 388 2 356 357 358 359 360 698 388 699) ::
 (nat_lit 362,fn "_law_fixed" "_law_fixed" (top 72) "law_makes_k40_right_pairs" 562 361) ::
 (nat_lit 368,cd "_law_turned" 701 "_law_turned" 702 703 406 2 363 364 365 366 367 710 406 711) ::
 (nat_lit 369,fn "_law_turned" "_law_turned" (top 73) "law_makes_k40_right_pairs" 562 368) ::
 (nat_lit 375,cd "_law_bounds" 713 "_law_bounds" 714 715 415 1 370 371 372 373 374 717 415 718) ::
 (nat_lit 376,fn "_law_bounds" "_law_bounds" (top 74) "law_makes_k40_right_pairs" 562 375) ::
 (nat_lit 382,cd "_law_holds" 720 "_law_holds" 721 722 417 3 377 378 379 380 381 726 417 727) ::
 (nat_lit 383,fn "_law_holds" "_law_holds" (top 75) "law_makes_k40_right_pairs" 562 382) ::
 (nat_lit 387,⟨.type "code",.none,.fields #[.str "_law_alike" 729,.str "_law_alike" 730,.str "/claim/cut.py" 731,.int 419 0,.int 3 0,.int 0 0,.int 0 0,.int 3 0,.ref 384,.bool Bool.true,.int 181 0,.ref 385,.none,.none,.none,.ref 386,.int 732 0,.int 419 0,.str "/claim/cut.py" 733], #[]⟩) ::
 (nat_lit 388,fn "_law_alike" "_law_alike" (top 76) "law_makes_k40_right_pairs" 562 387) ::
 (nat_lit 392,⟨.type "code",.none,.fields #[.str "_law_fields_right" 735,.str "_law_fields_right" 736,.str "/claim/cut.py" 737,.int 423 0,.int 5 0,.int 0 0,.int 0 0,.int 3 0,.ref 389,.bool Bool.true,.int 181 0,.ref 390,.none,.none,.none,.ref 391,.int 738 0,.int 423 0,.str "/claim/cut.py" 739], #[]⟩) ::
 (nat_lit 393,fn "_law_fields_right" "_law_fields_right" (top 77) "law_makes_k40_right_pairs" 562 392) ::
 (nat_lit 397,⟨.type "code",.none,.fields #[.str "_law_pair_right" 741,.str "_law_pair_right" 742,.str "/claim/cut.py" 743,.int 437 0,.int 5 0,.int 0 0,.int 0 0,.int 3 0,.ref 394,.bool Bool.true,.int 181 0,.ref 395,.none,.none,.none,.ref 396,.int 744 0,.int 437 0,.str "/claim/cut.py" 745], #[]⟩) ::
 (nat_lit 398,fn "_law_pair_right" "_law_pair_right" (top 78) "law_makes_k40_right_pairs" 562 397) ::
 (nat_lit 402,⟨.type "code",.none,.fields #[.str "_law_paper" 747,.str "_law_paper" 748,.str "/claim/cut.py" 749,.int 458 0,.int 3 0,.int 0 0,.int 0 0,.int 3 0,.ref 399,.bool Bool.true,.int 181 0,.ref 400,.none,.none,.none,.ref 401,.int 750 0,.int 458 0,.str "/claim/cut.py" 751], #[]⟩) ::
 (nat_lit 403,fn "_law_paper" "_law_paper" (top 79) "law_makes_k40_right_pairs" 562 402) ::
 (nat_lit 409,cd "_law_right" 753 "_law_right" 754 755 466 3 404 405 406 407 408 764 466 765) ::
 (nat_lit 410,fn "_law_right" "_law_right" (top 80) "law_makes_k40_right_pairs" 562 409) ::
 (nat_lit 416,cd "law" 767 "law" 768 769 475 1 411 412 413 414 415 774 475 775) ::
 (nat_lit 417,fn "law" "law" (top 81) "law_makes_k40_right_pairs" 562 416) ::
 []
noncomputable def asK:ZU:=[3,20,21,39,40,49,50,83,84,88,89,90,96,97,103,104,110,111,117,118,124,125,131,132,138,139,145,146,152,153,157,158,162,163,196,197,203,204,208,209,213,214,232,233,237,238,244,245,249,250,256,257,263,264,270,271,277,278,282,283,289,290,296,297,301,302,306,307,313,314,320,321,325,326,332,333,337,338,342,343,349,350,354,355,361,362,368,369,375,376,382,383,387,388,392,393,397,398,402,403,409,410,416,417]
theorem Ox(P:Params):asK=(heapK P).map (·.1):=by kernel_rfl
noncomputable abbrev Ml:W.Hook:=W.kHook heapK asK Ox
noncomputable abbrev xtK(s:Shared):Bool:=W.xlAt viewK [] s&&W.recOk (W.RowW.records PySem.Challenge.rw_makes_k40_right_pairs.row.toRowW) s
abbrev Ii(w:World):Prop:=(W.openEnds treeTable PySem.Challenge.pw_makes_k40_right_pairs w 4486).map (λs=>(W.openSeen viewK Y1 (importedModules PySem.Challenge.pw_makes_k40_right_pairs.main.body) xtK true s,Ml.obs s))=some (W.openGood viewK Y1,Ml.val w)
abbrev Ux(s:Shared):=W.openSeen viewK Y1 (importedModules PySem.Challenge.pw_makes_k40_right_pairs.main.body) xtK true s
abbrev wK(w:World)(b:Bool):World:=w.withFollow "special-get-raises" b
abbrev pW9:=@PySem.Challenge.pw_makes_k40_right_pairs
theorem chkF(w:World)(os:OsState):((L2.W3 pW9 4486 (wK w false) os).map λs=>L2.uk pW9 (wK w false) s.abs)=some true:=by kernel_rfl
theorem chkR(w:World)(os:OsState):((L2.W3 pW9 4486 (wK w true) os).map λs=>L2.uk pW9 (wK w true) s.abs)=some true:=by kernel_rfl
theorem seenF1(w:World)(os:OsState):((L2.W3 pW9 4486 (wK w false) os).map λs=>(Ux s.abs).1)=some (W.openGood viewK Y1).1:=by kernel_rfl
theorem seenF2(w:World)(os:OsState):((L2.W3 pW9 4486 (wK w false) os).map λs=>(Ux s.abs).2.1)=some (W.openGood viewK Y1).2.1:=by kernel_rfl
theorem seenF3(w:World)(os:OsState):((L2.W3 pW9 4486 (wK w false) os).map λs=>(Ux s.abs).2.2)=some (W.openGood viewK Y1).2.2:=by kernel_rfl
theorem seenT1(w:World)(os:OsState):((L2.W3 pW9 4486 (wK w true) os).map λs=>(Ux s.abs).1)=some (W.openGood viewK Y1).1:=by kernel_rfl
theorem seenT2(w:World)(os:OsState):((L2.W3 pW9 4486 (wK w true) os).map λs=>(Ux s.abs).2.1)=some (W.openGood viewK Y1).2.1:=by kernel_rfl
theorem seenT3(w:World)(os:OsState):((L2.W3 pW9 4486 (wK w true) os).map λs=>(Ux s.abs).2.2)=some (W.openGood viewK Y1).2.2:=by kernel_rfl
theorem Xs{w:World}{os:OsState}(h1:((L2.W3 pW9 4486 w os).map λs=>(Ux s.abs).1)=some (W.openGood viewK Y1).1)(h2:((L2.W3 pW9 4486 w os).map λs=>(Ux s.abs).2.1)=some (W.openGood viewK Y1).2.1)
  (h3:((L2.W3 pW9 4486 w os).map λs=>(Ux s.abs).2.2)=some (W.openGood viewK Y1).2.2):((L2.W3 pW9 4486 w os).map λs=>Ux s.abs)=some (W.openGood viewK Y1):=by
 obtain⟨s,e,c1⟩:=L2.D5 (f:=λs=>(Ux s).1) h1;obtain⟨s2,e2,c2⟩:=L2.D5 (f:=λs=>(Ux s).2.1) h2;obtain⟨s3,e3,c3⟩:=L2.D5 (f:=λs=>(Ux s).2.2) h3;rw[e]at e2 e3;cases e2;cases e3;rw[e];exact congrArg some (Prod.ext c1 (Prod.ext c2 c3))
theorem seenF(w:World)(os:OsState):((L2.W3 pW9 4486 (wK w false) os).map λs=>Ux s.abs)=some (W.openGood viewK Y1):=Xs (seenF1 w os) (seenF2 w os) (seenF3 w os)
theorem seenT(w:World)(os:OsState):((L2.W3 pW9 4486 (wK w true) os).map λs=>Ux s.abs)=some (W.openGood viewK Y1):=Xs (seenT1 w os) (seenT2 w os) (seenT3 w os)
theorem obsF(w:World)(os:OsState):((L2.W3 pW9 4486 (wK w false) os).map λs=>Ml.obs s.abs)=some (Ml.val (wK w false)):=by kernel_rfl
theorem obsT(w:World)(os:OsState):((L2.W3 pW9 4486 (wK w true) os).map λs=>Ml.obs s.abs)=some (Ml.val (wK w true)):=by kernel_rfl
theorem zh(w:World)(h1:∀os,((L2.W3 pW9 4486 w os).map λs=>L2.uk pW9 w s.abs)=some true)(h2:∀os,((L2.W3 pW9 4486 w os).map λs=>Ux s.abs)=some (W.openGood viewK Y1))(h3:∀os,((L2.W3 pW9 4486 w os).map λs=>Ml.obs s.abs)=some (Ml.val w)):Ii w:=by
 obtain⟨⟨hp,g,d,k,os⟩,hs,hv⟩:=Yr.mp (W.boot_open (p:=PySem.Challenge.pw_makes_k40_right_pairs) (N:=4486) rfl XU (λs=>rfl) w);simp only[Prod.mk.injEq]at hv;obtain⟨rfl,rfl,rfl,rfl⟩:=hv;show Option.map _ (Option.bind (W.fencedOpening treeTable PySem.Challenge.pw_makes_k40_right_pairs w 4486) (W.topFrom treeTable PySem.Challenge.pw_makes_k40_right_pairs w 4486))=_;rw[hs];exact L2.top_of (h1 os) (h2 os) (h3 os)
theorem leftF(w:World):Ii (w.withFollow "special-get-raises" false):=zh _ (chkF w) (seenF w) (obsF w)
theorem leftT(w:World):Ii (w.withFollow "special-get-raises" true):=zh _ (chkR w) (seenT w) (obsT w)
theorem leftK:W.LeftO PySem.Challenge.pw_makes_k40_right_pairs viewK Y1 xtK Ml.obs Ml.val 4486:=W.byRow2 "special-get-raises" leftF leftT
end K40
namespace L2
open PySem PySem.Spec PyProof.Rows
abbrev Key:=Sum Int Str
noncomputable def Te:Key->Value->Bool
 | .inl k,v=>Value.isInt k v
 | .inr x,v=>Value.isStrOf x v
def keyH(w:World):Key->Int
 | .inl k=>hashInt k
 | .inr x=>hashStr w x
theorem Z5:∀{k:Key} {v:Value},Te k v=true->(∃i t,k=Sum.inl i/\v=Value.int i t)\/(∃x t,k=Sum.inr x/\v=Value.str x t)
 | .inl i,v,h=>by
  obtain⟨t,e⟩:=Value.isInt_shape (k:=i) (v:=v) h;exact .inl ⟨i,t,rfl,e⟩
 | .inr x,v,h=>by
  obtain⟨t,e⟩:=Value.isStrOf_shape (x:=x) (v:=v) h;exact .inr ⟨x,t,rfl,e⟩
theorem wm(i:Int)(t:Tok):Te (.inl i) (.int i t)=true:=by simp[Te,Value.isInt]
theorem wb(x:Str)(t:Tok):Te (.inr x) (.str x t)=true:=by simp[Te,Value.isStrOf]
theorem key_ll(a b:Int):decide ((Sum.inl a:Key)=Sum.inl b)=(a==b):=by
 by_cases e:a=b
 .subst e;simp
 .have h:¬ (Sum.inl a:Key)=Sum.inl b:=λq=>e (Sum.inl.inj q);rw[Bf h];exact(B0n.mpr e).symm
theorem key_rr(a b:Str):decide ((Sum.inr a:Key)=Sum.inr b)=decide (a=b):=by
 by_cases e:a=b
 .subst e;simp
 .have h:¬ (Sum.inr a:Key)=Sum.inr b:=λq=>e (Sum.inr.inj q);rw[Bf h,Bf e]
theorem key_lr(a:Int)(b:Str):decide ((Sum.inl a:Key)=Sum.inr b)=false:=Bf (λq=>nomatch q)
theorem key_rl(a:Str)(b:Int):decide ((Sum.inr a:Key)=Sum.inl b)=false:=Bf (λq=>nomatch q)
noncomputable def Zh(prog:Program)(w:World):PySem.KeyKind prog w Key where
 is:=Te
 hash:=keyH w
 inj:=λv a b ha hb=>by
  rcases Z5 ha with ⟨i,t,rfl,rfl⟩ | ⟨x,t,rfl,rfl⟩
  .rcases Z5 hb with ⟨j,u,rfl,e⟩ | ⟨y,u,rfl,e⟩
   .injection e with e1 _;rw[e1]
   .exact nomatch e
  .rcases Z5 hb with ⟨j,u,rfl,e⟩ | ⟨y,u,rfl,e⟩
   .exact nomatch e
   .injection e with e1 _;rw[e1]
 byValue:=λk v h=>by
  rcases Z5 h with ⟨i,t,rfl,rfl⟩ | ⟨x,t,rfl,rfl⟩<;>rfl
 pyHash:=λhv h=>by
  rcases Z5 hv with ⟨i,t,rfl,rfl⟩ | ⟨x,t,rfl,rfl⟩
  .exact wpAny_pyHash_int h
  .exact wpAny_pyHash_str h
 eqBool:=λhu hv h=>by
  rcases Z5 hu with ⟨i,t,rfl,rfl⟩ | ⟨x,t,rfl,rfl⟩
  .rcases Z5 hv with ⟨j,u,rfl,rfl⟩ | ⟨y,u,rfl,rfl⟩
   .rw[key_ll]at h;exact wpAny_eqBool_int h
   .rw[key_lr]at h;exact SeqAt.EqAt.int_str i t y u _ _ _ _ h
  .rcases Z5 hv with ⟨j,u,rfl,rfl⟩ | ⟨y,u,rfl,rfl⟩
   .rw[key_rl]at h;exact SeqAt.EqAt.str_int x t j u _ _ _ _ h
   .rw[key_rr]at h;exact wpAny_eqBool_str h
 «strs»:=λk x t v h=>by
  rcases Z5 h with ⟨i,u,rfl,e⟩ | ⟨y,u,rfl,e⟩
  .exact nomatch e
  .injection e with e1 _
   subst e1;cases v<;>rfl
theorem Ss(prog:Program)(w:World)(i:Int)(t:Tok):(Zh prog w).is (.inl i) (.int i t)=true:=wm i t
theorem Sr(prog:Program)(w:World)(x:Str)(t:Tok):(Zh prog w).is (.inr x) (.str x t)=true:=wb x t
inductive V where
 | non | bl(b:Bool) | int(i:Int) | str(x:Str) | byt(b:Array UInt8) | flt(b:UInt64) | ref(a:Addr) | ty(n:String)
 deriving DecidableEq
abbrev ZQ:=List V
abbrev ZJ:=List (Option V)
def RelV:V->Value->Prop
 | .non,u=>u=Value.none
 | .bl b,u=>u=Value.bool b
 | .int i,u=>∃t,u=Value.int i t
 | .str x,u=>∃t,u=Value.str x t
 | .byt b,u=>∃t,u=Value.bytes b t
 | .flt b,u=>∃t,u=Value.float b t
 | .ref a,u=>u=Value.ref a
 | .ty n,u=>u=Value.type n
abbrev Zd:ZQ->ZM->Prop:=Paired RelV
theorem Zd.length{xs:ZQ}{us:ZM}(r:Zd xs us):xs.length=us.length:=Paired.length r
theorem Zd.get:∀{xs:ZQ} {us:ZM} {i:Nat} {x:V},Zd xs us->xs[i]?=some x->∃u,us[i]?=some u/\RelV x u
 | _,_,_,_,.nil,e=>by simp at e
 | _,_,0,_,.cons r _,e=>by simp at e;subst e;exact⟨_,rfl,r⟩
 | _,_,i+1,x,.cons _ t,e=>by
  obtain⟨u,h1,h2⟩:=Zd.get (i:=i) (x:=x) t (by simpa using e);exact⟨u,by simpa using h1,h2⟩
theorem Zd.set{x:V}{u:Value}(r:RelV x u):∀{xs:ZQ} {us:ZM} (i:Nat),Zd xs us->Zd (xs.set i x) (us.set i u)
 | _,_,_,.nil=>.nil
 | _,_,0,.cons _ t=>.cons r t
 | _,_,i+1,.cons q t=>.cons q (Zd.set r i t)
theorem Zd.append:∀{xs ys:ZQ} {us ws:ZM},Zd xs us->Zd ys ws->Zd (xs++ys) (us++ws)
 | _,_,_,_,.nil,s=>s
 | _,_,_,_,.cons r t,s=>.cons r (Zd.append t s)
theorem Zd.take:∀{xs:ZQ} {us:ZM} (n:Nat),Zd xs us->Zd (xs.take n) (us.take n)
 | _,_,0,_=>.nil
 | _,_,_+1,.nil=>.nil
 | _,_,n+1,.cons r t=>.cons r (Zd.take n t)
theorem Zd.drop:∀{xs:ZQ} {us:ZM} (n:Nat),Zd xs us->Zd (xs.drop n) (us.drop n)
 | _,_,0,r=>r
 | _,_,_+1,.nil=>.nil
 | _,_,n+1,.cons _ t=>Zd.drop n t
def Tv:Option V->ZT->Prop
 | some v,some u=>RelV v u
 | none,none=>True
 | _,_=>False
def KV{Z:Type}:List (Z×V)->List (Z×Value)->Prop:=Paired λ(p:Z×V) (q:Z×Value)=>p.1=q.1/\RelV p.2 q.2
def kV:Key->V
 | .inl i=>.int i
 | .inr x=>.str x
inductive HO where
 | lst(xs:ZQ)
 | tup (xs:ZQ)
 | dK (XM:List (Key×V)) | dT (XM:List (List Key×V))
 | set (S:Int->Bool) (n:Nat)
 | ins (C dx:Addr) (fs:List (Str×V))
 | own (x:Addr)
 | xd (fs:List (Str×V))
 | met (f x:Addr)
 | rng (lo hi:Int)
 | frz (o:Obj) (u:HO)
 | tbl (ps:ZN)
 | ext (φ:Heap->Prop)
abbrev Hp:=Addr->Option HO
def upd(H:Hp)(a:Addr)(o:HO):Hp:=λb=>if b=a then some o else H b
theorem Zq{H:Hp}{a:Addr}{o:HO}:upd H a o a=some o:=by unfold upd;rw[if_pos rfl]
theorem Zz{H:Hp}{a b:Addr}{o:HO}(h:b≠a):upd H a o b=H b:=by unfold upd;rw[if_neg h]
theorem ne_of{H:Hp}{a b:Addr}{o u:HO}(h:H a=some o)(h':H b=some u)(d:o≠u):a≠b:=by
 intro e;subst e;rw[h]at h';exact d (D8 h')
theorem Z9{H:Hp}{a b:Addr}{o:HO}(h:H a=some o)(h':H b=none):a≠b:=by
 intro e;subst e;rw[h]at h';cases h'
section
variable(P:Program)(w:World)
def Wa(h:Heap)(a:Addr)(XD:ZN):Prop:=∃o,h.get? a=some o/\o.cls=.type "tuple" /\ (∃n,o.data=.seq XD n)/\o.dict=none
theorem Wa.tup{h:Heap}{a:Addr}{XD:ZN}(x:Wa h a XD):IsTup h a XD:=let ⟨o,e,c,d,_⟩:=x;⟨o,e,c,d⟩
theorem Wa.lt{h:Heap}{a:Addr}{XD:ZN}(x:Wa h a XD):a<h.objs.size:=x.tup.lt
theorem Wa.new(h:Heap)(XD:ZN):Wa (h.push { cls:=.type "tuple",data:=.seq XD }) h.objs.size XD:=⟨_,Mp _ rfl,rfl,⟨_,rfl⟩,rfl⟩
def Z4(H:Hp)(h:Heap)(a:Addr):HO->Prop
 | .lst xs=>xs.length<=sizeLine/\∃(XD:ZM) (n:Nat),Zd xs XD/\h.get? a=some { cls:=.type "list",data:=.seq XD.toArray n }
 | .tup xs=>xs.length<=sizeLine/\∃XD:ZM,Zd xs XD/\Wa h a XD.toArray
 | .dK XM=>XM.length<=sizeLine/\(a==sysModules)=false/\∃vs,KV XM vs/\h.DictOf (Zh P w) a vs
 | .dT XM=>XM.length<=sizeLine/\(a==sysModules)=false/\∃xs:List (List Key×Addr×Value),
   Paired (λ(p:List Key×V) (q:List Key×Addr×Value)=>p.1=q.1/\H q.2.1=some (.tup (p.1.map kV))/\RelV p.2 q.2.2) XM xs /\
   ∃o es ep,h.get? a=some o/\o.ExactDict/\o.data=.dict es ep/\es.toList=xs.map (entryOfKey (tupleKind (Zh P w)))/\(xs.map (·.1)).Nodup
 | .set S n=>h.SetOf (intKind P w) a S n
 | .ins C dx fs=>H dx=some (.own a)/\fs.length<=1000/\dx≠a/\h.get? a=some (W.instObj C dx) /\
   ∃mA,h.Ns1 dx mA/\(∀f,Tv (fs.lookup f) (mA f))/\PySem.Within mA (fs.map (·.1))
 | .own _=>∃o,h.get? a=some o
 | .xd fs=>∃mA,h.Ns1 a mA/\∀f,Tv (fs.lookup f) (mA f)
 | .rng lo hi=>∃t u v,h.get? a=some { cls:=.type "range",data:=.fields #[.int lo t,.int hi u,.int 1 v] }
 | .frz o u=>h.get? a=some o/\Z4 H h a u
 | .tbl ps=>h.get? a=some { cls:=.none,data:=.fields ps }
 | .met f x=>h.get? a=some (W.methodObj (.ref f) (.ref x))
 | .ext φ=>φ h/\(∃o,h.get? a=some o)/\∀h1 h2:Heap,φ h1->(∀o,h1.get? a=some o->h2.get? a=some o)->φ h2
def Nx(H:Hp)(h:Heap):Prop:=∀a o,H a=some o->Z4 P w H h a o
end
section
variable{P:Program}{w:World}{H H':Hp}{h h':Heap}{a:Addr}{o:HO}
theorem Z4.lt(x:Z4 P w H h a o):a<h.objs.size:=by
 cases o with
 | lst xs=>obtain⟨_,_,_,_,e⟩:=x;exact V5 e
 | tup xs=>obtain⟨_,_,_,p⟩:=x;exact p.lt
 | dK XM=>obtain⟨_,_,_,_,o,_,_,e,_⟩:=x;exact V5 e
 | dT XM=>obtain⟨_,_,_,_,o,_,_,e,_⟩:=x;exact V5 e
 | set S n=>obtain⟨o,_,_,_,e,_⟩:=x;exact V5 e
 | ins C dx fs=>obtain⟨_,_,_,e,_⟩:=x;exact V5 e
 | own y=>obtain⟨_,e⟩:=x;exact V5 e
 | xd fs=>obtain⟨_,⟨_,_,_,e,_⟩,_⟩:=x;exact V5 e
 | rng lo hi=>obtain⟨_,_,_,e⟩:=x;exact V5 e
 | frz ob u=>obtain⟨e,_⟩:=x;exact V5 e
 | tbl ps=>exact V5 (show h.get? a=some _ from x)
 | met f y=>exact V5 (show h.get? a=some _ from x)
 | ext φ=>obtain⟨_,⟨_,e⟩,_⟩:=x;exact V5 e
theorem Paired.mapP{Z U:Type}{F G:Z->U->Prop}:∀{l₁:List Z} {l₂:List U},Paired F l₁ l₂->(∀a b,F a b->G a b)->Paired G l₁ l₂
 | _,_,.nil,_=>.nil
 | _,_,.cons r t,f=>.cons (f _ _ r) (Paired.mapP t f)
theorem Z4.stay(x:Z4 P w H h a o)(k:∀b u,(b=a\/H b=some (.own a))->h.get? b=some u->h'.get? b=some u)
  (ho:∀b,H b=some (.own a)->H' b=some (.own a)) (ht:∀b xs,H b=some (.tup xs)->H' b=some (.tup xs)):Z4 P w H' h' a o:=by
 induction o with
 | lst xs=>obtain⟨z,XD,n,r,e⟩:=x;exact⟨z,XD,n,r,k _ _ (.inl rfl) e⟩
 | tup xs=>obtain⟨z,XD,r,ob,e,c⟩:=x;exact⟨z,XD,r,ob,k _ _ (.inl rfl) e,c⟩
 | dK XM=>obtain⟨z,y,vs,r,ob,es,ep,e,c⟩:=x;exact⟨z,y,vs,r,ob,es,ep,k _ _ (.inl rfl) e,c⟩
 | dT XM =>
  obtain⟨z,y,xs,r,ob,es,ep,e,c⟩:=x;exact⟨z,y,xs,Paired.mapP r λp q z=>⟨z.1,ht _ _ z.2.1,z.2.2⟩,ob,es,ep,k _ _ (.inl rfl) e,c⟩
 | set S n=>obtain⟨ob,es,ep,t,e,c⟩:=x;exact⟨ob,es,ep,t,k _ _ (.inl rfl) e,c⟩
 | ins C dx fs =>
  obtain⟨d,z,ne,e,mA,⟨od,es,ep,e2,c⟩,r⟩:=x;exact⟨ho _ d,z,ne,k _ _ (.inl rfl) e,mA,⟨od,es,ep,k _ _ (.inr d) e2,c⟩,r⟩
 | own y=>obtain⟨ob,e⟩:=x;exact⟨ob,k _ _ (.inl rfl) e⟩
 | xd fs=>obtain⟨mA,⟨od,es,ep,e,c⟩,r⟩:=x;exact⟨mA,⟨od,es,ep,k _ _ (.inl rfl) e,c⟩,r⟩
 | rng lo hi=>obtain⟨t,u,v,e⟩:=x;exact⟨t,u,v,k _ _ (.inl rfl) e⟩
 | frz ob u ih=>obtain⟨e,q⟩:=x;exact⟨k _ _ (.inl rfl) e,ih q⟩
 | tbl ps =>
  have e:h.get? a=some { cls:=.none,data:=.fields ps }:=x;show h'.get? a=some { cls:=.none,data:=.fields ps };exact k a _ (.inl rfl) e
 | met f y =>
  have e:h.get? a=some (W.methodObj (.ref f) (.ref y)):=x;show h'.get? a=some (W.methodObj (.ref f) (.ref y));exact k a _ (.inl rfl) e
 | ext φ=>obtain⟨p,⟨o,e⟩,st⟩:=x;exact⟨st _ _ p λo q=>k _ _ (.inl rfl) q,⟨o,k _ _ (.inl rfl) e⟩,st⟩
theorem Nx.lt(x:Nx P w H h)(e:H a=some o):a<h.objs.size:=(x a o e).lt
theorem Nx.fresh(x:Nx P w H h)(e:h.objs.size<=a):H a=none:=by
 cases q:H a with
 | none=>rfl
 | some u=>exact absurd (F7 (x.lt q) e) (Nat.lt_irrefl _)
theorem Nx.kept(x:Nx P w H h)(k:∀b u,h.get? b=some u->h'.get? b=some u):Nx P w H h':=λa o e =>
 (x a o e).stay (λb u _ q=>k b u q) (λ_ q=>q) λ_ _ q=>q
theorem Nx.laid(x:Nx P w H h)(k:∀b u,h.get? b=some u->h'.get? b=some u)(hp:h.objs.size<=a)(new:Z4 P w (upd H a o) h' a o):Nx P w (upd H a o) h':=λb u e=>by
 have hn:=x.fresh hp;by_cases hb:b=a
 .subst hb;rw[Zq]at e;cases e;exact new
 .rw[Zz hb]at e;exact(x b u e).stay (λc v _ q=>k c v q) (λc q=>by rw[Zz (Z9 q hn)];exact q) λc xs q=>by rw[Zz (Z9 q hn)];exact q
end
def Rd(H:Hp)(a:Addr)(u:HO):Prop:=H a=some u\/∃o,H a=some (.frz o u)
theorem Rd.of{H:Hp}{a:Addr}{u:HO}(h:H a=some u):Rd H a u:=.inl h
theorem Rd.ok{P:Program}{w:World}{H:Hp}{h:Heap}{a:Addr}{u:HO}(r:Rd H a u)(x:Nx P w H h):Z4 P w H h a u:=by
 rcases r with r | ⟨o,r⟩
 .exact x a u r
 .obtain⟨_,q⟩:=x a _ r;exact q
def Mut:Option HO->Prop
 | some (.lst _)=>True
 | some (.dK _)=>True
 | some (.dT _)=>True
 | some (.set _ _)=>True
 | some (.ins _ _ _)=>True
 | some (.ext _)=>True
 | _=>False
section
variable{P:Program}{w:World}{H:Hp}{h h':Heap}{x e:Addr}{o':HO}
theorem Nx.write(ok:Nx P w H h)(mu:Mut (H x))(he:e=x\/H e=some (.own x))(k:∀b u,b≠e->h.get? b=some u->h'.get? b=some u)(heo:∃u,h'.get? e=some u)
  (new:Z4 P w (upd H x o') h' x o'):Nx P w (upd H x o') h':=λb u q=>by
 have nown:∀c y,H c=some (.own y)->c≠x:=λc y r z=>by subst z;rw[r]at mu;exact mu
 have ntup:∀c xs,H c=some (.tup xs)->c≠x:=λc xs r z=>by subst z;rw[r]at mu;exact mu
 by_cases hb:b=x
 .subst hb;rw[Zq]at q;cases q;exact new
 .rw[Zz hb]at q;by_cases hbe:b=e
  .have q':H b=some (.own x):=by
    rcases he with z | z
    .exact absurd (hbe.trans z) hb
    .rw[hbe];exact z
   rw[q]at q';cases q';obtain⟨v,hv⟩:=heo;exact⟨v,by rw[hbe];exact hv⟩
  .refine(ok b u q).stay (λc v hc r=>k c v ?_ r) (λc r=>by rw[Zz (nown c b r)];exact r) λc xs r=>by rw[Zz (ntup c xs r)];exact r
   rcases hc with rfl | hc
   .exact hbe
   .rintro rfl;rcases he with z | z
    .exact nown c b hc z
    .rw[hc]at z;cases z;exact hb rfl
end
structure Un(fs ex:ZU)(H H':Hp)(h h':Heap):Prop where
 keep:∀b o,h.get? b=some o->H b=none->b∉fs->b∉ex->h'.get? b=some o
 slot:∀b o,h.get? b=some o->H b=none->b∈fs->b∉ex->∃sl,h'.get? b=some { o with slots:=sl }
 free:∀b o,h.get? b=some o->H b=none->b∉ex->H' b=none
 there:∀b o,h.get? b=some o->b∉ex->∃o',h'.get? b=some o'
 tups:∀b xs,H b=some (.tup xs)->H' b=some (.tup xs)
 frzs:∀b o u,H b=some (.frz o u)->H' b=some (.frz o u)
 tbls:∀b ps,H b=some (.tbl ps)->∃more,H' b=some (.tbl (ps++more))
section
variable{fs fs' ex ex':ZU}{H H1 H2:Hp}{h h1 h2 h':Heap}{a x e:Addr}{o:HO}
theorem Un.any(u:Un fs ex H H1 h h1){b:Addr}{ob:Obj}(q:h.get? b=some ob)(n:H b=none)(hx:b∉ex):∃sl,h1.get? b=some { ob with slots:=sl }:=by
 by_cases hb:b∈fs
 .exact u.slot b ob q n hb hx
 .exact⟨ob.slots,u.keep b ob q n hb hx⟩
theorem Un.trans(a:Un fs ex H H1 h h1)(b:Un fs ex H1 H2 h1 h2):Un fs ex H H2 h h2 where
 keep:=λc ob q n hc hx=>b.keep c ob (a.keep c ob q n hc hx) (a.free c ob q n hx) hc hx
 slot:=λc ob q n hc hx=>by
  obtain⟨sl,e1⟩:=a.slot c ob q n hc hx;obtain⟨sl',e2⟩:=b.slot c _ e1 (a.free c ob q n hx) hc hx;exact⟨sl',e2⟩
 free:=λc ob q n hx=>by
  obtain⟨o',e1⟩:=a.there c ob q hx;exact b.free c o' e1 (a.free c ob q n hx) hx
 there:=λc ob q hx=>by
  obtain⟨o',e1⟩:=a.there c ob q hx;exact b.there c o' e1 hx
 tups:=λc xs q=>b.tups c xs (a.tups c xs q)
 frzs:=λc ob xs q=>b.frzs c ob xs (a.frzs c ob xs q)
 tbls:=λc ps q=>by
  obtain⟨m1,e1⟩:=a.tbls c ps q;obtain⟨m2,e2⟩:=b.tbls c _ e1;exact⟨m1++m2,by rw[e2,Array.append_assoc]⟩
theorem Un.kept(k:∀b u,h.get? b=some u->h'.get? b=some u):Un fs ex H H h h' :=
 ⟨λb ob q _ _ _=>k b ob q,λb ob q _ _ _=>⟨ob.slots,k b ob q⟩,λ_ _ _ n _=>n,λb ob q _=>⟨ob,k b ob q⟩,λ_ _ q=>q,λ_ _ _ q=>q,λ_ ps q=>⟨#[],by rw[q];simp⟩⟩
theorem Un.refl:Un fs ex H H h h:=Un.kept λ_ _ q=>q
theorem Un.laid(k:∀b u,h.get? b=some u->h'.get? b=some u)(hp:h.objs.size<=a)(hn:H a=none):Un fs ex H (upd H a o) h h' where
 keep:=λb u q _ _ _=>k b u q
 slot:=λb u q _ _ _=>⟨u.slots,k b u q⟩
 free:=λb u q n _=>by rw[Zz (Tf (F7 (V5 q) hp))];exact n
 there:=λb u q _=>⟨u,k b u q⟩
 tups:=λb xs q=>by rw[Zz (Z9 q hn)];exact q
 frzs:=λb u xs q=>by rw[Zz (Z9 q hn)];exact q
 tbls:=λb ps q=>⟨#[],by rw[Zz (Z9 q hn),q];simp⟩
theorem Un.write(mu:Mut (H x))(he:e=x\/H e=some (.own x))(k:∀b u,b≠e->h.get? b=some u->h'.get? b=some u)(heo:∃u,h'.get? e=some u):Un fs ex H (upd H x o) h h':=by
 have hx:∀b,H b=none->b≠x:=λb n z=>by subst z;rw[n]at mu;exact mu
 have hb:∀b,H b=none->b≠e:=λb n z=>by
  subst z;rcases he with r | r
  .exact hx b n r
  .rw[n]at r;cases r
 have hm:∀b u,H b=some u->¬ Mut (some u)->b≠x:=λb u q nm z=>by subst z;rw[q]at mu;exact nm mu
 refine⟨λb u q n _ _=>k b u (hb b n) q,λb u q n _ _=>⟨u.slots,k b u (hb b n) q⟩,λb u q n _=>by rw[Zz (hx b n)];exact n,λb u q _=>?_,
  λb xs q=>by rw[Zz (hm b _ q λz=>z)];exact q,λb u xs q=>by rw[Zz (hm b _ q λz=>z)];exact q,λb ps q=>⟨#[],by rw[Zz (hm b _ q λz=>z),q];simp⟩⟩
 by_cases hbe:b=e
 .subst hbe;exact heo
 .exact⟨u,k b u hbe q⟩
end
noncomputable def trk(h:Heap)(H:Hp):ZU:=(List.range h.objs.size).filter λa=>(H a).isSome
def Q9(h:Heap)(H:Hp):Heap:=W.hideAll h (trk h H)
theorem w8(h:Heap)(H:Hp):(Q9 h H).objs.size=h.objs.size:=W.hideAll_size _ _
theorem sk{h:Heap}{H:Hp}{b:Addr}{o:Obj}(e:h.get? b=some o)(n:H b=none):(Q9 h H).get? b=some o :=
 W.hideAll_get _ e λhm=>by
  have q:(H b).isSome=true:=(List.mem_filter.mp hm).2;rw[n]at q;simp at q
theorem Zx0{h:Heap}{H:Hp}{b:Addr}{o:Obj}(e:(Q9 h H).get? b=some o):h.get? b=some o/\H b=none:=by
 have e':h.get? b=some o:=W.of_hideAll (trk h H) e;refine⟨e',?_⟩;cases q:H b with
 | none=>rfl
 | some x =>
  have hm:b∈trk h H:=List.mem_filter.mpr ⟨List.mem_range.mpr (V5 e'),by simp[q]⟩;have z:(Q9 h H).get? b=none:=W.hideAll_none (trk h H) hm;rw[z]at e;cases e
structure Mod(K:W.Frag)(mg:ZV)(base:Heap):Prop where
 kin:K.In base
 glob:base.Ns mainGlobals mg
 blt:∃mb,base.Ns builtinsNs mb/\∀x:Str,x ≠ "__name__" -> mb x=bootBuiltins x
 nolimit:base.NoLimit
structure Cx where
 prog:Program
 w:World
 K:W.Frag
 mg:ZV
 base:Heap
 A:Around
 N:ZD
 s₀:Shared
 H₀:Hp
 env:Env
 outer:List Env
 stack:List Env
 ex:ZU
 fn:Str->Bool
 calm:Bool
 pn:ZY
 xe:ZW
noncomputable def frs(l:List Env):ZU:=l.filterMap (·.frame)
abbrev Cx.fs(X:Cx):ZU:=frs X.outer
def Vis(sc:Scope)(x:Str):Prop:=sc.names.lookup x=some .local\/sc.names.lookup x=some .cell\/sc.names.lookup x=some .free
def Loc(sc:Scope)(x:Str):Prop:=sc.names.lookup x=some .local\/sc.names.lookup x=some .cell
def Look(env:Env)(h:Heap)(m:ZV)(x:Str)(u:Value):Prop :=
 (env.kindOf x=some .local/\m x=some u)\/((env.kindOf x=some .cell\/env.kindOf x=some .free)/\∃c,env.cells.lookup x=some c/\h.IsCell c (some u))
structure Cx.Ok(X:Cx):Prop where
 mod:Mod X.K X.mg X.base
 kind:X.env.scope.kind=.function
 glob:X.env.globals=mainGlobals
 blt:X.env.builtins=builtinsNs
 above:X.s₀.heap.objs.size<=X.env.locals
 inj:∀x y c,X.env.cells.lookup x=some c->X.env.cells.lookup y=some c->x=y
 has:∀x,(X.env.kindOf x=some .cell\/X.env.kindOf x=some .free)->∃c,X.env.cells.lookup x=some c
 cab:∀x c,X.fn x=true->X.env.cells.lookup x=some c->X.s₀.heap.objs.size<=c
 hd:X.calm=true->X.A.handled=none
 frames:X.A.frames=some X.stack
 stk:X.stack=X.outer\/(X.stack=X.env::X.outer/\X.env.frame=some X.env.locals)
 exf:∀b∈X.ex,b≠X.env.locals/\∀x c,X.env.cells.lookup x=some c->c≠b
 bs:∀b o,X.base.get? b=some o->X.s₀.heap.get? b=some o/\X.H₀ b=none
 bsz:X.base.objs.size<=X.s₀.heap.objs.size
 noex:∀b o,X.base.get? b=some o->b∉X.ex
 exfs:∀b∈X.ex,b∉X.fs
 funs:X.s₀.heap.FunFrames X.base X.outer
 frf:∀b∈X.fs,X.H₀ b=none
structure Inv(X:Cx)(XB:ZY)(Z:ZJ)(H:Hp)(s:Shared):Prop where
 ok:X.Ok
 os:s.os=X.s₀.os
 bare:AllBare s.gens
 base:Un X.fs X.ex X.H₀ H X.s₀.heap s.heap
 loc:∃m,s.heap.Ns X.env.locals m/\∀(i:Nat) (x:Str) (v:V),X.N[i]?=some x->Z[i]?=some (some v)->Vis X.env.scope x->∃u,RelV v u/\Look X.env s.heap m x u
 cell:∀x c,X.env.cells.lookup x=some c->∃v,s.heap.IsCell c v
 free:H X.env.locals=none
 freeC:∀x c,X.env.cells.lookup x=some c->H c=none
 pin:∀p∈X.pn++XB,s.heap.get? p.1=some p.2/\H p.1=none/\p.1≠X.env.locals/\p.1∉X.fs/\∀v,p.2.data≠.cell v
 hok:Nx X.prog X.w H s.heap
 len:Z.length=X.N.length
section
variable{X:Cx}{XB:ZY}{Z:ZJ}{H H':Hp}{s:Shared}{h':Heap}
theorem Cx.Ok.nofr(ok:X.Ok){b:Addr}{o:Obj}(e:X.base.get? b=some o):b∉X.fs:=λhb=>by
 have:=(ok.funs.mem hb).1;rw[e]at this;cases this
theorem Inv.bs(I:Inv X XB Z H s):∀b o,X.base.get? b=some o->s.heap.get? b=some o/\H b=none:=λb o e =>
 ⟨I.base.keep b o (I.ok.bs b o e).1 (I.ok.bs b o e).2 (I.ok.nofr e) (I.ok.noex b o e),I.base.free b o (I.ok.bs b o e).1 (I.ok.bs b o e).2 (I.ok.noex b o e)⟩
theorem Inv.bk(I:Inv X XB Z H s):∀b o,X.base.get? b=some o->s.heap.get? b=some o:=λb o e=>(I.bs b o e).1
theorem Inv.mod(I:Inv X XB Z H s):Mod X.K X.mg X.base:=I.ok.mod
theorem Inv.kIn(I:Inv X XB Z H s):X.K.In s.heap:=I.ok.mod.kin.keeps I.bk
theorem Inv.fr(I:Inv X XB Z H s):∃m,Fr X.base X.env.locals s.heap m :=
 let ⟨m,hn,_⟩:=I.loc
 ⟨m,hn,I.bk,Tg I.ok.bsz I.ok.above⟩
theorem Inv.lt(I:Inv X XB Z H s):X.env.locals<s.heap.objs.size:=let ⟨_,hn,_⟩:=I.loc;hn.lt
theorem Inv.sz(I:Inv X XB Z H s):X.s₀.heap.objs.size<=s.heap.objs.size:=Tg I.ok.above (Nat.le_of_lt I.lt)
theorem Inv.nofs(I:Inv X XB Z H s){a:Addr}(h:s.heap.objs.size<=a):a∉X.fs:=λhb=>by
 obtain⟨_,o,ho,_⟩:=I.ok.funs.mem hb;exact absurd (F7 (V5 ho) (Tg I.sz h)) (Nat.lt_irrefl _)
theorem Inv.cne(I:Inv X XB Z H s):∀x c,X.env.cells.lookup x=some c->c≠X.env.locals:=λx c e z=>by
 obtain⟨v,o,ho,hd⟩:=I.cell x c e;obtain⟨m,⟨o',es,ep,B1,hd',_⟩,_⟩:=I.loc;rw[z,B1]at ho;cases ho;rw[hd']at hd;cases hd
theorem Inv.funs(I:Inv X XB Z H s):s.heap.FunFrames X.base X.outer:=by
 have all:∀(l:List Env),(∀b∈frs l,b∈X.fs)->X.s₀.heap.FunFrames X.base l->s.heap.FunFrames X.base l:=by
  intro l
  induction l with
  | nil=>intro _ _;trivial
  | cons env r ih =>
   intro hs hl;obtain⟨hk,⟨L,o,hf,hn,ho,hd⟩,hr⟩:=hl;have hL:L∈X.fs:=hs L (by unfold frs;rw[List.filterMap_cons,hf];exact V4);obtain⟨sl,e⟩:=I.base.slot L o ho (I.ok.frf L hL) hL λz=>I.ok.exfs L z hL;exact⟨hk,⟨L,_,hf,hn,e,hd⟩,ih (λb hb=>hs b (by unfold frs;rw[List.filterMap_cons,hf];exact Uz _ hb)) hr⟩
 exact all X.outer (λ_ hb=>hb) I.ok.funs
theorem Inv.stack(I:Inv X XB Z H s):s.heap.FunFrames X.base X.stack:=by
 rcases I.ok.stk with e | ⟨e,hf⟩
 .rw[e];exact I.funs
 .rw[e];obtain⟨m,hn,_⟩:=I.loc;refine .cons (by rw[I.ok.kind];decide) hf hn ?_ I.funs;exact Heap.get?_none_of_le (Tg I.ok.bsz I.ok.above)
theorem Inv.stkSub(I:Inv X XB Z H s):∀b∈frs X.stack,b∈X.env.locals::X.fs:=λb hb=>by
 rcases I.ok.stk with e | ⟨e,hf⟩
 .rw[e]at hb;exact Uz _ hb
 .rw[e]at hb;unfold frs at hb;rw[List.filterMap_cons,hf]at hb;exact hb
theorem Inv.stkFree(I:Inv X XB Z H s):∀b∈frs X.stack,H b=none:=λb hb=>by
 rcases Y8.mp (I.stkSub b hb) with e | hb
 .rw[e];exact I.free
 .obtain⟨_,o,ho,_⟩:=I.ok.funs.mem hb;exact I.base.free b o ho (I.ok.frf b hb) λz=>I.ok.exfs b z hb
theorem Inv.step{g':Array GenState}{t':Nat}{d':Drawn}{ch:ZU}(I:Inv X XB Z H s)
  (ox:∀b∈ch,(b∈X.ex\/X.s₀.heap.objs.size<=b)/\b≠X.env.locals/\(∀x c,X.env.cells.lookup x=some c->c≠b)/\∀p∈X.pn++XB,p.1≠b)
  (keep:∀b o,b≠X.env.locals->b∉X.fs->b∉ch->s.heap.get? b=some o->H b=none->h'.get? b=some o)
  (slot:∀b o,b≠X.env.locals->b∈X.fs->b∉ch->s.heap.get? b=some o->H b=none->∃sl,h'.get? b=some { o with slots:=sl }) (free:∀b o,b∉ch->s.heap.get? b=some o->H b=none->H' b=none)
  (there:∀b o,b∉ch->s.heap.get? b=some o->∃o',h'.get? b=some o')
  (tups:∀b xs,H b=some (.tup xs)->H' b=some (.tup xs)) (frzs:∀b o u,H b=some (.frz o u)->H' b=some (.frz o u)) (tbls:∀b ps,H b=some (.tbl ps)->∃more,H' b=some (.tbl (ps++more)))
  (ns:∀m,s.heap.Ns X.env.locals m->h'.Ns X.env.locals m) (hok:Nx X.prog X.w H' h') (hg:AllBare g') :
  Inv X XB Z H' { s with heap:=h',gens:=g',drawn:=d',toks:=t' }:=by
 have neL:∀b o,X.s₀.heap.get? b=some o->b≠X.env.locals:=λb o e=>Tf (F7 (V5 e) I.ok.above)
 have neC:∀b o,X.s₀.heap.get? b=some o->b∉X.ex->b∉ch:=λb o e hx hb=>by
  rcases(ox b hb).1 with z | z
  .exact hx z
  .exact absurd (F7 (V5 e) z) (Nat.lt_irrefl _)
 have cellK:∀x c,X.env.cells.lookup x=some c->∀v,s.heap.IsCell c v->h'.IsCell c v:=λx c e v ⟨o,ho,hd⟩=>by
  have nch:c∉ch:=λz=>(ox c z).2.2.1 x c e rfl;by_cases hc:c∈X.fs
  .obtain⟨sl,q⟩:=slot c o (I.cne x c e) hc nch ho (I.freeC x c e);exact⟨_,q,hd⟩
  .exact⟨o,keep c o (I.cne x c e) hc nch ho (I.freeC x c e),hd⟩
 refine⟨I.ok,I.os,hg,⟨λb o e n hb hx=>?_,λb o e n hb hx=>?_,λb o e n hx=>?_,λb o e hx=>?_,λb xs e=>tups b xs (I.base.tups b xs e),λb o xs e=>frzs b o xs (I.base.frzs b o xs e),λb ps e=>?_⟩,?_,λx c e=>?_,?_,λx c e=>?_,λp hp=>?_,hok,I.len⟩
 .exact keep b o (neL b o e) hb (neC b o e hx) (I.base.keep b o e n hb hx) (I.base.free b o e n hx)
 .obtain⟨sl,e1⟩:=I.base.slot b o e n hb hx;obtain⟨sl',e2⟩:=slot b _ (neL b o e) hb (neC b o e hx) e1 (I.base.free b o e n hx);exact⟨sl',e2⟩
 .obtain⟨o',e1⟩:=I.base.there b o e hx;exact free b o' (neC b o e hx) e1 (I.base.free b o e n hx)
 .obtain⟨o',e1⟩:=I.base.there b o e hx;exact there b o' (neC b o e hx) e1
 .obtain⟨m1,e1⟩:=I.base.tbls b ps e;obtain⟨m2,e2⟩:=tbls b _ e1;exact⟨m1++m2,by rw[e2,Array.append_assoc]⟩
 .obtain⟨m,hn,hl⟩:=I.loc;refine⟨m,ns m hn,λi x v e1 e2 e3=>?_⟩;obtain⟨u,r,l⟩:=hl i x v e1 e2 e3;refine⟨u,r,?_⟩;rcases l with l | ⟨k,c,e,z⟩
  .exact .inl l
  .exact .inr ⟨k,c,e,cellK x c e _ z⟩
 .obtain⟨v,z⟩:=I.cell x c e;exact⟨v,cellK x c e v z⟩
 .obtain⟨m,⟨o,_,_,ho,_⟩,_⟩:=I.loc;exact free _ o (λz=>(ox _ z).2.1 rfl) ho I.free
 .obtain⟨v,o,ho,hd⟩:=I.cell x c e;exact free c o (λz=>(ox c z).2.2.1 x c e rfl) ho (I.freeC x c e)
 .obtain⟨e,n,ne,nf,d⟩:=I.pin p hp;have nch:p.1∉ch:=λz=>(ox p.1 z).2.2.2 p hp rfl;exact⟨keep p.1 p.2 ne nf nch e n,free p.1 p.2 nch e n,ne,nf,d⟩
theorem Inv.un{t':Nat}(I:Inv X XB Z H s)(u:Un X.fs [] H H' s.heap h')(hok:Nx X.prog X.w H' h'):Inv X XB Z H' { s with heap:=h',toks:=t' }:=by
 obtain⟨m,⟨o,es,ep,ho,r⟩,_⟩:=id I.loc;obtain⟨sl,hL⟩:=u.any ho I.free XA
 exact I.step (g':=s.gens) (d':=s.drawn) (ch:=[]) (λ_ z=>nomatch z) (λb o _ hb _ e n=>u.keep b o e n hb XA) (λb o _ hb _ e n=>u.slot b o e n hb XA) (λb o _ e n=>u.free b o e n XA) (λb o _ e=>u.there b o e XA) u.tups u.frzs u.tbls (λm' hm=>by
  obtain⟨o',ph,ep',B1,r'⟩:=hm;rw[ho]at B1;cases B1;exact⟨_,ph,ep',hL,r'⟩) hok I.bare
theorem Inv.call{g':Array GenState}{t':Nat}{d':Drawn}{ch:ZU}(I:Inv X XB Z H s)(u:Un (frs X.stack) ch H H' s.heap h')(hok:Nx X.prog X.w H' h')(hg:AllBare g')
  (ox:∀b∈ch,(b∈X.ex\/X.s₀.heap.objs.size<=b)/\b≠X.env.locals/\(∀x c,X.env.cells.lookup x=some c->c≠b)/\∀p∈X.pn++XB,p.1≠b) :
  Inv X XB Z H' { s with heap:=h',gens:=g',drawn:=d',toks:=t' }:=by
 obtain⟨m,⟨o,es,ep,ho,r⟩,_⟩:=id I.loc;obtain⟨sl,hL⟩:=u.any ho I.free λz=>(ox _ z).2.1 rfl
 exact I.step (ch:=ch) ox (λb o hL hb hc e n=>u.keep b o e n (λz=>(Y8.mp (I.stkSub b z)).elim hL hb) hc) (λb o _ _ hc e n=>u.any e n hc) (λb o hc e n=>u.free b o e n hc) (λb o hc e=>u.there b o e hc) u.tups u.frzs u.tbls (λm' hm=>by
  obtain⟨o',ph,ep',B1,r'⟩:=hm;rw[ho]at B1;cases B1;exact⟨_,ph,ep',hL,r'⟩) hok hg
theorem Inv.turned{t':Nat}{it:Addr}(I:Inv X XB Z H s)(k:∀b o,b≠it->s.heap.get? b=some o->h'.get? b=some o)(hn:H it=none)(hL:it≠X.env.locals)
  (h1:it∈X.ex\/X.s₀.heap.objs.size<=it) (h2:∀x c,X.env.cells.lookup x=some c->c≠it) (h3:∀p∈X.pn++XB,p.1≠it):Inv X XB Z H { s with heap:=h',toks:=t' }:=by
 have nit:∀b u,H b=some u->b≠it:=λb u e z=>by rw[z,hn]at e;cases e
 refine I.step (g':=s.gens) (d':=s.drawn) (ch:=[it]) (λb hb=>?_) (λb o _ _ hc e _=>k b o (λz=>hc (by simp[z])) e) (λb o _ _ hc e _=>⟨o.slots,k b o (λz=>hc (by simp[z])) e⟩) (λ_ _ _ _ n=>n)
  (λb o hc e=>⟨o,k b o (λz=>hc (by simp[z])) e⟩) (λ_ _ e=>e) (λ_ _ _ e=>e) (λb ps e=>⟨#[],by rw[e];simp⟩) (λm hm=>?_) (λb u e=>?_) I.bare
 .have e:b=it:=by simpa using hb
  subst e;exact⟨h1,hL,h2,h3⟩
 .obtain⟨o,es,ep,ho,r⟩:=hm;exact⟨o,es,ep,k _ o (Ne.symm hL) ho,r⟩
 .refine(I.hok b u e).stay (λc v hc q=>k c v ?_ q) (λ_ q=>q) λ_ _ q=>q;rcases hc with z | z
  .rw[z];exact nit b u e
  .exact nit c _ z
theorem Inv.tok(I:Inv X XB Z H s)(t:Nat):Inv X XB Z H { s with toks:=t }:=I.un (h':=s.heap) (t':=t) Un.refl I.hok
theorem Inv.kept{t':Nat}(I:Inv X XB Z H s)(k:∀b u,s.heap.get? b=some u->h'.get? b=some u):Inv X XB Z H { s with heap:=h',toks:=t' }:=I.un (Un.kept k) (I.hok.kept k)
theorem Inv.laid{a:Addr}{o:HO}{t':Nat}(I:Inv X XB Z H s)(k:∀b u,s.heap.get? b=some u->h'.get? b=some u)(hp:s.heap.objs.size<=a)(new:Z4 X.prog X.w (upd H a o) h' a o) :
  Inv X XB Z (upd H a o) { s with heap:=h',toks:=t' }:=I.un (Un.laid k hp (I.hok.fresh hp)) (I.hok.laid k hp new)
theorem Inv.write{x e:Addr}{o:HO}{t':Nat}(I:Inv X XB Z H s)(mu:Mut (H x))(he:e=x\/H e=some (.own x))(k:∀b u,b≠e->s.heap.get? b=some u->h'.get? b=some u)(heo:∃u,h'.get? e=some u)
  (new:Z4 X.prog X.w (upd H x o) h' x o):Inv X XB Z (upd H x o) { s with heap:=h',toks:=t' }:=I.un (Un.write mu he k heo) (I.hok.write mu he k heo new)
theorem Inv.pins_of{pins':ZY}(I:Inv X XB Z H s)(h:∀p∈pins',s.heap.get? p.1=some p.2/\H p.1=none/\p.1≠X.env.locals/\p.1∉X.fs/\∀v,p.2.data≠.cell v):Inv X pins' Z H s :=
 ⟨I.ok,I.os,I.bare,I.base,I.loc,I.cell,I.free,I.freeC,λp hp=>(yk.mp hp).elim (λz=>I.pin p (List.mem_append_left _ z)) (h p),I.hok,I.len⟩
theorem Sn{N:ZD}(hN:N.Nodup){i j:Nat}{x:Str}(a:N[i]?=some x)(b:N[j]?=some x):i=j:=by
 obtain⟨h1,e1⟩:=W8.mp a;obtain⟨h2,e2⟩:=W8.mp b;exact(List.getElem_inj hN).mp (e1.trans e2.symm)
theorem L4{M:Model}{A:Around}{E:ZW}{i:Nat}{x:Str}{v:V}{u:Value}{Q:ZA}(I:Inv X XB Z H s)(hN:X.N.Nodup)(hi:X.N[i]?=some x)(hx:Loc X.env.scope x)(r:RelV v u)
  (h:∀s',Inv X XB (Z.set i (some v)) H s'->(∃a,Heap.SameBut a s.heap s'.heap/\(a=X.env.locals\/X.env.cells.lookup x=some a))->Q () s') (hf:X.fn x=true\/X.env.scope.names.lookup x=some .local:=by first | exact .inl rfl | exact .inr rfl | assumption):wpAny M A (storeName X.env x u) Q E s:=by
 obtain⟨m,hn,hl⟩:=id I.loc;have hcls:(X.env.scope.kind==.class || (X.env.scope.kind==.module&&X.env.locals != X.env.globals))=false:=by rw[I.ok.kind];rfl
 have hiσ:i<Z.length:=by rw[I.len];exact(W8.mp hi).1
 have cne:=I.cne
 have tracked:∀{a:Addr} {h':Heap},(∃o,s.heap.get? a=some o/\H a=none)->Heap.SameBut a s.heap h'->Nx X.prog X.w H h':=λ{a h'} ha hs b ob e=>by
  obtain⟨_,_,S7⟩:=ha;refine(I.hok b ob e).stay (λc w' hc q=>(hs.2 c ?_).trans q) (λ_ q=>q) λ_ _ q=>q;rintro rfl;rcases hc with rfl | hc
  .rw[S7]at e;cases e
  .rw[S7]at hc;cases hc
 rcases hx with hk | hk
 .refine wpAny_storeName_local hk hn (λh' hn' hs=>?_) hcls;obtain⟨oL,_,_,hoL,_⟩:=id hn;refine h _ ⟨I.ok,I.os,I.bare,⟨λb o e n hb hx=>?_,λb o e n hb hx=>?_,I.base.free,λb o e hx=>?_,I.base.tups,I.base.frzs,I.base.tbls⟩,⟨_,hn',λj y v' e1 e2 e3=>?_⟩,λy c e=>?_,I.free,I.freeC,λp hp=>?_,tracked ⟨oL,hoL,I.free⟩ hs,by simpa using I.len⟩ ⟨_,hs,.inl rfl⟩
  .exact(hs.2 b (Tf (F7 (V5 e) I.ok.above))).trans (I.base.keep b o e n hb hx)
  .obtain⟨sl,e1⟩:=I.base.slot b o e n hb hx;exact⟨sl,(hs.2 b (Tf (F7 (V5 e) I.ok.above))).trans e1⟩
  .obtain⟨o',e1⟩:=I.base.there b o e hx;exact⟨o',(hs.2 b (Tf (F7 (V5 e) I.ok.above))).trans e1⟩
  .by_cases hj:j=i
   .subst hj;rw[hi]at e1;cases e1;rw[List.getElem?_set_self hiσ]at e2;cases e2;exact⟨u,r,.inl ⟨hk,by simp⟩⟩
   .rw[List.getElem?_set_ne (Ne.symm hj)]at e2;obtain⟨u',r',q⟩:=hl j y v' e1 e2 e3;refine⟨u',r',?_⟩;rcases q with ⟨k,e⟩ | ⟨k,c,e,z⟩
    .refine .inl ⟨k,?_⟩;have:y≠x:=λe=>hj (Sn hN e1 (e ▸ hi));simp[this,e]
    .exact .inr ⟨k,c,e,z.sameBut hs (cne y c e)⟩
  .obtain⟨w',z⟩:=I.cell y c e;exact⟨w',z.sameBut hs (cne y c e)⟩
  .obtain⟨e,n,ne,nf,d⟩:=I.pin p hp;exact⟨(hs.2 p.1 ne).trans e,n,ne,nf,d⟩
 .have hfn:X.fn x=true:=by
   rcases hf with z | z
   .exact z
   .rw[z]at hk;cases hk
  obtain⟨c,hc⟩:=I.ok.has x (.inl hk);obtain⟨w',z⟩:=I.cell x c hc;refine wpAny_storeName_cell I.ok.kind hk hc z (λh' oq hs=>?_);obtain⟨oc,hoc,hocd⟩:=id z;refine h { s with heap:=h' } ⟨I.ok,I.os,I.bare,⟨λb o e n hb hx=>?_,λb o e n hb hx=>?_,I.base.free,λb o e hx=>?_,I.base.tups,I.base.frzs,I.base.tbls⟩,⟨m,hn.sameBut hs (Ne.symm (cne x c hc)),λj y v' e1 e2 e3=>?_⟩,λy c' e=>?_,I.free,I.freeC,λp hp=>?_,tracked ⟨oc,hoc,I.freeC x c hc⟩ hs,by simpa using I.len⟩ ⟨c,hs,.inr hc⟩
  .exact(hs.2 b (Tf (F7 (V5 e) (I.ok.cab x c hfn hc)))).trans (I.base.keep b o e n hb hx)
  .obtain⟨sl,e1⟩:=I.base.slot b o e n hb hx;exact⟨sl,(hs.2 b (Tf (F7 (V5 e) (I.ok.cab x c hfn hc)))).trans e1⟩
  .obtain⟨o',e1⟩:=I.base.there b o e hx;exact⟨o',(hs.2 b (Tf (F7 (V5 e) (I.ok.cab x c hfn hc)))).trans e1⟩
  .by_cases hj:j=i
   .subst hj;rw[hi]at e1;cases e1;rw[List.getElem?_set_self hiσ]at e2;cases e2;exact⟨u,r,.inr ⟨.inl hk,c,hc,oq⟩⟩
   .rw[List.getElem?_set_ne (Ne.symm hj)]at e2;obtain⟨u',r',q⟩:=hl j y v' e1 e2 e3;refine⟨u',r',?_⟩;rcases q with q | ⟨k,c',e,z'⟩
    .exact .inl q
    .refine .inr ⟨k,c',e,z'.sameBut hs ?_⟩;rintro rfl;exact hj (Sn hN e1 (I.ok.inj _ _ _ e hc ▸ hi))
  .by_cases hcc:c'=c
   .subst hcc;exact⟨_,oq⟩
   .obtain⟨w2,z2⟩:=I.cell y c' e;exact⟨w2,z2.sameBut hs hcc⟩
  .obtain⟨e,n,ne,nf,d⟩:=I.pin p hp;refine⟨(hs.2 p.1 ?_).trans e,n,ne,nf,d⟩;intro q;rw[q,hoc]at e;have q':oc=p.2:=D8 e;exact d w' (by rw[<-q'];exact hocd)
theorem Oi{M:Model}{A:Around}{E:ZW}{i:Nat}{x:Str}{v:V}{u:Value}{Q:ZA}(I:Inv X XB Z H s)(hN:X.N.Nodup)(hi:X.N[i]?=some x)(hx:Loc X.env.scope x)(r:RelV v u)
  (h:∀s',Inv X XB (Z.set i (some v)) H s'->Q () s') (hf:X.fn x=true\/X.env.scope.names.lookup x=some .local:=by first | exact .inl rfl | exact .inr rfl | assumption):wpAny M A (storeName X.env x u) Q E s :=
 L4 I hN hi hx r (λs' I' _=>h s' I') hf
theorem Inv.call'{s':Shared}{ch:ZU}(I:Inv X XB Z H s)(ho:s'.os=s.os)(u:Un (frs X.stack) ch H H' s.heap s'.heap)(hok:Nx X.prog X.w H' s'.heap)(hg:AllBare s'.gens)
  (ox:∀b∈ch,(b∈X.ex\/X.s₀.heap.objs.size<=b)/\b≠X.env.locals/\(∀x c,X.env.cells.lookup x=some c->c≠b)/\∀p∈X.pn++XB,p.1≠b):Inv X XB Z H' s':=by
 obtain⟨h',g',d',t',o'⟩:=s';have e:o'=s.os:=ho;subst e;exact I.call (g':=g') (t':=t') (d':=d') u hok hg ox
end
abbrev XK:=Value->ZP->Hp->Prop
abbrev St:=ZJ
abbrev VK:=V->Hp->Prop
abbrev TE:=St->Hp->VK->Prop
abbrev TT:=St->Hp->(Bool->Hp->Prop)->Prop
abbrev TA:=St->Hp->(ZQ->Hp->Prop)->Prop
structure Ends where
 nx:St->Hp->Prop
 rt:VK
 bk:St->Hp->Prop:=λ_ _=>False
 ct:St->Hp->Prop:=λ_ _=>False
abbrev TS:=Ends->St->Hp->Prop
def EP(X:Cx)(XB:ZY)(Z:St)(Q:VK)(u:Value)(s':Shared):Prop:=∃v H',Inv X XB Z H' s'/\RelV v u/\Q v H'
def TP(X:Cx)(XB:ZY)(Z:St)(Q:Bool->Hp->Prop)(b:Bool)(s':Shared):Prop:=∃H',Inv X XB Z H' s'/\Q b H'
def AP(X:Cx)(XB:ZY)(Z:St)(Q:ZQ->Hp->Prop)(us:ZM)(s':Shared):Prop:=∃vs H',Inv X XB Z H' s'/\Zd vs us/\Q vs H'
def SP(X:Cx)(XB:ZY)(D:Ends)(f:Flow)(s':Shared):Prop :=
 match f with
 | .next=>∃σ' H',Inv X XB σ' H' s'/\D.nx σ' H'
 | .brk=>∃σ' H',Inv X XB σ' H' s'/\D.bk σ' H'
 | .cont=>∃σ' H',Inv X XB σ' H' s'/\D.ct σ' H'
 | .ret u=>∃v σ' H',Inv X XB σ' H' s'/\RelV v u/\D.rt v H'
def PE(X:Cx)(e:Expr)(t:TE):Prop :=
 ∀(XB:ZY) (s:Shared) (Z:St) (H:Hp) (Q:VK),Inv X XB Z H s->t Z H Q->wpAny (model X.prog X.w) X.A (eval e X.env) (EP X XB Z Q) X.xe s
def PT(X:Cx)(e:Expr)(t:TT):Prop :=
 ∀(XB:ZY) (s:Shared) (Z:St) (H:Hp) (Q:Bool->Hp->Prop),Inv X XB Z H s->t Z H Q->wpAny (model X.prog X.w) X.A (isTrue e X.env (eval e X.env)) (TP X XB Z Q) X.xe s
def PW(X:Cx)(e:Expr)(t:TT):Prop :=
 ∀(whole:Sem Value) (XB:ZY) (s:Shared) (Z:St) (H:Hp) (Q:Bool->Hp->Prop),Inv X XB Z H s->t Z H Q->wpAny (model X.prog X.w) X.A (isTrue e X.env whole) (TP X XB Z Q) X.xe s
theorem PW.pt{X:Cx}{e:Expr}{t:TT}(h:PW X e t):PT X e t:=h _
def PA(X:Cx)(es:ZC)(t:TA):Prop :=
 ∀(pos:Pos) (XB:ZY) (s:Shared) (Z:St) (H:Hp) (Q:ZQ->Hp->Prop),Inv X XB Z H s->t Z H Q->wpAny (model X.prog X.w) X.A (spliced (backTo pos (starEach es X.env))) (AP X XB Z Q) X.xe s
def PS(X:Cx)(st:Stmt)(t:TS):Prop :=
 ∀(XB:ZY) (s:Shared) (Z:St) (H:Hp) (D:Ends),Inv X XB Z H s->t D Z H->wpAny (model X.prog X.w) X.A (exec st X.env) (SP X XB D) X.xe s
def Wo(X:Cx)(st:List Stmt)(t:TS):Prop :=
 ∀(XB:ZY) (s:Shared) (Z:St) (H:Hp) (D:Ends),Inv X XB Z H s->t D Z H->wpAny (model X.prog X.w) X.A (execs st X.env) (SP X XB D) X.xe s
theorem Yj{Z:Type}{t:Sem Z}{Q Q':Z->Shared->Prop}{M:Model}{A:Around}{E:ZW}{s:Shared}(h:wpAny M A t Q E s)(hQ:∀a s,Q a s->Q' a s):wpAny M A t Q' E s:=wpAny_mono h hQ λ_ _ x=>x
section
variable{X:Cx}
inductive gi(i:Nat)(Z:St)(H:Hp)(Q:VK):Prop
 | mk(v)(Vd:Z[i]?=some (some v))(Vm:Q v H):gi i Z H Q
def tVar(i:Nat):TE:=λZ H Q=>gi i Z H Q
def tC(v:V):TE:=λ_ H Q=>Q v H
theorem cz{i:Nat}{x:Str}{pos:Pos}(hN:X.N[i]?=some x)(hv:Vis X.env.scope x)(hd:(x==("__debug__" : Str))=false:=by decide)(Pz:(x==("__classdict__" : Str))=false:=by decide):PE X (.Name x pos) (tVar i):=by
 intro XB s Z H Q I h;obtain⟨v,e,h⟩:=h;obtain⟨m,hn,hl⟩:=I.loc;obtain⟨u,r,l⟩:=hl i x v hN e hv;have fin:EP X XB Z Q u s:=⟨v,H,I,r,h⟩;rcases l with ⟨hk,hm⟩ | ⟨hk,c,hc,Ez⟩
 .exact wpAny_Name (wpAny_loadName_local I.ok.kind hk hn hm fin) hd
 .rcases hk with hk | hk
  .exact wpAny_Name (wpAny_loadName_cell I.ok.kind hk hc Ez fin) hd
  .exact wpAny_Name (wpAny_loadName_free I.ok.kind hk hc Ez fin Pz) hd
theorem Ma{i j pos}:PE X (.Constant (.int i) j pos) (tC (.int i)):=λ_ _ _ H _ I h=>wpAny_Constant_int ⟨.int i,H,I.tok _,⟨_,rfl⟩,h⟩
theorem pe_bl{b j pos}:PE X (.Constant (.bool b) j pos) (tC (.bl b)):=λ_ _ _ H _ I h=>Constant_bool ⟨.bl b,H,I,rfl,h⟩
theorem pe_non{j pos}:PE X (.Constant .none j pos) (tC .non):=λ_ _ _ H _ I h=>Constant_none ⟨.non,H,I,rfl,h⟩
theorem Qu{x j pos}:PE X (.Constant (.str x) j pos) (tC (.str x)):=λ_ _ _ H _ I h=>Calls.Constant_str ⟨.str x,H,I.tok _,⟨_,rfl⟩,h⟩
def Gl(X:Cx)(x:Str):Prop:=X.env.kindOf x=some .globalImplicit
theorem zp{E:ZW}{XB:ZY}{s:Shared}{Z:St}{H:Hp}{x:Str}{u:Value}{pos:Pos}{Q:ZW}(I:Inv X XB Z H s)(hg:Gl X x)(hm:X.mg x=some u)(h:Q u s)
  (hd:(x==("__debug__" : Str))=false:=by decide):wpAny (model X.prog X.w) X.A (eval (.Name x pos) X.env) Q E s :=
 Calls.Name_function_global I.ok.kind hg (Calls.loadGlobal_global (by rw[I.ok.glob];exact I.mod.glob.keeps I.bk) hm h) hd
theorem M3{E:ZW}{XB:ZY}{s:Shared}{Z:St}{H:Hp}{x:Str}{u:Value}{pos:Pos}{Q:ZW}(I:Inv X XB Z H s)(hg:Gl X x)(hm:X.mg x=none)(hv:bootBuiltins x=some u)(h:Q u s)
  (hn:x ≠ "__name__" := by decide) (hd:(x==("__debug__" : Str))=false:=by decide):wpAny (model X.prog X.w) X.A (eval (.Name x pos) X.env) Q E s:=by
 obtain⟨mb,h1,h2⟩:=I.mod.blt;exact Calls.Name_function_global I.ok.kind hg (Calls.loadGlobal_builtin (by rw[I.ok.glob];exact I.mod.glob.keeps I.bk) hm (by rw[I.ok.blt];exact h1.keeps I.bk) ((h2 x hn).trans hv) h) hd
theorem zq{x:Str}{v:V}{u:Value}{pos:Pos}(hg:Gl X x)(hm:X.mg x=some u)(r:RelV v u)(hd:(x==("__debug__" : Str))=false:=by decide):PE X (.Name x pos) (tC v) :=
 λ_ _ _ H _ I h=>zp I hg hm ⟨v,H,I,r,h⟩ hd
theorem Zxf{x:Str}{v:V}{u:Value}{pos:Pos}(hg:Gl X x)(hm:X.mg x=none)(hv:bootBuiltins x=some u)(r:RelV v u)(hn:x ≠ "__name__" := by decide)(hd:(x==("__debug__" : Str))=false:=by decide):PE X (.Name x pos) (tC v) :=
 λ_ _ _ H _ I h=>M3 I hg hm hv ⟨v,H,I,r,h⟩ hn hd
variable{a b:Expr}{ta tb:TE}{pos:Pos}
inductive tB_I(Q:(Bool->Hp->Prop))(x:V)(H1:Hp):Prop
 | mk(c)(Vd:x=.bl c)(Vm:Q c H1):tB_I Q x H1
def tB(t:TE):TT:=λZ H Q=>t Z H λx H1=>tB_I Q x H1
theorem pt_val{e:Expr}{t:TE}(h:PE X e t)(he:∀whole,isTrue e X.env whole=(do let v <-whole;standAt e.pos;holding [v] (truthy v)):=by intro _;rfl):PT X e (tB t):=by
 intro XB s Z H Q I hw;refine isTrue_plain (Yj (h XB s Z H _ I hw) λv s1 ⟨x,H1,I1,r1,q1⟩=>?_) (he _);obtain⟨d,rfl,q⟩:=q1;cases r1;exact wpAny_truthy_bool ⟨H1,I1,q⟩
variable{tA tB':TT}{rest:ZC}
def tAnd(t u:TT):TT:=λZ H Q=>t Z H λc H1=>if c=true then u Z H1 Q else Q false H1
def tOr(t u:TT):TT:=λZ H Q=>t Z H λc H1=>if c=true then Q true H1 else u Z H1 Q
def tNot(t:TT):TT:=λZ H Q=>t Z H λc H1=>Q (!c) H1
theorem pw_and1(ha:PT X a tA):PW X (.BoolOp .And [a] pos) tA:=by
 intro wh XB s Z H Q I h;refine isTrue_and (Yj (ha XB s Z H Q I h) λc s1 e=>?_);cases c with
 | true=>exact isTrue_and_nil e
 | false=>exact e
theorem pw_or1(ha:PT X a tA):PW X (.BoolOp .Or [a] pos) tA:=by
 intro wh XB s Z H Q I h;refine isTrue_or (Yj (ha XB s Z H Q I h) λc s1 e=>?_);cases c with
 | false=>exact isTrue_or_nil e
 | true=>exact e
theorem pw_and(ha:PT X a tA)(hb:PW X (.BoolOp .And (b::rest) pos) tB'):PW X (.BoolOp .And (a::b::rest) pos) (tAnd tA tB'):=by
 intro wh XB s Z H Q I h;refine isTrue_and (Yj (ha XB s Z H _ I h) λc s1 ⟨H1,I1,q1⟩=>?_);cases c with
 | true=>exact hb wh XB s1 Z H1 Q I1 q1
 | false=>exact⟨H1,I1,q1⟩
theorem pw_or(ha:PT X a tA)(hb:PW X (.BoolOp .Or (b::rest) pos) tB'):PW X (.BoolOp .Or (a::b::rest) pos) (tOr tA tB'):=by
 intro wh XB s Z H Q I h;refine isTrue_or (Yj (ha XB s Z H _ I h) λc s1 ⟨H1,I1,q1⟩=>?_);cases c with
 | true=>exact⟨H1,I1,q1⟩
 | false=>exact hb wh XB s1 Z H1 Q I1 q1
theorem pt_not(ha:PT X a tA):PT X (.UnaryOp .Not a pos) (tNot tA):=by
 intro XB s Z H Q I h;exact isTrue_not (ha XB s Z H (λc H1=>Q (!c) H1) I h)
inductive Xb(tb:TE)(Z:St)(Q:VK)(x:V)(H1:Hp):Prop
 | mk(c)(Vd:x=.bl c)(Vm:if c=true then tb Z H1 Q else Q (.bl false) H1):Xb tb Z Q x H1
def tAndV(ta tb:TE):TE:=λZ H Q=>ta Z H λx H1=>Xb tb Z Q x H1
inductive g9(tb:TE)(Z:St)(Q:VK)(x:V)(H1:Hp):Prop
 | mk(c)(Vd:x=.bl c)(Vm:if c=true then Q (.bl true) H1 else tb Z H1 Q):g9 tb Z Q x H1
def tOrV(ta tb:TE):TE:=λZ H Q=>ta Z H λx H1=>g9 tb Z Q x H1
inductive Xf(Q:VK)(x:V)(H1:Hp):Prop
 | mk(c)(Vd:x=.bl c)(Vm:Q (.bl (!c)) H1):Xf Q x H1
def tNotV(ta:TE):TE:=λZ H Q=>ta Z H λx H1=>Xf Q x H1
theorem cx{op}{t:TE}(h:PE X a t):PE X (.BoolOp op [a] pos) t:=λXB s Z H Q I hw=>BoolOp_one (h XB s Z H Q I hw)
theorem pe_and(ha:PE X a ta)(hb:PE X (.BoolOp .And (b::rest) pos) tb):PE X (.BoolOp .And (a::b::rest) pos) (tAndV ta tb):=by
 intro XB s Z H Q I h;refine BoolOp_and (Yj (ha XB s Z H _ I h) λv s1 ⟨x,H1,I1,r1,q1⟩=>?_);obtain⟨c,rfl,q1⟩:=q1;cases r1;refine wpAny_truthy_bool ?_;cases c with
 | true=>exact hb XB s1 Z H1 Q I1 q1
 | false=>exact⟨.bl false,H1,I1,rfl,q1⟩
theorem pe_or(ha:PE X a ta)(hb:PE X (.BoolOp .Or (b::rest) pos) tb):PE X (.BoolOp .Or (a::b::rest) pos) (tOrV ta tb):=by
 intro XB s Z H Q I h;refine BoolOp_or (Yj (ha XB s Z H _ I h) λv s1 ⟨x,H1,I1,r1,q1⟩=>?_);obtain⟨c,rfl,q1⟩:=q1;cases r1;refine wpAny_truthy_bool ?_;cases c with
 | false=>exact hb XB s1 Z H1 Q I1 q1
 | true=>exact⟨.bl true,H1,I1,rfl,q1⟩
theorem pe_not(ha:PE X a ta):PE X (.UnaryOp .Not a pos) (tNotV ta):=by
 intro XB s Z H Q I h;refine UnaryOp_ (Yj (ha XB s Z H _ I h) λv s1 ⟨x,H1,I1,r1,q1⟩=>?_);obtain⟨c,rfl,q1⟩:=q1;cases r1;exact not_of (wpAny_truthy_bool ⟨.bl (!c),H1,I1,rfl,q1⟩)
def tIf(t:TT)(ta tb:TE):TE:=λZ H Q=>t Z H λc H1=>if c=true then ta Z H1 Q else tb Z H1 Q
theorem cq{c:Expr}(hc:PT X c tA)(ha:PE X a ta)(hb:PE X b tb):PE X (.IfExp c a b pos) (tIf tA ta tb):=by
 intro XB s Z H Q I h;refine wpAny_IfExp (Yj (hc XB s Z H _ I h) λd s1 ⟨H1,I1,q1⟩=>?_);cases d with
 | true=>exact ha XB s1 Z H1 Q I1 q1
 | false=>exact hb XB s1 Z H1 Q I1 q1
end
def Uq(K:W.Frag)(H:Hp)(a:Addr)(xs:ZQ):Prop :=
 Rd H a (.lst xs) \/
  ∃(o:Obj) (XD:ZN) (n:Nat),K.lookup a=some o/\o.cls=.type "list" /\ o.dict=none/\o.data=.seq XD n/\XD.size<=sizeLine/\Zd xs XD.toList
def Vn(K:W.Frag)(H:Hp)(a:Addr)(xs:ZQ):Prop :=
 Rd H a (.tup xs) \/
  ∃(o:Obj) (XD:ZN) (n:Nat),K.lookup a=some o/\o.cls=.type "tuple" /\ o.dict=none/\o.data=.seq XD n/\XD.size<=sizeLine/\Zd xs XD.toList
noncomputable def absV:Value->Option V
 | .none=>some .non
 | .bool b=>some (.bl b)
 | .int i _=>some (.int i)
 | .str x _=>some (.str x)
 | .bytes b _=>some (.byt b)
 | .float b _=>some (.flt b)
 | .ref a=>some (.ref a)
 | .type n=>some (.ty n)
 | _=>none
theorem RelV.abs{x:V}{u:Value}(r:RelV x u):absV u=some x:=by
 cases x with
 | non=>cases r;rfl
 | bl _=>cases r;rfl
 | int _=>obtain⟨t,rfl⟩:=r;rfl
 | str _=>obtain⟨t,rfl⟩:=r;rfl
 | byt _=>obtain⟨t,rfl⟩:=r;rfl
 | flt _=>obtain⟨t,rfl⟩:=r;rfl
 | ref _=>cases r;rfl
 | ty _=>cases r;rfl
theorem RelV.inj{x y:V}{u:Value}(r:RelV x u)(q:RelV y u):x=y:=D8 (r.abs.symm.trans q.abs)
theorem Zd.inj:∀{xs ys:ZQ} {us:ZM},Zd xs us->Zd ys us->xs=ys
 | _,_,_,.nil,.nil=>rfl
 | _,_,_,.cons r t,.cons r' t'=>by rw[r.inj r',Zd.inj t t']
section
variable{X:Cx}{XB:ZY}{Z:St}{H:Hp}{s:Shared}{a:Addr}{xs ys:ZQ}
theorem Uq.of{K:W.Frag}(h:H a=some (.lst xs)):Uq K H a xs:=.inl (.inl h)
theorem Vn.of{K:W.Frag}(h:H a=some (.tup xs)):Vn K H a xs:=.inl (.inl h)
theorem Inv.list(I:Inv X XB Z H s)(h:Uq X.K H a xs):∃XD:ZM,Zd xs XD/\PlainL s.heap a XD.toArray/\xs.length<=sizeLine:=by
 rcases h with h | ⟨o,XD,n,hk,hc,hd,hs,hz,r⟩
 .obtain⟨z,XD,n,r,e⟩:=h.ok I.hok;exact⟨XD,r,⟨_,n,e,rfl,rfl,rfl⟩,z⟩
 .refine⟨XD.toList,r,⟨o,n,I.kIn a o hk,hc,hd,by simpa using hs⟩,?_⟩;have e:=r.length;simp only[yf]at e;omega
theorem Inv.tuple(I:Inv X XB Z H s)(h:Vn X.K H a xs):∃XD:ZM,Zd xs XD/\IsTup s.heap a XD.toArray/\xs.length<=sizeLine:=by
 rcases h with h | ⟨o,XD,n,hk,hc,hd,hs,hz,r⟩
 .obtain⟨z,XD,r,p⟩:=h.ok I.hok;exact⟨XD,r,p.tup,z⟩
 .refine⟨XD.toList,r,⟨o,I.kIn a o hk,hc,n,by simpa using hs⟩,?_⟩;have e:=r.length;simp only[yf]at e;omega
theorem Inv.list_inj(I:Inv X XB Z H s)(h:Uq X.K H a xs)(h':Uq X.K H a ys):xs=ys:=by
 obtain⟨XD,r,⟨o,n,e,_,_,d⟩,_⟩:=I.list h;obtain⟨its',r',⟨o',n',e',_,_,d'⟩,_⟩:=I.list h';rw[e]at e';cases e';rw[d]at d'
 injection d' with d1 _
 have:XD=its':=by simpa using congrArg Array.toList d1
 subst this;exact r.inj r'
theorem Inv.tuple_inj(I:Inv X XB Z H s)(h:Vn X.K H a xs)(h':Vn X.K H a ys):xs=ys:=by
 obtain⟨XD,r,⟨o,e,_,n,d⟩,_⟩:=I.tuple h;obtain⟨its',r',⟨o',e',_,n',d'⟩,_⟩:=I.tuple h';rw[e]at e';cases e';rw[d]at d'
 injection d' with d1 _
 have:XD=its':=by simpa using congrArg Array.toList d1
 subst this;exact r.inj r'
end
noncomputable abbrev Cx.wish(X:Cx)(E:ZW):Cx:={ X with xe:=E }
noncomputable abbrev Cx.nox(X:Cx):Cx:=X.wish λ_ _=>False
theorem Cx.Ok.wish{X:Cx}(ok:X.Ok)(E:ZW):(X.wish E).Ok :=
 ⟨ok.mod,ok.kind,ok.glob,ok.blt,ok.above,ok.inj,ok.has,ok.cab,ok.hd,ok.frames,ok.stk,ok.exf,ok.bs,ok.bsz,ok.noex,ok.exfs,ok.funs,ok.frf⟩
theorem Cx.Ok.unwish{X:Cx}{E:ZW}(ok:(X.wish E).Ok):X.Ok :=
 ⟨ok.mod,ok.kind,ok.glob,ok.blt,ok.above,ok.inj,ok.has,ok.cab,ok.hd,ok.frames,ok.stk,ok.exf,ok.bs,ok.bsz,ok.noex,ok.exfs,ok.funs,ok.frf⟩
section
variable{X:Cx}{XB:ZY}{Z:St}{H:Hp}{s:Shared}{E:ZW}
theorem Inv.wish(I:Inv X XB Z H s)(E:ZW):Inv (X.wish E) XB Z H s:=⟨I.ok.wish E,I.os,I.bare,I.base,I.loc,I.cell,I.free,I.freeC,I.pin,I.hok,I.len⟩
theorem Inv.unwish(I:Inv (X.wish E) XB Z H s):Inv X XB Z H s:=⟨I.ok.unwish,I.os,I.bare,I.base,I.loc,I.cell,I.free,I.freeC,I.pin,I.hok,I.len⟩
theorem SP.unwish{D:Ends}{f:Flow}{s':Shared}(h:SP (X.wish E) XB D f s'):SP X XB D f s':=by
 cases f with
 | next=>obtain⟨σ',H',I,q⟩:=h;exact⟨σ',H',I.unwish,q⟩
 | brk=>obtain⟨σ',H',I,q⟩:=h;exact⟨σ',H',I.unwish,q⟩
 | cont=>obtain⟨σ',H',I,q⟩:=h;exact⟨σ',H',I.unwish,q⟩
 | ret u=>obtain⟨v,σ',H',I,r,q⟩:=h;exact⟨v,σ',H',I.unwish,r,q⟩
theorem Wo.nox{st:List Stmt}{t:TS}(h:Wo X.nox st t):Wo X st t:=λXB s Z H D I hw =>
 wpAny_mono (h XB s Z H D (I.wish _) hw) (λ_ _ q=>q.unwish) λ_ _ z=>False.elim z
end
section
variable{X:Cx}{st:Stmt}{rest:List Stmt}{t u:TS}{e:Expr}{te:TE}{pos:Pos}
def Zj1:TS:=λD Z H=>D.nx Z H
def tSeq(t u:TS):TS:=λD Z H=>t { D with nx:=u D } Z H
theorem Zz3:Wo X [] Zj1:=λ_ _ Z H _ I h=>wpAny_execs_nil ⟨Z,H,I,h⟩
theorem dh(h1:PS X st t)(h2:Wo X rest u):Wo X (st::rest) (tSeq t u):=by
 intro XB s Z H D I h;refine wpAny_execs_cons (Yj (h1 XB s Z H { D with nx:=u D } I h) λf s1 q=>?_);cases f with
 | next =>
  obtain⟨σ',H',I',q⟩:=q;exact h2 XB s1 σ' H' D I' q
 | ret v=>exact q
 | brk=>exact q
 | cont=>exact q
theorem X8(h1:PS X st t):Wo X [st] t:=by
 intro XB s Z H D I h;refine wpAny_execs_cons (Yj (h1 XB s Z H D I h) λf s1 q=>?_);cases f with
 | next=>exact wpAny_execs_nil q
 | ret v=>exact q
 | brk=>exact q
 | cont=>exact q
def tBreak:TS:=λD Z H=>D.bk Z H
def tCont:TS:=λD Z H=>D.ct Z H
theorem Zz5:PS X (.Pass pos) Zj1:=λ_ _ Z H _ I h=>wpAny_Pass ⟨Z,H,I,h⟩
theorem di:PS X (.Break pos) tBreak:=λ_ _ Z H _ I h=>wpAny_Break ⟨Z,H,I,h⟩
theorem Sq:PS X (.Continue pos) tCont:=λ_ _ Z H _ I h=>wpAny_Continue ⟨Z,H,I,h⟩
theorem Inv.quiet{XB:ZY}{Z:St}{H:Hp}{s:Shared}(I:Inv X XB Z H s):interactive X.env=false:=by simp[interactive,I.ok.kind]
def tDrop(te:TE):TS:=λD Z H=>te Z H λ_ H1=>D.nx Z H1
theorem Zz6(he:PE X e te)(hs:swapsWith e none pos.line X.env=pure false:=by rfl):PS X (.Expr e pos) (tDrop te):=by
 intro XB s Z H D I h;exact wpAny_Expr_any (Yj (he XB s Z H _ I h) λv s1 ⟨x,H1,I1,r1,q1⟩=>⟨Z,H1,I1,q1⟩) I.quiet hs
def tRet(te:TE):TS:=λD Z H=>te Z H D.rt
theorem Aj(he:PE X e te):PS X (.Return (some e) pos) (tRet te):=by
 intro XB s Z H D I h;exact wpAny_Return_some (Yj (he XB s Z H _ I h) λv s1 ⟨x,H1,I1,r1,q1⟩=>⟨x,Z,H1,I1,r1,q1⟩)
def tRetN:TS:=λD _ H=>D.rt .non H
theorem Zz4:PS X (.Return none pos) tRetN:=λ_ _ Z H _ I h=>wpAny_Return_none ⟨.non,Z,H,I,rfl,h⟩
def tIfS(c:TT)(t u:TS):TS:=λD Z H=>c Z H λb H1=>if b=true then t D Z H1 else u D Z H1
theorem ps_if{c:Expr}{a b:List Stmt}{tc:TT}(hc:PT X c tc)(ha:Wo X a t)(hb:Wo X b u):PS X (.If c a b pos) (tIfS tc t u):=by
 intro XB s Z H D I h;refine wpAny_If (Yj (hc XB s Z H _ I h) λd s1 ⟨H1,I1,q1⟩=>?_);cases d with
 | true=>exact ha XB s1 Z H1 D I1 q1
 | false=>exact hb XB s1 Z H1 D I1 q1
end
abbrev TG:=V->St->Hp->(St->Hp->Prop)->Prop
abbrev oy:=ZQ->St->Hp->(St->Hp->Prop)->Prop
def PG(X:Cx)(target:Expr)(t:TG):Prop :=
 ∀(XB:ZY) (s:Shared) (Z:St) (H:Hp) (v:V) (u:Value) (Q:St->Hp->Prop),Inv X XB Z H s->RelV v u->t v Z H Q ->
  wpAny (model X.prog X.w) X.A (assign target X.env u) (λ_ s'=>∃σ' H',Inv X XB σ' H' s'/\Q σ' H') X.xe s
def PGs(X:Cx)(ts:ZC)(t:oy):Prop :=
 ∀(XB:ZY) (s:Shared) (Z:St) (H:Hp) (vs:ZQ) (us:ZM) (Q:St->Hp->Prop),Inv X XB Z H s->Zd vs us->t vs Z H Q ->
  wpAny (model X.prog X.w) X.A (assignInOrder ((assignEach ts X.env).map (·.2)) us) (λ_ s'=>∃σ' H',Inv X XB σ' H' s'/\Q σ' H') X.xe s
abbrev TSet:=V->V->V->Hp->(Hp->Prop)->Prop
def PSet(X:Cx)(t:TSet):Prop :=
 ∀(XB:ZY) (s:Shared) (Z:St) (H:Hp) (o i v:V) (ov iv u:Value) (Q:Hp->Prop),Inv X XB Z H s->RelV o ov->RelV i iv->RelV v u->t o i v H Q ->
  wpAny (model X.prog X.w) X.A (setItem ov iv u) (λ_ s'=>∃H',Inv X XB Z H' s'/\Q H') X.xe s
section
variable{X:Cx}{pos:Pos}
def sr(i:Nat):TG:=λv Z H Q=>Q (Z.set i (some v)) H
theorem Zxj{i:Nat}{x:Str}(hN:X.N.Nodup)(hi:X.N[i]?=some x)(hx:Loc X.env.scope x)(hf:X.fn x=true\/X.env.scope.names.lookup x=some .local:=by first | exact .inl rfl | exact .inr rfl | assumption):PG X (.Name x pos) (sr i):=by
 intro XB s Z H v u Q I r h;exact wpAny_assign_Name (Oi I hN hi hx r (λs' I'=>⟨_,H,I',h⟩) hf)
def gNil:oy:=λvs Z H Q=>vs=[]/\Q Z H
inductive xf(t:TG)(u:oy)(vs:ZQ)(Z:St)(H:Hp)(Q:(St->Hp->Prop)):Prop
 | mk(v r)(Vd:vs=v::r)(Vm:t v Z H λσ' H'=>u r σ' H' Q):xf t u vs Z H Q
def gCons(t:TG)(u:oy):oy:=λvs Z H Q=>xf t u vs Z H Q
theorem Zxq:PGs X [] gNil:=by
 intro XB s Z H vs us Q I r h;obtain⟨e,h⟩:=h;subst e;cases r;exact assignInOrder_nil ⟨Z,H,I,h⟩
theorem t9{e:Expr}{es:ZC}{t:TG}{u:oy}(h1:PG X e t)(h2:PGs X es u)
  (hs:(assignEach (e::es) X.env).map (·.2)=assign e X.env::(assignEach es X.env).map (·.2):=by rfl):PGs X (e::es) (gCons t u):=by
 intro XB s Z H vs us Q I r h;obtain⟨v,vr,e1,h⟩:=h;subst e1;cases r with
 | cons r rr =>
  rw[hs];refine assignInOrder_cons (Yj (h1 XB s Z H _ _ _ I r h) λ_ s1 ⟨σ1,H1,I1,q1⟩=>?_);exact h2 XB s1 σ1 H1 _ _ Q I1 rr q1
inductive sf(K:W.Frag)(n:Nat)(t:oy)(v:V)(Z:St)(H:Hp)(Q:(St->Hp->Prop)):Prop
 | mk(a xs)(Vd:v=.ref a)(Vm:Vn K H a xs)(U0:xs.length=n)(Lg:t xs Z H Q):sf K n t v Z H Q
def gTup(K:W.Frag)(n:Nat)(t:oy):TG:=λv Z H Q=>sf K n t v Z H Q
theorem pg_tup{es:ZC}{k:Nat}{t:oy}{n:Nat}(hc:X.calm=true)(h:PGs X es t)
  (hn:(assignEach es X.env).length=n:=by rfl) (W2:(assignEach es X.env).findIdx? (·.1)=none:=by rfl):PG X (.Tuple es k pos) (gTup X.K n t):=by
 intro XB s Z H v u Q I r hw;obtain⟨a,xs,e1,hq,hl,hw⟩:=hw;subst e1;cases r;obtain⟨XD,rv,ht,hz⟩:=I.tuple hq;refine assign_Tuple_tuple (I.ok.hd hc) ht (by simp[hn, <-hl,rv.length]) W2 λh' hx=>?_;have I1:Inv X XB Z H { s with heap:=h' }:=I.kept (t':=s.toks) λb o e=>hx b o (Tf (V5 e)) e;exact h XB _ Z H xs _ Q I1 (by simpa using rv) hw
def gSub(to ti:TE)(t:TSet):TG:=λv Z H Q=>to Z H λo H1=>ti Z H1 λi H2=>t o i v H2 λH3=>Q Z H3
theorem pg_sub{o i:Expr}{to ti:TE}{t:TSet}(ho:PE X o to)(hi:PE X i ti)(hs:PSet X t)
  (ha:∀v,assign (.Subscript o i pos) X.env v=(do
   let ov <-holding [v] (eval o X.env)
   let iv <-holding [v,ov] (eval i X.env)
   standAt pos
   holding [v,ov,iv] (setItem ov iv v)
   release [v,ov,iv] []):=by intro _;rfl):PG X (.Subscript o i pos) (gSub to ti t):=by
 intro XB s Z H v u Q I r h;rw[ha];refine Zt (wpAny_holding (Yj (ho XB s Z H _ I h) λov s1 ⟨x,H1,I1,r1,q1⟩=>?_));refine Zt (wpAny_holding (Yj (hi XB s1 Z H1 _ I1 q1) λiv s2 ⟨y,H2,I2,r2,q2⟩=>?_));refine Zt (wpAny_standAt (Zt (wpAny_holding (Yj (hs XB s2 Z H2 x y v ov iv u _ I2 r1 r2 r q2) λ_ s3 ⟨H3,I3,q3⟩=>?_))));exact wpAny_release ⟨Z,H3,I3,q3⟩
def tAsg(te:TE)(g:TG):TS:=λD Z H=>te Z H λx H1=>g x Z H1 D.nx
theorem de{tg e:Expr}{te:TE}{g:TG}(he:PE X e te)(hg:PG X tg g)(hs:swapsWithSole [tg] e pos.line X.env=pure false:=by rfl)(hw:swappedStores [tg] e X.env=pure none:=by rfl)
  (h1:(assignEach [tg] X.env).map (·.2)=[assign tg X.env]:=by rfl):PS X (.Assign [tg] e pos) (tAsg te g):=by
 intro XB s Z H D I h;refine wpAny_Assign_stores (Yj (he XB s Z H _ I h) λv s1 ⟨x,H1,I1,r1,q1⟩=>?_) hs hw;rw[h1];exact Yj (hg XB s1 Z H1 x v _ I1 r1 q1) λ_ s2 q=>q
theorem ps_set{i:Nat}{x:Str}{e:Expr}{te:TE}{pos':Pos}(hN:X.N.Nodup)(hi:X.N[i]?=some x)(hx:Loc X.env.scope x)(he:PE X e te)(hs:swapsWith e (some (.Name x pos')) pos.line X.env=pure false:=by rfl)(hf:X.fn x=true\/X.env.scope.names.lookup x=some .local:=by first | exact .inl rfl | exact .inr rfl | assumption) :
  PS X (.Assign [.Name x pos'] e pos) (tAsg te (sr i)):=by
 intro XB s Z H D I h;refine wpAny_Assign_Name (Yj (he XB s Z H _ I h) λv s1 ⟨y,H1,I1,r1,q1⟩=>?_) hs;exact Oi I1 hN hi hx r1 (λs2 I2=>⟨_,H1,I2,q1⟩) hf
end
section
variable{X:Cx}{pos:Pos}
def tWhile(c:TT)(tb:TS):TS:=λD Z H=>∃W:Nat->St->Hp->Prop,(∃m,W m Z H)/\∀m Z H,W m Z H ->
 c Z H λb H1=>if b=true then ∃N:St->Hp->Prop,(∀σ' H',N σ' H'->∃m',m'<m/\W m' σ' H')/\tb { D with nx:=N,ct:=N,bk:=D.nx } Z H1 else D.nx Z H1
theorem du{c:Expr}{body:List Stmt}{tc:TT}{tb:TS}(hp:PassesOwn (model X.prog X.w) X.A X.env X.xe)(hc:PT X c tc)(hb:Wo X body tb):PS X (.While c body [] pos) (tWhile tc tb):=by
 intro XB s Z H D I h;obtain⟨W,⟨m0,w0⟩,turn⟩:=h;refine wpAny_While (codeAny_whileLoop (λn s'=>∃σ' H',Inv X XB σ' H' s'/\W n σ' H') ?_ m0 ⟨Z,H,I,w0⟩);rintro n s1 ⟨σ1,H1,I1,w1⟩;refine wpAny_passesOwn hp (Yj (hc XB s1 σ1 H1 _ I1 (turn n σ1 H1 w1)) λb s2 ⟨H2,I2,q2⟩=>?_);cases b with
 | true =>
  obtain⟨N,hN,q2⟩:=q2;rw[if_pos rfl];refine wpAny_passesOwn hp (Yj (hb XB s2 σ1 H2 _ I2 q2) λf s3 q3=>?_);cases f with
  | next =>
   obtain⟨σ3,H3,I3,n3⟩:=q3;obtain⟨m',hm,w3⟩:=hN σ3 H3 n3;exact⟨m',hm,σ3,H3,I3,w3⟩
  | cont =>
   obtain⟨σ3,H3,I3,n3⟩:=q3;obtain⟨m',hm,w3⟩:=hN σ3 H3 n3;exact⟨m',hm,σ3,H3,I3,w3⟩
  | brk=>exact q3
  | ret v=>exact q3
 | false =>
  rw[if_neg Nj];exact wpAny_execs_nil ⟨σ1,H2,I2,q2⟩
end
structure It where
 go:Nat->Hp->Prop
 yld:Nat->Hp->V->Hp->Prop
 stop:Nat->Hp->Prop
def Bg(X:Cx)(XB:ZY)(H:Hp)(b:Addr):Prop :=
 H b=none/\b≠X.env.locals/\b∉X.fs/\(b∈X.ex\/X.s₀.heap.objs.size<=b)/\(∀x c,X.env.cells.lookup x=some c->c≠b)/\∀p∈X.pn++XB,p.1≠b
theorem Inv.fpOk{X:Cx}{XB:ZY}{Z:St}{H H':Hp}{s:Shared}{b:Addr}(I:Inv X XB Z H s)(hb:s.heap.objs.size<=b)(hn:H' b=none):Bg X XB H' b:=by
 refine⟨hn,Nat.ne_of_gt (F7 I.lt hb),I.nofs hb,.inr (Tg I.sz hb),λx c e z=>?_,λp hp z=>?_⟩
 .obtain⟨v,q⟩:=I.cell x c e;exact absurd (F7 q.lt (by rw[z];exact hb)) (Nat.lt_irrefl _)
 .exact absurd (F7 (V5 (I.pin p hp).1) (by rw[z];exact hb)) (Nat.lt_irrefl _)
structure Turn(P:Program)(w:World)(K:W.Frag)(tg:Expr)(J:It)(fp:ZU)(it:Addr)(tn:Nat->Heap->Prop):Prop where
 mem:it∈fp
 obj:∀i h,tn i h->∀b∈fp,∃o,h.get? b=some o/\∀v,o.data≠.cell v
 keep:∀i h h',tn i h->(∀b∈fp,∀o,h.get? b=some o->h'.get? b=some o)->tn i h'
 item:∀(X:Cx),X.prog=P->X.w=w->X.K=K->X.calm=true->∀(i:Nat) (XB:ZY) (s:Shared) (Z:St) (H:Hp) (E:ZW),Inv X XB Z H s->(∀b∈fp,Bg X XB H b)->tn i s.heap->J.go i H ->
  wpAny (model P w) X.A (pyNext (.ref it)) (λr s1=>∃u,r=some u /\
   wpAny (model P w) X.A (letOwnedTupleGo tg (.ref it) u) (λ_ s2=>∃x H',Inv X XB Z H' s2/\RelV x u/\J.yld i H x H'/\tn (i+1) s2.heap/\∀b∈fp,H' b=none) E s1) E s
 done:∀(X:Cx),X.prog=P->X.w=w->X.K=K->X.calm=true->∀(i:Nat) (XB:ZY) (s:Shared) (Z:St) (H:Hp) (E:ZW),Inv X XB Z H s->(∀b∈fp,Bg X XB H b)->tn i s.heap->J.stop i H ->
  wpAny (model P w) X.A (pyNext (.ref it)) (λr s1=>r=none/\Inv X XB Z H s1) E s
 self:∀(A:Around) (i:Nat) (s:Shared) (Q:ZW) (E:ZW),tn i s.heap->Q (.ref it) s->wpAny (model P w) A (pyIter (.ref it)) Q E s
abbrev TI:=St->Hp->(It->Hp->Prop)->Prop
def PIE(X:Cx)(XB:ZY)(Z:St)(tg:Expr)(R:It->Hp->Prop)(itv:Value)(s2:Shared):Prop :=
 ∃(it:Addr) (fp:ZU) (tn:Nat->Heap->Prop) (J:It) (H':Hp),itv=.ref it/\Inv X XB Z H' s2/\Turn X.prog X.w X.K tg J fp it tn/\tn 0 s2.heap/\(∀b∈fp,Bg X XB H' b)/\R J H'
def PI(X:Cx)(tg iter:Expr)(wi:TI):Prop :=
 ∀(XB:ZY) (s:Shared) (Z:St) (H:Hp) (R:It->Hp->Prop),Inv X XB Z H s->wi Z H R ->
  wpAny (model X.prog X.w) X.A (eval iter X.env) (λv s1=>wpAny (model X.prog X.w) X.A (pyIter v) (PIE X XB Z tg R) X.xe s1) X.xe s
theorem Ew{M:Model}{A:Around}{E:ZW}{s:Shared}{tg:Expr}{it:Addr}{u:Value}{o:Obj}{n:String}{vs:ZN}{Q:ZA}(ho:s.heap.get? it=some o)(hc:o.cls=.type n)(hd:o.data=.fields vs)
    (hn:["enumerate","zip","dict_itemiterator","dict_reverseitemiterator","odict_iterator","itertools.zip_longest","itertools.pairwise"].contains n=false) (hQ:Q () s):wpAny M A (letOwnedTupleGo tg (.ref it) u) Q E s:=by
  unfold letOwnedTupleGo
  cases tg<;>first
    | exact Yl hQ
    | (cases u<;>first
        | exact Yl hQ
        | (refine Zt (wpAny_load ho ?_)
           rw[hc,hd];show wpAny M A (if (["enumerate","zip","dict_itemiterator","dict_reverseitemiterator","odict_iterator","itertools.zip_longest","itertools.pairwise"].contains n&&vs[0]? == some (rawInt _))=true then _ else _) Q E s;rw[if_neg (by intro h;rw[hn,Bool.false_and]at h;cases h)];exact Yl hQ))
def Itl(K:W.Frag)(a:Addr):It :=
 ⟨λi H=>∃xs x,Uq K H a xs/\xs[i]?=some x,λi H x H'=>H'=H/\∀xs,Uq K H a xs->xs[i]?=some x,λi H=>∃xs,Uq K H a xs/\xs.length<=i⟩
def Itt(K:W.Frag)(a:Addr):It :=
 ⟨λi H=>∃xs x,Vn K H a xs/\xs[i]?=some x,λi H x H'=>H'=H/\∀xs,Vn K H a xs->xs[i]?=some x,λi H=>∃xs,Vn K H a xs/\xs.length<=i⟩
def Itr(lo:Int)(n:Nat):It:=⟨λi _=>i<n,λi H x H'=>H'=H/\x=.int (lo+i),λi _=>n<=i⟩
theorem qt{P:Program}{w:World}{K:W.Frag}{tg:Expr}(a it:Addr):Turn P w K tg (Itl K a) [it] it (λi h=>h.IsListIter it a i) where
 mem:=by simp
 obj:=λi h st b hb=>by
  have e:b=it:=by simpa using hb
  subst e;obtain⟨o,e,c,d⟩:=st;exact⟨o,e,λv z=>by rw[d]at z;cases z⟩
 keep:=λi h h' st k=>st.at λo e=>k it XA o e
 item:=by
  intro X hP hw hK hc i XB s Z H E I hf st hg;subst hP hw hK;obtain⟨xs,x,hq,hx⟩:=hg;obtain⟨XD,rv,p,hz⟩:=I.list hq;obtain⟨u,hu,ru⟩:=rv.get hx;obtain⟨f0,f1,f2,f3,f4,f5⟩:=hf it XA;refine wpAny_pyNext_list_item st p.isList (x:=u) (by simpa using hu) λh' Ko sb=>?_;have I1:Inv X XB Z H { s with heap:=h' }:=I.turned (t':=s.toks) (λb o hb e=>(sb.2 b hb).trans e) f0 f1 f3 f4 f5;obtain⟨o,e,c,d⟩:=id Ko;exact⟨u,rfl,Ew (s:={ s with heap:=h' }) e c d XU ⟨x,H,I1,ru,⟨rfl,λys hy=>by rw[I.list_inj hy hq];exact hx⟩,Ko,λb hb=>(hf b hb).1⟩⟩
 done:=by
  intro X hP hw hK hc i XB s Z H E I hf st hg;subst hP hw hK;obtain⟨xs,hq,hx⟩:=hg;obtain⟨XD,rv,p,hz⟩:=I.list hq;obtain⟨f0,f1,f2,f3,f4,f5⟩:=hf it XA;have hl:=rv.length;exact wpAny_pyNext_list_end (I.ok.hd hc) st p.isList (by simp;omega) λh' eb=>⟨rfl,I.turned (t':=s.toks) (λb o hb e=>eb b o hb e) f0 f1 f3 f4 f5⟩
 self:=λ_ _ _ _ _ st h=>wpAny_pyIter_listiter st h
theorem Hy{P:Program}{w:World}{K:W.Frag}{tg:Expr}(a it:Addr):Turn P w K tg (Itt K a) [it] it (λi h=>h.IsTupleIter it a i) where
 mem:=by simp
 obj:=λi h st b hb=>by
  have e:b=it:=by simpa using hb
  subst e;obtain⟨o,e,c,d⟩:=st;exact⟨o,e,λv z=>by rw[d]at z;cases z⟩
 keep:=λi h h' st k=>st.at λo e=>k it XA o e
 item:=by
  intro X hP hw hK hc i XB s Z H E I hf st hg;subst hP hw hK;obtain⟨xs,x,hq,hx⟩:=hg;obtain⟨XD,rv,p,hz⟩:=I.tuple hq;obtain⟨u,hu,ru⟩:=rv.get hx;obtain⟨f0,f1,f2,f3,f4,f5⟩:=hf it XA;refine wpAny_pyNext_tuple_item st (show s.heap.IsTuple a XD.toArray from p) (x:=u) (by simpa using hu) λh' Ko sb=>?_;have I1:Inv X XB Z H { s with heap:=h' }:=I.turned (t':=s.toks) (λb o hb e=>(sb.2 b hb).trans e) f0 f1 f3 f4 f5;obtain⟨o,e,c,d⟩:=id Ko;exact⟨u,rfl,Ew (s:={ s with heap:=h' }) e c d XU ⟨x,H,I1,ru,⟨rfl,λys hy=>by rw[I.tuple_inj hy hq];exact hx⟩,Ko,λb hb=>(hf b hb).1⟩⟩
 done:=by
  intro X hP hw hK hc i XB s Z H E I hf st hg;subst hP hw hK;obtain⟨xs,hq,hx⟩:=hg;obtain⟨XD,rv,p,hz⟩:=I.tuple hq;obtain⟨f0,f1,f2,f3,f4,f5⟩:=hf it XA;have hl:=rv.length;exact wpAny_pyNext_tuple_end (I.ok.hd hc) st (show s.heap.IsTuple a XD.toArray from p) (by simp;omega) λh' eb=>⟨rfl,I.turned (t':=s.toks) (λb o hb e=>eb b o hb e) f0 f1 f3 f4 f5⟩
 self:=λ_ _ _ _ _ st h=>wpAny_pyIter_tupleiter st h
theorem Hk{P:Program}{w:World}{K:PySem.W.Frag}{tg:Expr}(it:Addr)(lo:Int)(n:Nat):Turn P w K tg (Itr lo n) [it] it (λi h=>IsRangeIter h it (lo+(i:Nat)*1) ((n:Int)-(i:Nat)) 1) where
 mem:=by simp
 obj:=λi h st b hb=>by
  have e:b=it:=by simpa using hb
  subst e
  exact⟨_,st,λv z=>by
   have z':Data.fields _=Data.cell v:=z;cases z'⟩
 keep:=λi h h' st k=>k it XA _ st
 item:=by
  intro X hP hw hK hc i XB s Z H E I hf st hg;subst hP hw hK;obtain⟨f0,f1,f2,f3,f4,f5⟩:=hf it XA;have W:=Walks.range (prog:=X.prog) (w:=X.w) (I.ok.hd hc) it lo 1 n;refine W.item i s _ _ hg st λv h' tk hv Ko kk=>?_;obtain⟨t,rfl⟩:=hv;have I1:Inv X XB Z H { s with heap:=h',toks:=tk }:=I.turned (λb o hb e=>kk b o (by simpa using hb) e) f0 f1 f3 f4 f5;refine⟨_,rfl,Ew (s:={ s with heap:=h',toks:=tk }) (n:="range_iterator") Ko rfl rfl XU ⟨.int (lo+i),H,I1,⟨t,?_⟩,⟨rfl,rfl⟩,Ko,λb hb=>(hf b hb).1⟩⟩;rw[Int.mul_one]
 done:=by
  intro X hP hw hK hc i XB s Z H E I hf st hg;subst hP hw hK;obtain⟨f0,f1,f2,f3,f4,f5⟩:=hf it XA;exact wpAny_pyNext_range_end (I.ok.hd hc) st (by have:n<=i:=hg;omega) λh' eb=>⟨rfl,I.turned (t':=s.toks) (λb o hb e=>eb b o hb e) f0 f1 f3 f4 f5⟩
 self:=λ_ _ _ _ _ st h=>wpAny_pyIter_rangeiter st h
section
variable{X:Cx}{tg:Expr}
inductive xw(K:W.Frag)(R:(It->Hp->Prop))(x:V)(H1:Hp):Prop
 | mk(a)(Vd:x=.ref a)(Vm:(∃xs,Uq K H1 a xs))(U0:R (Itl K a) H1):xw K R x H1
def iList(K:W.Frag)(tl:TE):TI:=λZ H R=>tl Z H λx H1=>xw K R x H1
inductive sv(K:W.Frag)(R:(It->Hp->Prop))(x:V)(H1:Hp):Prop
 | mk(a)(Vd:x=.ref a)(Vm:(∃xs,Vn K H1 a xs))(U0:R (Itt K a) H1):sv K R x H1
def iTup(K:W.Frag)(tl:TE):TI:=λZ H R=>tl Z H λx H1=>sv K R x H1
theorem Zxx{l:Expr}{tl:TE}(hl:PE X l tl):PI X tg l (iList X.K tl):=by
 intro XB s Z H R I h;refine Yj (hl XB s Z H _ I h) λv s1 ⟨x,H1,I1,r1,q1⟩=>?_;obtain⟨a,e,⟨xs,hq⟩,q⟩:=q1;subst e;cases r1;obtain⟨XD,rv,p,hz⟩:=I1.list hq;refine wpAny_pyIter_list p.isList ?_;refine⟨s1.heap.objs.size,[s1.heap.objs.size],_,_,H1,rfl,I1.kept (t':=s1.toks) λb o e=>Vp _ e,qt a _,⟨_,Mp _ rfl,rfl,rfl⟩,λb hb=>?_,q⟩;have e:b=s1.heap.objs.size:=by simpa using hb
 subst e;exact I1.fpOk (Vy _) (I1.hok.fresh (Vy _))
theorem pi_tup{l:Expr}{tl:TE}(hl:PE X l tl):PI X tg l (iTup X.K tl):=by
 intro XB s Z H R I h;refine Yj (hl XB s Z H _ I h) λv s1 ⟨x,H1,I1,r1,q1⟩=>?_;obtain⟨a,e,⟨xs,hq⟩,q⟩:=q1;subst e;cases r1;obtain⟨XD,rv,p,hz⟩:=I1.tuple hq;refine wpAny_pyIter_tuple (show s1.heap.IsTuple a XD.toArray from p) ?_;refine⟨s1.heap.objs.size,[s1.heap.objs.size],_,_,H1,rfl,I1.kept (t':=s1.toks) λb o e=>Vp _ e,Hy a _,⟨_,Mp _ rfl,rfl,rfl⟩,λb hb=>?_,q⟩;have e:b=s1.heap.objs.size:=by simpa using hb
 subst e;exact I1.fpOk (Vy _) (I1.hok.fresh (Vy _))
theorem dz{XB:ZY}{Z:St}{H:Hp}{s:Shared}{R:It->Hp->Prop}{E:ZW}{lo hi:Int}{t u v:Tok}{tk:Nat}(I:Inv X XB Z H s)(h1:-(2 ^ 62)<=lo)(h2:lo<2 ^ 62)(h3:-(2 ^ 62)<=hi)(h4:hi<2 ^ 62)
  (q:R (Itr lo (hi-lo).toNat) H):wpAny (model X.prog X.w) X.A (pyIter (.ref s.heap.objs.size)) (PIE X XB Z tg R) E { s with heap:=s.heap.push { cls:=.type "range",data:=.fields #[.int lo t,.int hi u,.int 1 v] },toks:=tk }:=by
 refine wpAny_pyIter_range (IsRange.new ..) (small_one h1 h2 h3 h4) ?_;have I1:Inv X XB Z H { s with heap:=s.heap.push { cls:=.type "range",data:=.fields #[.int lo t,.int hi u,.int 1 v] },toks:=tk }:=I.kept λb o e=>Vp _ e
 refine⟨(s.heap.push { cls:=.type "range",data:=.fields #[.int lo t,.int hi u,.int 1 v] }).objs.size,[(s.heap.push { cls:=.type "range",data:=.fields #[.int lo t,.int hi u,.int 1 v] }).objs.size],_,_,H,rfl,
  I1.kept (t':=tk) λb o e=>Vp _ e,Hk _ lo (hi-lo).toNat,?_,λb hb=>?_,q⟩
 .have e1:lo+((0:Nat):Int)*1=lo:=by simp
  have e2:(((hi-lo).toNat:Nat):Int)-((0:Nat):Int)=Builtin.Range.rangeSize lo hi 1:=by rw[rangeSize_one];split<;>omega
  show IsRangeIter _ _ (lo+((0:Nat):Int)*1) ((((hi-lo).toNat:Nat):Int)-((0:Nat):Int)) 1;rw[e1,e2];exact Mp _ rfl
 .have e:b=(s.heap.push { cls:=.type "range",data:=.fields #[.int lo t,.int hi u,.int 1 v] }).objs.size:=by simpa using hb
  subst e;exact I1.fpOk (Vy _) (I1.hok.fresh (Vy _))
inductive xj(R:(It->Hp->Prop))(vs:ZQ)(H1:Hp):Prop
 | mk(j:Int)(Vd:vs=[.int j])(Vm:-(2 ^ 62)<=j)(U0:j<2 ^ 62)(Lg:R (Itr 0 j.toNat) H1):xj R vs H1
def iRng1(ta:TA):TI:=λZ H R=>ta Z H λvs H1=>xj R vs H1
theorem ja{a:Expr}{ta:TA}{p pos:Pos}(hg:Gl X "range")(hm:X.mg "range"=none)(ha:PA X [a] ta)(hs:starEach [a] X.env=[(false,eval a X.env)]:=by rfl):PI X tg (.Call (.Name "range" p) [a] [] pos) (iRng1 ta):=by
 intro XB s Z H R I h;refine Call_ (M3 I hg hm boot_range (callWith_type1 (Yj (ha pos XB s Z H _ I h) λus s1 ⟨vs,H1,I1,r1,q1⟩=>?_) hs rfl));obtain⟨j,e,q1,q2,q⟩:=q1;subst e;cases r1 with
 | cons r rr =>
  cases rr;obtain⟨t,rfl⟩:=r;exact call_range_1 (dz I1 XS XS q1 q2 (by simpa using q))
def tFor(wi:TI)(g:TG)(tb:TS):TS:=λD Z H=>wi Z H λJ H1=>∃W:Nat->Nat->St->Hp->Prop,(∃m,W 0 m Z H1)/\∀i m Z H,W i m Z H ->
 (J.stop i H/\D.nx Z H)\/(J.go i H/\∃N:St->Hp->Prop,(∀σ' H',N σ' H'->∃m',m'<m/\W (i+1) m' σ' H')/\∀x H',J.yld i H x H'->g x Z H' λσ2 H2=>tb { D with nx:=N,ct:=N,bk:=D.nx } σ2 H2)
def Rn(fp:ZU)(h:Heap):ZY:=fp.filterMap λb=>(h.get? b).map λo=>(b,o)
theorem Gv{fp:ZU}{h:Heap}{b:Addr}{o:Obj}(hb:b∈fp)(e:h.get? b=some o):(b,o)∈Rn fp h:=List.mem_filterMap.mpr ⟨b,hb,by rw[e];rfl⟩
theorem j9{fp:ZU}{h:Heap}{p:Addr×Obj}(hp:p∈Rn fp h):p.1∈fp/\h.get? p.1=some p.2:=by
 obtain⟨b,hb,e⟩:=List.mem_filterMap.mp hp;cases q:h.get? b with
 | none=>rw[q]at e;cases e
 | some o =>
  rw[q]at e;have e':(b,o)=p:=D8 e;subst e';exact⟨hb,q⟩
theorem Inv.pinned{XB:ZY}{Z:St}{H:Hp}{s:Shared}{fp:ZU}(I:Inv X XB Z H s)(hf:∀b∈fp,Bg X XB H b)(ho:∀b∈fp,∃o,s.heap.get? b=some o/\∀v,o.data≠.cell v):Inv X (XB++Rn fp s.heap) Z H s :=
 I.pins_of λp hp=>(yk.mp hp).elim (λz=>I.pin p (og _ z)) λz=>by
  obtain⟨hb,e⟩:=j9 z;obtain⟨f0,f1,f2,_⟩:=hf p.1 hb;obtain⟨o,e',d⟩:=ho p.1 hb;rw[e]at e';cases e';exact⟨e,f0,f1,f2,d⟩
theorem Inv.unpinned{XB pl:ZY}{Z:St}{H:Hp}{s:Shared}(I:Inv X (XB++pl) Z H s):Inv X XB Z H s:=I.pins_of λp hp=>I.pin p (og _ (List.mem_append_left _ hp))
theorem ps_for{iter:Expr}{body:List Stmt}{wi:TI}{g:TG}{tb:TS}{pos:Pos}(hp:PassesOwn (model X.prog X.w) X.A X.env X.xe)(hc:X.calm=true)(hi:PI X tg iter wi)(hg:PG X tg g)(hb:Wo X body tb)
  (hs:∀x,foldedSetIterable iter X.env x=pure x:=by intro _;rfl):PS X (.For tg iter body [] pos) (tFor wi g tb):=by
 intro XB s Z H D I h;refine wpAny_For (Yj (hi XB s Z H _ I h) λv s1 h1=>Yj h1 λitv s2 h2=>?_) hs;obtain⟨it,fp,tn,J,H2,e,I2,T,st2,f2,W,⟨m0,w0⟩,turn⟩:=h2;subst e;have stat:∀{H':Hp},(∀b∈fp,H' b=none)->∀b∈fp,Bg X XB H' b:=λhn b hb=>⟨hn b hb,(f2 b hb).2⟩;refine codeAny_forLoop_any (λn s'=>∃i σ' H',Inv X XB σ' H' s'/\tn i s'.heap/\(∀b∈fp,H' b=none)/\W i n σ' H') ?_ m0 ⟨0,Z,H2,I2,st2,λb hb=>(f2 b hb).1,w0⟩;rintro n s3 ⟨i,σ3,H3,I3,st3,fr3,w3⟩;rcases turn i n σ3 H3 w3 with ⟨stop,qn⟩ | ⟨go,N,hN,step⟩
 .refine wpAny_passesOwn hp (Yj (T.done X rfl rfl rfl hc i XB s3 σ3 H3 X.xe I3 (stat fr3) st3 stop) λr s4 ⟨hr,I4⟩=>?_);subst hr;exact wpAny_execs_nil ⟨σ3,H3,I4,qn⟩
 .refine wpAny_passesOwn hp (Yj (T.item X rfl rfl rfl hc i XB s3 σ3 H3 X.xe I3 (stat fr3) st3 go) λr s4 ⟨u,hr,h4⟩=>?_);subst hr;refine wpAny_passesOwn hp (Yj h4 λ_ s5 ⟨x,H5,I5,r5,y5,st5,fr5⟩=>?_);have I5':=I5.pinned (stat fr5) (T.obj _ _ st5);refine wpAny_passesOwn hp (Yj (hg _ s5 σ3 H5 x u _ I5' r5 (step x H5 y5)) λ_ s6 ⟨σ6,H6,I6,q6⟩=>?_);refine wpAny_passesOwn hp (Yj (hb _ s6 σ6 H6 _ I6 q6) λf s7 q7=>?_)
  have again:∀{σ7:St} {H7:Hp},Inv X (XB++Rn fp s5.heap) σ7 H7 s7->N σ7 H7->∃m,m<n/\∃i σ' H',Inv X XB σ' H' s7/\tn i s7.heap/\(∀b∈fp,H' b=none)/\W i m σ' H':=λ{σ7 H7} I7 n7=>by
   obtain⟨m',hm,w7⟩:=hN σ7 H7 n7;refine⟨m',hm,i+1,σ7,H7,I7.unpinned,T.keep _ _ _ st5 λb hb o e=>(I7.pin (b,o) (og _ (og _ (Gv hb e)))).1,λb hb=>?_,w7⟩;obtain⟨o,e,d⟩:=T.obj _ _ st5 b hb;exact(I7.pin (b,o) (og _ (og _ (Gv hb e)))).2.1
  cases f with
  | next=>obtain⟨σ7,H7,I7,n7⟩:=q7;exact again I7 n7
  | cont=>obtain⟨σ7,H7,I7,n7⟩:=q7;exact again I7 n7
  | brk=>obtain⟨σ7,H7,I7,q7⟩:=q7;exact⟨σ7,H7,I7.unpinned,q7⟩
  | ret v=>obtain⟨x7,σ7,H7,I7,r7,q7⟩:=q7;exact⟨x7,σ7,H7,I7.unpinned,r7,q7⟩
end
abbrev R2:=V->V->Hp->VK->Prop
def Mh(X:Cx)(f:Value->Value->Sem Value)(r:R2):Prop :=
 ∀(XB:ZY) (s:Shared) (Z:St) (H:Hp) (x y:V) (v u:Value) (Q:VK),Inv X XB Z H s->RelV x v->RelV y u->r x y H Q ->
  wpAny (model X.prog X.w) X.A (f v u) (EP X XB Z Q) X.xe s
def UnR(X:Cx)(f:Value->Sem Value)(r:V->Hp->VK->Prop):Prop :=
 ∀(XB:ZY) (s:Shared) (Z:St) (H:Hp) (x:V) (v:Value) (Q:VK),Inv X XB Z H s->RelV x v->r x H Q ->
  wpAny (model X.prog X.w) X.A (f v) (EP X XB Z Q) X.xe s
def Y0(X:Cx)(f:Value)(r:ZQ->Hp->VK->Prop):Prop :=
 ∀(XB:ZY) (s:Shared) (Z:St) (H:Hp) (xs:ZQ) (us:ZM) (Q:VK),Inv X XB Z H s->Zd xs us->r xs H Q ->
  wpAny (model X.prog X.w) X.A (call f us) (EP X XB Z Q) X.xe s
def TruR(X:Cx)(r:V->Hp->(Bool->Hp->Prop)->Prop):Prop :=
 ∀(XB:ZY) (s:Shared) (Z:St) (H:Hp) (x:V) (v:Value) (Q:Bool->Hp->Prop),Inv X XB Z H s->RelV x v->r x H Q ->
  wpAny (model X.prog X.w) X.A (truthy v) (TP X XB Z Q) X.xe s
def tOp(r:R2)(ta tb:TE):TE:=λZ H Q=>ta Z H λx H1=>tb Z H1 λy H2=>r x y H2 Q
def tUn(r:V->Hp->VK->Prop)(ta:TE):TE:=λZ H Q=>ta Z H λx H1=>r x H1 Q
inductive rI_I(C:Int->Int->Prop)(g:Int->Int->V)(x:V)(y:V)(H:Hp)(Q:VK):Prop
 | mk(i j)(Vd:x=.int i)(Vm:y=.int j)(U0:C i j)(Lg:Q (g i j) H):rI_I C g x y H Q
def rI(C:Int->Int->Prop)(g:Int->Int->V):R2:=λx y H Q=>rI_I C g x y H Q
inductive Zwz(g:Int->Int->V)(x:V)(y:V)(H:Hp)(Q:VK):Prop
 | mk(i j)(Vd:x=.int i)(Vm:y=.int j)(U0:Q (g i j) H):Zwz g x y H Q
def rI0(g:Int->Int->V):R2:=λx y H Q=>Zwz g x y H Q
inductive rU_I(g:Int->V)(x:V)(H:Hp)(Q:VK):Prop
 | mk(i)(Vd:x=.int i)(Vm:Q (g i) H):rU_I g x H Q
def rU(g:Int->V):V->Hp->VK->Prop:=λx H Q=>rU_I g x H Q
section
variable{X:Cx}{a b c:Expr}{ta tb tc:TE}{pos:Pos}
theorem binT(ha:PE X a ta)(hb:PE X b tb){XB:ZY}{s:Shared}{Z:St}{H:Hp}{R:V->V->Hp->Prop}(I:Inv X XB Z H s)
  (h:ta Z H λx H1=>tb Z H1 λy H2=>R x y H2) {Q:ZW} {f:Value->Value->Sem Value}
  (hf:∀v u s2 x y H2,Inv X XB Z H2 s2->RelV x v->RelV y u->R x y H2->wpAny (model X.prog X.w) X.A (f v u) Q X.xe s2) :
  wpAny (model X.prog X.w) X.A (eval a X.env) (λv s₁=>wpAny (model X.prog X.w) X.A (eval b X.env) (λu s₂=>wpAny (model X.prog X.w) X.A (f v u) Q X.xe s₂) X.xe s₁) X.xe s:=by
 refine Yj (ha XB s Z H _ I h) λv s1 ⟨x,H1,I1,r1,q1⟩=>?_;refine Yj (hb XB s1 Z H1 _ I1 q1) λu s2 ⟨y,H2,I2,r2,q2⟩=>?_;exact hf v u s2 x y H2 I2 r1 r2 q2
theorem pe_op{op:Operator}{r:R2}(ho:Mh X (binaryOp op) r)(ha:PE X a ta)(hb:PE X b tb):PE X (.BinOp a op b pos) (tOp r ta tb):=by
 intro XB s Z H Q I h;exact wpAny_BinOp (binT ha hb I h λv u s2 x y H2 I2 rx ry q=>ho XB s2 Z H2 x y v u Q I2 rx ry q)
theorem pe_un{op:UnaryOp}{r:V->Hp->VK->Prop}(ho:UnR X (unaryOp op) r)(ha:PE X a ta):PE X (.UnaryOp op a pos) (tUn r ta):=by
 intro XB s Z H Q I h;exact UnaryOp_ (Yj (ha XB s Z H _ I h) λv s1 ⟨x,H1,I1,r1,q1⟩=>ho XB s1 Z H1 x v Q I1 r1 q1)
theorem opI{f:Value->Value->Sem Value}{C:Int->Int->Prop}{g:Int->Int->Int}
  (rule:∀(i j:Int) (t u:Tok) (s:Shared) (Q:ZW) (E:ZW),C i j->Q (.int (g i j) s.toks) { s with toks:=s.toks+1 }->wpAny (model X.prog X.w) X.A (f (.int i t) (.int j u)) Q E s) :
  Mh X f (rI C λi j=>.int (g i j)):=by
 intro XB s Z H x y v u Q I rx ry h;obtain⟨i,j,rfl,rfl,hc,q⟩:=h;obtain⟨t,rfl⟩:=rx;obtain⟨t',rfl⟩:=ry;exact rule i j t t' s _ _ hc ⟨.int (g i j),H,I.tok _,⟨_,rfl⟩,q⟩
theorem opI0{f:Value->Value->Sem Value}{g:Int->Int->Int}
  (rule:∀(i j:Int) (t u:Tok) (s:Shared) (Q:ZW) (E:ZW),Q (.int (g i j) s.toks) { s with toks:=s.toks+1 }->wpAny (model X.prog X.w) X.A (f (.int i t) (.int j u)) Q E s) :
  Mh X f (rI0 λi j=>.int (g i j)):=by
 intro XB s Z H x y v u Q I rx ry h;obtain⟨i,j,rfl,rfl,q⟩:=h;obtain⟨t,rfl⟩:=rx;obtain⟨t',rfl⟩:=ry;exact rule i j t t' s _ _ ⟨.int (g i j),H,I.tok _,⟨_,rfl⟩,q⟩
theorem Zxi{f:Value->Value->Sem Value}{g:Int->Int->Bool}
  (rule:∀(i j:Int) (t u:Tok) (s:Shared) (Q:ZW) (E:ZW),Q (.bool (g i j)) s->wpAny (model X.prog X.w) X.A (f (.int i t) (.int j u)) Q E s) :
  Mh X f (rI0 λi j=>.bl (g i j)):=by
 intro XB s Z H x y v u Q I rx ry h;obtain⟨i,j,rfl,rfl,q⟩:=h;obtain⟨t,rfl⟩:=rx;obtain⟨t',rfl⟩:=ry;exact rule i j t t' s _ _ ⟨.bl (g i j),H,I,rfl,q⟩
def CDiv(i j:Int):Prop:=0<j/\j<1073741824
def CPow(i j:Int):Prop:=0<=j/\j<=1000000/\i.natAbs<2 ^ 64
def CMul(i j:Int):Prop:=(-(2 ^ 64)<i/\i<2 ^ 64)\/(-(2 ^ 64)<j/\j<2 ^ 64)
theorem CMul.ok{i j:Int}(h:CMul i j):IntMulOk i j:=by
 rcases h with ⟨h1,h2⟩ | ⟨h1,h2⟩
 .exact .of_left (intBits_le_64 h1 h2)
 .exact .of_right (intBits_le_64 h1 h2)
theorem op_add:Mh X (binaryOp .Add) (rI0 λi j=>.int (i+j)):=opI0 λ_ _ _ _ _ _ _ q=>add_int q
theorem op_mul:Mh X (binaryOp .Mult) (rI CMul λi j=>.int (i*j)):=opI λ_ _ _ _ _ _ _ hc q=>mul_int q hc.ok
theorem Zxp:Mh X (binaryOp .FloorDiv) (rI CDiv λi j=>.int (i / j)):=opI λi j _ _ _ _ _ hc q=>by
 have h1:(0:Int)<j:=hc.1;have h2:j<1073741824:=hc.2;exact floordiv_int XS (by rw[Int.fdiv_eq_ediv_of_nonneg i XS];exact q) (.inl (PyProof.noPylong_small XS))
theorem op_mod:Mh X (binaryOp .Mod) (rI (λ_ j=>0<j) λi j=>.int (i % j)):=opI λi j _ _ _ _ _ hc q=>by
 have h1:(0:Int)<j:=hc;exact mod_int' XS (by rw[Int.fmod_eq_emod_of_nonneg i XS];exact q)
theorem op_pow:Mh X (binaryOp .Pow) (rI CPow λi j=>.int (i ^ j.toNat)):=opI λ_ _ _ _ _ _ _ hc q=>pow_int_small hc.1 hc.2.1 hc.2.2 q
theorem unI{f:Value->Sem Value}{g:Int->Int}
  (rule:∀(i:Int) (t:Tok) (s:Shared) (Q:ZW) (E:ZW),Q (.int (g i) s.toks) { s with toks:=s.toks+1 }->wpAny (model X.prog X.w) X.A (f (.int i t)) Q E s) :
  UnR X f (rU λi=>.int (g i)):=by
 intro XB s Z H x v Q I rx h;obtain⟨i,rfl,q⟩:=h;obtain⟨t,rfl⟩:=rx;exact rule i t s _ _ ⟨.int (g i),H,I.tok _,⟨_,rfl⟩,q⟩
theorem un_neg:UnR X (unaryOp .USub) (rU λi=>.int (-i)):=unI λ_ _ _ _ _ q=>neg_int q
end
noncomputable def scal:V->V->Bool
 | .non,.non=>true | .non,.int _=>true | .int _,.non=>true | .non,.bl _=>true | .bl _,.non=>true | .non,.str _=>true | .str _,.non=>true
 | .int _,.int _=>true | .bl _,.bl _=>true | .str _,.str _=>true | .byt _,.byt _=>true
 | .int _,.str _=>true | .str _,.int _=>true | .bl _,.str _=>true | .str _,.bl _=>true
 | _,_=>false
section
variable{X:Cx}{a b c:Expr}{ta tb tc:TE}{pos:Pos}
theorem Pj{XB:ZY}{Z:St}{H:Hp}{s:Shared}{Q:VK}{k k':Bool}(I:Inv X XB Z H s)(q:Q (.bl k) H)(e:k=k'):EP X XB Z Q (.bool k') s:=by
 subst e;exact⟨.bl k,H,I,rfl,q⟩
theorem op_lt:Mh X (compareOp .Lt) (rI0 λi j=>.bl (decide (i<j))):=Zxi λ_ _ _ _ _ _ _ q=>lt_int q
theorem op_le:Mh X (compareOp .LtE) (rI0 λi j=>.bl (decide (i<=j))):=Zxi λ_ _ _ _ _ _ _ q=>le_int q
theorem op_gt:Mh X (compareOp .Gt) (rI0 λi j=>.bl (decide (j<i))):=Zxi λ_ _ _ _ _ _ _ q=>gt_int q
theorem op_ge:Mh X (compareOp .GtE) (rI0 λi j=>.bl (decide (j<=i))):=Zxi λ_ _ _ _ _ _ _ q=>ge_int q
inductive Ts(x:V)(y:V)(H:Hp)(Q:VK):Prop
 | mk(i j)(Vd:x=.str i)(Vm:y=.str j)(U0:Q (.bl (!(Builtin.Str.occurrences j i 0 j.length 1).isEmpty)) H):Ts x y H Q
theorem j5:Mh X (compareOp .In) (λx y H Q=>Ts x y H Q):=by
 intro XB s Z H x y v u Q I rx ry h;obtain⟨i,j,rfl,rfl,q⟩:=h;obtain⟨t,rfl⟩:=rx;obtain⟨t',rfl⟩:=ry;exact in_str (Pj I q rfl)
theorem n5:Mh X (compareOp .Is) (λx y H Q=>y=.non/\Q (.bl (decide (x=.non))) H):=by
 intro XB s Z H x y v u Q I rx ry h;obtain⟨rfl,q⟩:=h;cases ry;refine is_none_gen (Pj I q ?_)
 cases x<;>first
  | (cases rx;rfl)
  | (obtain⟨t,rfl⟩:=rx;rfl)
theorem zv:Mh X (compareOp .IsNot) (λx y H Q=>y=.non/\Q (.bl (!decide (x=.non))) H):=by
 intro XB s Z H x y v u Q I rx ry h;obtain⟨rfl,q⟩:=h;cases ry;refine isnot_none_gen (Pj I q ?_)
 cases x<;>first
  | (cases rx;rfl)
  | (obtain⟨t,rfl⟩:=rx;rfl)
inductive Dz(x:V)(y:V)(H:Hp)(Q:VK):Prop
 | mk(i j)(Vd:x=.str i)(Vm:y=.str j)(U0:Q (.bl (!(!(Builtin.Str.occurrences j i 0 j.length 1).isEmpty))) H):Dz x y H Q
theorem Qo:Mh X (compareOp .NotIn) (λx y H Q=>Dz x y H Q):=by
 intro XB s Z H x y v u Q I rx ry h;obtain⟨i,j,rfl,rfl,q⟩:=h;obtain⟨t,rfl⟩:=rx;obtain⟨t',rfl⟩:=ry;exact notIn_str (Pj I q rfl)
theorem Zxk{op:CmpOp}{r:R2}(ho:Mh X (compareOp op) r)(ha:PE X a ta)(hb:PE X b tb)(hm:behindInMarks op b=false):PE X (.Compare a [op] [b] pos) (tOp r ta tb):=by
 intro XB s Z H Q I h;exact wpAny_Compare1 (binT ha hb I h λv u s2 x y H2 I2 rx ry q=>ho XB s2 Z H2 x y v u Q I2 rx ry q) hm
inductive Qy(Q:(Bool->Hp->Prop))(x:V)(H':Hp):Prop
 | mk(k)(Vd:x=.bl k)(Vm:Q k H'):Qy Q x H'
def Zj0(t:TE):TT:=λZ H Q=>t Z H λx H'=>Qy Q x H'
theorem Zz2{op:CmpOp}{r:R2}(ho:Mh X (compareOp op) r)(ha:PE X a ta)(hb:PE X b tb)(hm:behindInMarks op b=false):PT X (.Compare a [op] [b] pos) (Zj0 (tOp r ta tb)):=by
 intro XB s Z H Q I h
 refine wpAny_isTrue_Compare1 (Yj (ha XB s Z H _ I h) λv s1 ⟨x,H1,I1,r1,q1⟩=>Yj (hb XB s1 Z H1 _ I1 q1) λu s2 ⟨y,H2,I2,r2,q2⟩ =>
  Yj (ho XB s2 Z H2 x y v u _ I2 r1 r2 q2) λc s3 ⟨z,H3,I3,r3,k,e,q3⟩=>?_) hm
 subst e;cases r3;exact wpAny_truthy_bool ⟨H3,I3,q3⟩
inductive Oa(r':R2)(tc:TE)(Z:St)(Q:VK)(y:V)(z:V)(H3:Hp):Prop
 | mk(k)(Vd:z=.bl k)(Vm:(if k=true then tc Z H3 λw' H4=>r' y w' H4 Q else Q (.bl false) H3)):Oa r' tc Z Q y z H3
def Hb(r r':R2)(ta tb tc:TE):TE:=λZ H Q=>ta Z H λx H1=>tb Z H1 λy H2=>r x y H2 λz H3=>Oa r' tc Z Q y z H3
theorem cy{op Ke:CmpOp}{r r':R2}(ho:Mh X (compareOp op) r)(B1:Mh X (compareOp Ke) r')(ha:PE X a ta)(hb:PE X b tb)(hc:PE X c tc)
  (hm:lastMarks [op,Ke] [b,c]=false:=by with_unfolding_all rfl):PE X (.Compare a [op,Ke] [b,c] pos) (Hb r r' ta tb tc):=by
 intro XB s Z H Q I h
 refine Compare_chain (Yj (ha XB s Z H _ I h) λv s1 ⟨x,H1,I1,r1,q1⟩=>chain_link (Yj (hb XB s1 Z H1 _ I1 q1) λu s2 ⟨y,H2,I2,r2,q2⟩ =>
  Yj (ho XB s2 Z H2 x y v u _ I2 r1 r2 q2) λd s3 ⟨z,H3,I3,r3,k,e,q3⟩=>?_)) hm
 subst e;cases r3;refine wpAny_truthy_bool ?_;cases k with
 | false=>exact ite_ff ⟨.bl false,H3,I3,rfl,q3⟩
 | true=>exact ite_tt (chain_last (Yj (hc XB s3 Z H3 _ I3 q3) λw' s4 ⟨z',H4,I4,r4,q4⟩=>B1 XB s4 Z H4 y z' u w' Q I4 r2 r4 q4))
theorem dn{op Ke:CmpOp}{r r':R2}(ho:Mh X (compareOp op) r)(B1:Mh X (compareOp Ke) r')(ha:PE X a ta)(hb:PE X b tb)(hc:PE X c tc)
  (hm:lastMarks [op,Ke] [b,c]=false:=by with_unfolding_all rfl):PT X (.Compare a [op,Ke] [b,c] pos) (Zj0 (Hb r r' ta tb tc)):=by
 intro XB s Z H Q I h
 refine isTrue_chain (Yj (ha XB s Z H _ I h) λv s1 ⟨x,H1,I1,r1,q1⟩=>test_link (Yj (hb XB s1 Z H1 _ I1 q1) λu s2 ⟨y,H2,I2,r2,q2⟩ =>
  Yj (ho XB s2 Z H2 x y v u _ I2 r1 r2 q2) λd s3 ⟨z,H3,I3,r3,k,e,q3⟩=>?_)) hm
 subst e;cases r3;refine wpAny_truthy_bool ?_;cases k with
 | false =>
  obtain⟨k',e',q'⟩:=q3;cases e';exact ite_ff ⟨H3,I3,q'⟩
 | true =>
  refine ite_tt (test_last (Yj (hc XB s3 Z H3 _ I3 q3) λw' s4 ⟨z',H4,I4,r4,q4⟩=>Yj (B1 XB s4 Z H4 y z' u w' _ I4 r2 r4 q4) λd' s5 ⟨z2,H5,I5,r5,k2,e2,q5⟩=>?_));subst e2;cases r5;exact wpAny_truthy_bool ⟨H5,I5,q5⟩
def TruV(K:W.Frag)(x:V)(H:Hp)(k:Bool):Prop :=
 match x with
 | .non=>k=false
 | .bl b=>k=b
 | .int i=>k=(i != 0)
 | .str y=>y.length<=sizeLine/\k=((y.length:Int) != 0)
 | .byt y=>y.size<=sizeLine/\k=((y.size:Int) != 0)
 | .ref p=>(∃xs,Uq K H p xs/\k=!xs.isEmpty)\/(∃xs,Vn K H p xs/\k=!xs.isEmpty)\/∃XM,H p=some (.dK XM)/\k=!XM.isEmpty
 | _=>False
theorem Aa{Z:Type}{XM:List (Z×V)}{vs:List (Z×Value)}(r:KV XM vs):(!vs.isEmpty)=!XM.isEmpty:=by
 cases r<;>rfl
theorem R5{xs:ZQ}{XD:ZM}(r:Zd xs XD):(!XD.toArray.isEmpty)=!xs.isEmpty:=by
 cases r<;>simp
theorem M0:(sizeLine:Nat)<2 ^ 63:=by rw[sizeLine_eq];decide
theorem tru_ok:TruR X (λx H Q=>∃k,TruV X.K x H k/\Q k H):=by
 intro XB s Z H x v Q I rx h;obtain⟨k,e,q⟩:=h;have hl:=M0;have hs:sizeLine=16777216:=sizeLine_eq;cases x with
 | non =>
  cases rx;have e':k=false:=e;subst e';exact truthy_none ⟨H,I,q⟩
 | bl b =>
  cases rx;have e':k=b:=e;subst e';exact wpAny_truthy_bool ⟨H,I,q⟩
 | int i =>
  obtain⟨t,rfl⟩:=rx;have e':k=(i != 0):=e;subst e';exact PySem.P.truthy_int ⟨H,I,q⟩
 | str y =>
  obtain⟨t,rfl⟩:=rx;obtain⟨hy,e'⟩:y.length<=sizeLine/\k=((y.length:Int) != 0):=e;subst e';exact PySem.P.truthy_str XS ⟨H,I.tok _,q⟩
 | byt y =>
  obtain⟨t,rfl⟩:=rx;obtain⟨hy,e'⟩:y.size<=sizeLine/\k=((y.size:Int) != 0):=e;subst e';exact W.truthy_bytes XS ⟨H,I.tok _,q⟩
 | ref p =>
  cases rx;have e':(∃xs,Uq X.K H p xs/\k=!xs.isEmpty)\/(∃xs,Vn X.K H p xs/\k=!xs.isEmpty)\/∃XM,H p=some (.dK XM)/\k=!XM.isEmpty:=e;rcases e' with ⟨xs,hx,e'⟩ | ⟨xs,hx,e'⟩ | ⟨XM,hx,e'⟩
  .subst e';obtain⟨XD,r,pl,hz⟩:=I.list hx;have hlen:=r.length;exact wpAny_truthy_list pl.isList (by simp only[Ul];omega) ⟨H,I.tok _,by rw[R5 r];exact q⟩
  .subst e';obtain⟨XD,r,pl,hz⟩:=I.tuple hx;have hlen:=r.length;exact truthy_tuple pl (by simp only[Ul];omega) ⟨H,I.tok _,by rw[R5 r];exact q⟩
  .subst e';obtain⟨hz,hS,vs,r,m⟩:XM.length<=sizeLine/\(p==sysModules)=false/\∃vs,KV XM vs/\s.heap.DictOf (Zh X.prog X.w) p vs:=I.hok p _ hx;have hlen:XM.length=vs.length:=Paired.length r;exact wpAny_truthy_dict hS m XS ⟨H,I.tok _,by rw[Aa r];exact q⟩
 | _=>exact(show False from e).elim
theorem dc(ha:PE X a ta)(he:∀whole,isTrue a X.env whole=(do let v <-whole;standAt a.pos;holding [v] (truthy v))) :
  PT X a (λZ H Q=>ta Z H λx H'=>∃k,TruV X.K x H' k/\Q k H'):=by
 intro XB s Z H Q I h;exact isTrue_plain (Yj (ha XB s Z H _ I h) λv s1 ⟨x,H1,I1,r1,q1⟩=>tru_ok XB s1 Z H1 x v Q I1 r1 q1) (he _)
inductive Nn(x:V)(y:V)(H:Hp)(Q:VK):Prop
 | mk(i j)(Vd:x=.str i)(Vm:y=.str j)(U0:i.length+j.length<=sizeLine)(Lg:Q (.str (i++j)) H):Nn x y H Q
theorem Af:Mh X (binaryOp .Add) (λx y H Q=>Nn x y H Q):=by
 intro XB s Z H x y v u Q I rx ry h;obtain⟨i,j,rfl,rfl,hz,q⟩:=h;obtain⟨t,rfl⟩:=rx;obtain⟨t',rfl⟩:=ry;exact add_str (λt' tk=>⟨.str (i++j),H,I.tok _,⟨_,rfl⟩,q⟩) hz
theorem vals1{x:V}{us:ZM}(r:Zd [x] us):∃u,us=[u]/\RelV x u:=by
 cases r with
 | cons r1 r2=>cases r2;exact⟨_,rfl,r1⟩
theorem vals2{x y:V}{us:ZM}(r:Zd [x,y] us):∃u w',us=[u,w']/\RelV x u/\RelV y w':=by
 cases r with
 | cons r1 r2 =>
  cases r2 with
  | cons r3 r4=>cases r4;exact⟨_,_,rfl,r1,r3⟩
inductive Wb(xs:ZQ)(H:Hp)(Q:VK):Prop
 | mk(i)(Vd:xs=[.int i])(Vm:Q (.int (if i<0 then -i else i)) H):Wb xs H Q
theorem um:Y0 X (.builtin "abs") (λxs H Q=>Wb xs H Q):=by
 intro XB s Z H xs us Q I r h;obtain⟨i,rfl,q⟩:=h;obtain⟨u,rfl,t,rfl⟩:=vals1 r;exact call_abs_int λu tk=>⟨.int (if i<0 then -i else i),H,I.tok _,⟨_,rfl⟩,q⟩
inductive T5(xs:ZQ)(H:Hp)(Q:VK):Prop
 | mk(i j)(Vd:xs=[.int i,.int j])(Vm:Q (.int (if j>i then j else i)) H):T5 xs H Q
theorem vt(hc:X.calm=true):Y0 X (.builtin "max") (λxs H Q=>T5 xs H Q):=by
 intro XB s Z H xs us Q I r h;obtain⟨i,j,rfl,q⟩:=h;obtain⟨u,w',rfl,⟨t,rfl⟩,⟨t',rfl⟩⟩:=vals2 r;refine max_two_ints (I.ok.hd hc) λh' tk k=>⟨_,H,I.kept k,?_,q⟩;by_cases hj:j>i
 .rw[if_pos hj,if_pos hj];exact⟨_,rfl⟩
 .rw[if_neg hj,if_neg hj];exact⟨_,rfl⟩
inductive T4(xs:ZQ)(H:Hp)(Q:VK):Prop
 | mk(i j)(Vd:xs=[.int i,.int j])(Vm:Q (.int (if j<i then j else i)) H):T4 xs H Q
theorem vm(hc:X.calm=true):Y0 X (.builtin "min") (λxs H Q=>T4 xs H Q):=by
 intro XB s Z H xs us Q I r h;obtain⟨i,j,rfl,q⟩:=h;obtain⟨u,w',rfl,⟨t,rfl⟩,⟨t',rfl⟩⟩:=vals2 r;refine min_two_ints (I.ok.hd hc) λh' tk k=>⟨_,H,I.kept k,?_,q⟩;by_cases hj:j<i
 .rw[if_pos hj,if_pos hj];exact⟨_,rfl⟩
 .rw[if_neg hj,if_neg hj];exact⟨_,rfl⟩
theorem Fc:Y0 X (.type "int") (λxs H Q=>(∃i,xs=[.int i]/\Q (.int i) H)\/∃k,xs=[.bl k]/\Q (.int (if k then 1 else 0)) H):=by
 intro XB s Z H xs us Q I r h;rcases h with ⟨i,rfl,q⟩ | ⟨k,rfl,q⟩
 .obtain⟨u,rfl,t,rfl⟩:=vals1 r;exact call_int_int ⟨.int i,H,I,⟨_,rfl⟩,q⟩
 .obtain⟨u,rfl,r1⟩:=vals1 r;cases r1;exact call_int_bool ⟨.int (if k then 1 else 0),H,I.tok _,⟨_,rfl⟩,q⟩
inductive Dm(xs:ZQ)(H:Hp)(Q:VK):Prop
 | mk(i)(Vd:xs=[.int i])(Vm:i.natAbs.log2<1920)(U0:Q (.str (toString i)) H):Dm xs H Q
theorem P1:Y0 X (.type "str") (λxs H Q=>Dm xs H Q):=by
 intro XB s Z H xs us Q I r h;obtain⟨i,rfl,hz,q⟩:=h;obtain⟨u,rfl,t,rfl⟩:=vals1 r;exact PySem.P.str_of_int hz ⟨.str _,H,I.tok _,⟨_,rfl⟩,q⟩
def LenV(K:W.Frag)(x:V)(H:Hp)(n:Nat):Prop :=
 match x with
 | .str y=>y.length<=sizeLine/\n=y.length
 | .byt y=>y.size<=sizeLine/\n=y.size
 | .ref p=>(∃xs,Uq K H p xs/\n=xs.length)\/∃xs,Vn K H p xs/\n=xs.length
 | _=>False
inductive Wf(K:W.Frag)(xs:ZQ)(H:Hp)(Q:VK):Prop
 | mk(x n)(Vd:xs=[x])(Vm:LenV K x H n)(U0:Q (.int n) H):Wf K xs H Q
theorem ub:Y0 X (.builtin "len") (λxs H Q=>Wf X.K xs H Q):=by
 intro XB s Z H xs us Q I r h;obtain⟨x,n,rfl,e,q⟩:=h;obtain⟨u,rfl,rx⟩:=vals1 r;have hl:=M0;have hs:sizeLine=16777216:=sizeLine_eq;cases x with
 | str y =>
  obtain⟨t,rfl⟩:=rx;obtain⟨hy,e'⟩:y.length<=sizeLine/\n=y.length:=e;subst e';exact len_str XS ⟨.int _,H,I.tok _,⟨_,rfl⟩,q⟩
 | byt y =>
  obtain⟨t,rfl⟩:=rx;obtain⟨hy,e'⟩:y.size<=sizeLine/\n=y.size:=e;subst e';exact W.len_bytes XS ⟨.int _,H,I.tok _,⟨_,rfl⟩,q⟩
 | ref p =>
  cases rx;have e':(∃xs,Uq X.K H p xs/\n=xs.length)\/∃xs,Vn X.K H p xs/\n=xs.length:=e;rcases e' with ⟨xs,hx,e'⟩ | ⟨xs,hx,e'⟩
  .subst e';obtain⟨XD,r',pl,hz⟩:=I.list hx;have hlen:=r'.length;exact Calls.call_len_list pl.isList (by simp only[Ul];omega) ⟨.int xs.length,H,I.tok _,⟨_,by simp only[Ul];rw[hlen]⟩,q⟩
  .subst e';obtain⟨XD,r',pl,hz⟩:=I.tuple hx;have hlen:=r'.length;exact len_tuple pl (by simp only[Ul];omega) ⟨.int xs.length,H,I.tok _,⟨_,by simp only[Ul];rw[hlen]⟩,q⟩
 | _=>exact(show False from e).elim
end
structure ObjM(h:Heap)(x dx C:Addr)(mA:ZV):Prop where
 obj:h.get? x=some (W.instObj C dx)
 ns:h.Ns1 dx mA
 ne:dx≠x
theorem wq{h:Heap}{dx:Addr}{mA:ZV}(n:h.Ns1 dx mA):∃od,h.get? dx=some od/\∀name,W.lookIn name od=some (mA name):=by
 obtain⟨o,es,ep,ho,hd,hk,_,hm⟩:=n;refine⟨o,ho,λname=>?_⟩;have e:=hm name;unfold nsFind findBy at e;rw[<-Array.find?_toList]at e;unfold W.lookIn;rw[hd];dsimp only
 split
 .rename_i y q
  rw[q]at e;exact congrArg some e
 .rename_i q
  rw[q]at e
  have a:es.toList.any (·.refKey)=false:=by
   rw[List.any_eq_false];intro y hy;obtain⟨z,t,hkey⟩:=hk y (Array.mem_toList_iff.mp hy);simp[DictEntry.refKey,hkey]
  have a':¬ es.toList.any (·.refKey)=true:=by rw[a];exact Nj
  rw[if_neg a'];exact congrArg some e
theorem ObjM.look{h:Heap}{x dx C:Addr}{mA:ZV}(I:ObjM h x dx C mA):∃od,W.InstAt h x (W.instObj C dx) C (some od)/\∀name,W.lookIn name od=some (mA name) :=
 let ⟨od,ho,hl⟩:=wq I.ns
 ⟨od,⟨I.obj,rfl,rfl,ho⟩,hl⟩
section
variable{prog:Program}{w:World}{A:Around}{E:ZW}{s:Shared}{K:W.Frag}{x dx C f:Addr}{mA:ZV}{name:Str}{v:Value}
end
theorem Tv.some_of{v:V}{o:ZT}(r:Tv (some v) o):∃u,o=some u/\RelV v u:=by
 cases o with
 | none=>exact(show False from r).elim
 | some u=>exact⟨u,rfl,r⟩
section
variable{P:Program}{w:World}{H H':Hp}{h h':Heap}{a C dx:Addr}{fs fs':List (Str×V)}
theorem Zqs(hok:Nx P w H h)(e:H a=some (.ins C dx fs)):∃mA,ObjM h a dx C mA/\(∀f,Tv (fs.lookup f) (mA f))/\PySem.Within mA (fs.map (·.1))/\fs.length<=1000/\H dx=some (.own a):=by
 obtain⟨d,z,ne,ob,mA,n,r,q⟩:=(show Z4 P w H h a (.ins C dx fs) from hok a _ e);exact⟨mA,⟨ob,n,ne⟩,r,q,z,d⟩
end
structure Cls(K:W.Frag)(C:Addr):Prop where
 pg:W.plainGet K C Str.empty=true
 hd:W.hasDictIn K C=true
 po:W.plainOver K C=true
 sa:W.findIn K (.ref C) "__setattr__"=some (some (.builtin "object.__setattr__"))
theorem Cls.get{K:W.Frag}{C:Addr}(c:Cls K C)(f:Str):W.plainGet K C f=true:=c.pg
section
variable{X:Cx}{XB:ZY}{Z:St}{H:Hp}{s:Shared}{a C dx:Addr}{fs:List (Str×V)}{f:Str}{v:V}{A:Around}{E:ZW}
end
section
variable{X:Cx}{o e value:Expr}{f:Str}{pos pos' tpos:Pos}{ta tv:TE}
end
section
variable{X:Cx}{XB:ZY}{Z:St}{H:Hp}{s:Shared}{A:Around}{E:ZW}{Q:ZW}{c:Value}{b:Bool}
inductive Co(K:W.Frag)(H:Hp):V->Value->Prop where
 | non:Co K H .non (.type "NoneType")
 | bl (x:Bool):Co K H (.bl x) (.type "bool")
 | int (i:Int):Co K H (.int i) (.type "int")
 | str (x:Str):Co K H (.str x) (.type "str")
 | flt (x:UInt64):Co K H (.flt x) (.type "float")
 | lst {a:Addr} {xs:ZQ} (e:H a=some (.lst xs)):Co K H (.ref a) (.type "list")
 | frz {a:Addr} {o:Obj} {xs:ZQ} (e:H a=some (.frz o (.lst xs))):Co K H (.ref a) (.type "list")
 | tup {a:Addr} {xs:ZQ} (e:H a=some (.tup xs)):Co K H (.ref a) (.type "tuple")
 | dK {a:Addr} {XM:List (Key×V)} (e:H a=some (.dK XM)):Co K H (.ref a) (.type "dict")
 | dT {a:Addr} {XM:List (List Key×V)} (e:H a=some (.dT XM)):Co K H (.ref a) (.type "dict")
 | ins {a C dx:Addr} {fs:List (Str×V)} (e:H a=some (.ins C dx fs)) (cl:Cls K C) (ha:W.findIn K (.ref C) "__class__"=some (some (.builtin "object.__class__")))
   (hn:W.specialIn K (.builtin "object.__class__") "__get__"=some (some (.builtin "getset_descriptor.__get__"))) (htk:W.takesIn K (.builtin "object.__class__")=some true)
   (hm:W.mroIn K C (.type "object")=some true):Co K H (.ref a) (.ref C)
theorem Ut{x:V}{u t:Value}(I:Inv X XB Z H s)(rx:RelV x u)(ty:Co X.K H x t)(e:W.kitOne X.K t c=some b)(h:∀tk,Q (.bool b) { s with toks:=tk }) :
  wpAny (model X.prog X.w) A (call (.builtin "isinstance") [u,c]) Q E s:=by
 cases ty with
 | non=>cases(show u=Value.none from rx);exact W.kia_one W.kitx_none I.kIn True.intro e (λz=>nomatch z) h
 | bl y=>cases(show u=Value.bool y from rx);exact W.kia_one W.kitx_bool I.kIn True.intro e (λz=>nomatch z) h
 | int i=>obtain⟨t,q⟩:=(show ∃t,u=Value.int i t from rx);cases q;exact W.kia_one W.kitx_int I.kIn True.intro e (λz=>nomatch z) h
 | str y=>obtain⟨t,q⟩:=(show ∃t,u=Value.str y t from rx);cases q;exact W.kia_one W.kitx_str I.kIn True.intro e (λz=>nomatch z) h
 | flt y=>obtain⟨t,q⟩:=(show ∃t,u=Value.float y t from rx);cases q;exact W.kia_one W.kitx_float I.kIn True.intro e (λz=>nomatch z) h
 | @lst a xs ea =>
  cases(show u=Value.ref a from rx);obtain⟨_,_,n,_,h1⟩:=(show Z4 X.prog X.w H s.heap a (.lst xs) from I.hok a _ ea);exact W.kia_one W.kitx_list I.kIn ⟨_,h1,rfl⟩ e (λz=>nomatch z) h
 | @frz a ob xs ea =>
  cases(show u=Value.ref a from rx);obtain⟨_,_,_,n,_,h1⟩:=(show Z4 X.prog X.w H s.heap a (.frz ob (.lst xs)) from I.hok a _ ea);exact W.kia_one W.kitx_list I.kIn ⟨_,h1,rfl⟩ e (λz=>nomatch z) h
 | @tup a xs ea =>
  cases(show u=Value.ref a from rx);obtain⟨_,_,_,p⟩:=(show Z4 X.prog X.w H s.heap a (.tup xs) from I.hok a _ ea);obtain⟨o,h1,h2,_⟩:=p;exact W.kia_one W.kitx_tuple I.kIn ⟨o,h1,h2⟩ e (λz=>nomatch z) h
 | @dK a XM ea =>
  cases(show u=Value.ref a from rx);obtain⟨_,_,vs,_,p⟩:=(show Z4 X.prog X.w H s.heap a (.dK XM) from I.hok a _ ea);obtain⟨o,es,ep,h1,h2,_⟩:=p;exact W.kia_one W.kitx_dict I.kIn ⟨o,h1,h2.1⟩ e (λz=>nomatch z) h
 | @dT a XM ea =>
  cases(show u=Value.ref a from rx);obtain⟨_,_,xs,_,o,es,ep,h1,h2,_⟩:=(show Z4 X.prog X.w H s.heap a (.dT XM) from I.hok a _ ea);exact W.kia_one W.kitx_dict I.kIn ⟨o,h1,h2.1⟩ e (λz=>nomatch z) h
 | @ins a C dx fs ea cl ha hn htk hm =>
  cases(show u=Value.ref a from rx);obtain⟨mA,O,_⟩:=Zqs I.hok ea;obtain⟨od,J,_⟩:=O.look;exact W.kia_one (W.kitx_own (cl.get _) cl.hd ha hn htk hm) I.kIn J e (λz=>nomatch z) h
end
structure Ue(k:Nat)(A:Around):Prop where
 hd:A.handled=none
 dp:A.depth+3*k+5<recursionLimit
 un:A.units+16*k+200<cLine
 gd:A.guards=some []
theorem Ue.deeper{k:Nat}{A:Around}(r:Ue (k+1) A)(env:Env):Ue k (A.deeper env) :=
 ⟨r.hd,by have:=r.dp;show A.depth+1+3*k+5<_;omega,by have:=r.un;show A.units+3+16*k+200<_;omega,r.gd⟩
theorem Ue.in1{k:Nat}{A:Around}(r:Ue (k+1) A):Ue k A.in1 :=
 ⟨r.hd,by have:=r.dp;show A.depth+3*k+5<_;omega,by have:=r.un;show A.units+1+16*k+200<_;omega,r.gd⟩
theorem Ue.depth{k:Nat}{A:Around}(r:Ue k A):A.depth<recursionLimit:=by have:=r.dp;omega
theorem Ue.units{k:Nat}{A:Around}(r:Ue k A):A.units+64<cLine:=by have:=r.un;omega
def tNil:TA:=λ_ H Q=>Q [] H
def tCons(ta:TE)(tr:TA):TA:=λZ H Q=>ta Z H λx H1=>tr Z H1 λxs H2=>Q (x::xs) H2
section
variable{X:Cx}{e:Expr}{es:ZC}{te:TE}{t:TA}{pos:Pos}
theorem Bp:PA X [] tNil:=λ_ _ _ _ H Q I h=>Calls.spliced_nil ⟨[],H,I,.nil,h⟩
theorem Gw(ha:PE X e te)(hr:PA X es t)(hs:starEach (e::es) X.env=(false,eval e X.env)::starEach es X.env:=by rfl):PA X (e::es) (tCons te t):=by
 intro pos XB s Z H Q I h;rw[hs];show wpAny _ _ (spliced ((false,eval e X.env)::backTo pos (starEach es X.env))) _ _ s;refine Calls.spliced_cons (Yj (ha XB s Z H _ I h) λu s1 ⟨x,H1,I1,r1,q1⟩=>?_);exact Yj (hr pos XB s1 Z H1 _ I1 q1) λus s2 ⟨xs,H2,I2,r2,q2⟩=>⟨x::xs,H2,I2,.cons r1 r2,q2⟩
inductive g0(Q:VK)(xs:ZQ)(H1:Hp):Prop
 | mk  (Vd:xs.length<=sizeLine)(Vm:∀p,H1 p=none->Q (.ref p) (upd H1 p (.tup xs))):g0 Q xs H1
def tTup(t:TA):TE:=λZ H Q=>t Z H λxs H1=>g0 Q xs H1
inductive fq(Q:VK)(xs:ZQ)(H1:Hp):Prop
 | mk  (Vd:xs.length<=sizeLine)(Vm:∀p,H1 p=none->Q (.ref p) (upd H1 p (.lst xs))):fq Q xs H1
def tLst(t:TA):TE:=λZ H Q=>t Z H λxs H1=>fq Q xs H1
theorem Qp{x1}(h:PA X es t):PE X (.Tuple es x1 pos) (tTup t):=by
 intro XB s Z H Q I hq;refine wpAny_Tuple_spliced (Yj (h pos XB s Z H _ I hq) λus s1 ⟨xs,H1,I1,r,z,q⟩=>⟨by rw[<-r.length];exact z,?_⟩);have hf:H1 s1.heap.objs.size=none:=I1.hok.fresh (Vy _);refine⟨.ref s1.heap.objs.size,upd H1 s1.heap.objs.size (.tup xs),I1.laid (t':=s1.toks) (λb u e=>Vp _ e) (Vy _) ?_,rfl,q _ hf⟩;exact⟨z,us,r,⟨_,Mp _ rfl,rfl,⟨_,rfl⟩,rfl⟩⟩
theorem pe_lst(h:PA X es t):PE X (.List es pos) (tLst t):=by
 intro XB s Z H Q I hq;refine wpAny_List_spliced (Yj (h pos XB s Z H _ I hq) λus s1 ⟨xs,H1,I1,r,z,q⟩=>⟨by rw[<-r.length];exact z,?_⟩);have hf:H1 s1.heap.objs.size=none:=I1.hok.fresh (Vy _);refine⟨.ref s1.heap.objs.size,upd H1 s1.heap.objs.size (.lst xs),I1.laid (t':=s1.toks) (λb u e=>Vp _ e) (Vy _) ?_,rfl,q _ hf⟩;exact⟨z,us,0,r,Mp _ rfl⟩
end
abbrev Sp:=ZQ->Hp->VK->XK->Prop
abbrev qv:=List Env->Hp->Shared->XK->Value->Shared->Prop
structure Ie(P:Program)(w:World)(K:W.Frag)(mg:ZV)(base:Heap)(A:Around)(outer:List Env)(s:Shared)(H:Hp):Prop where
 frames:A.frames=some outer
 mod:Mod K mg base
 bs:∀b o,base.get? b=some o->s.heap.get? b=some o/\H b=none
 bsz:base.objs.size<=s.heap.objs.size
 funs:s.heap.FunFrames base outer
 frf:∀b∈frs outer,H b=none
 hok:Nx P w H s.heap
 bare:AllBare s.gens
def CE(outer:List Env)(P:Program)(w:World)(H:Hp)(s:Shared)(Q:VK)(u:Value)(s':Shared):Prop :=
 ∃v H',s'.os=s.os/\AllBare s'.gens/\Un (frs outer) [] H H' s.heap s'.heap/\Nx P w H' s'.heap/\RelV v u/\Q v H'
def CR(CX:qv)(outer:List Env)(P:Program)(w:World)(H:Hp)(s:Shared)(Q:VK)(E:XK)(r:Result)(s':Shared):Prop :=
 match r with
 | .ok (.ret u)=>CE outer P w H s Q u s'
 | .ok _=>False
 | .error e=>CX outer H s E e s'
structure J4(P:Program)(w:World)(K:W.Frag)(mg:ZV)(base:Heap)(CX:qv)(k:Nat)(f:Addr)(fd:FuncData)(ps:ZD)(sp:Sp):Prop where
 len:∀vs H Q E,sp vs H Q E->vs.length=ps.length
 run:∀(A:Around) (outer:List Env) (s:Shared) (H:Hp) (args:Args) (us:ZM) (vs:ZQ) (Q:VK) (E:XK),Ue k A->Ie P w K mg base A outer s H->BindsTo s fd args (ps.zip us)->Zd vs us->sp vs H Q E ->
  codeAny (model P w) A (.call (.ref f) args) (CR CX outer P w H s Q E) s
theorem J4.imp{P:Program}{w:World}{K:W.Frag}{mg:ZV}{base:Heap}{CX:qv}{k:Nat}{f:Addr}{fd:FuncData}{ps:ZD}{sp sp':Sp}(F:J4 P w K mg base CX k f fd ps sp)
  (h:∀vs H Q E,sp' vs H Q E->sp vs H Q E):J4 P w K mg base CX k f fd ps sp' :=
 ⟨λvs H Q E q=>F.len vs H Q E (h _ _ _ _ q),λA outer s H args us vs Q E hr he hb hv hs=>F.run A outer s H args us vs Q E hr he hb hv (h _ _ _ _ hs)⟩
theorem Ie.in1{P:Program}{w:World}{K:W.Frag}{mg:ZV}{base:Heap}{A:Around}{outer:List Env}{s:Shared}{H:Hp}(e:Ie P w K mg base A outer s H) :
  Ie P w K mg base A.in1 outer s H:=⟨e.frames,e.mod,e.bs,e.bsz,e.funs,e.frf,e.hok,e.bare⟩
section
variable{X:Cx}{XB:ZY}{Z:St}{H:Hp}{s s':Shared}
theorem Inv.env0(I:Inv X XB Z H s):Ie X.prog X.w X.K X.mg X.base X.A X.stack s H :=
 ⟨I.ok.frames,I.ok.mod,I.bs,Tg I.ok.bsz I.sz,I.stack,I.stkFree,I.hok,I.bare⟩
theorem Inv.after{Q:VK}{u:Value}(I:Inv X XB Z H s)(h:CE X.stack X.prog X.w H s Q u s'):EP X XB Z Q u s':=by
 obtain⟨v,H',os,bare,un,hok,r,q⟩:=h;obtain⟨hh,g,d,t,os'⟩:=s';obtain rfl:os'=s.os:=os;exact⟨v,H',I.call (h':=hh) (g':=g) (d':=d) (t':=t) (ch:=[]) un hok bare (λb z=>absurd z XA),r,q⟩
end
def Zj2(sp:Sp)(dvs:ZQ)(E:XK)(t:TA):TE:=λZ H Q=>t Z H λvs H1=>sp (vs++dvs) H1 Q E
def Binds(K:W.Frag)(fd:FuncData)(ps:ZD)(ds:ZM):Prop :=
 ∀(s:Shared) (us:ZM),K.In s.heap->(us++ds).length=ps.length->BindsTo s fd ⟨us,[]⟩ (ps.zip (us++ds))
theorem Binds.all{K:W.Frag}{fd:FuncData}{ps:ZD}(h:∀us:ZM,us.length=ps.length->bindArgs fd ⟨us,[]⟩=pure (ps.zip us)):Binds K fd ps []:=λs us _ hl=>by
 rw[XQ]at hl ⊢;exact .of_eq (h us hl)
def Iu(CX:qv)(X:Cx)(E:XK):Prop:=∀(XB:ZY) (Z:St) (H:Hp) (s:Shared) (e:Value) (s':Shared),Inv X XB Z H s->CX X.stack H s E e s'->X.xe e s'
section
variable{X:Cx}{CX:qv}{k:Nat}{f C:Addr}{fd:FuncData}{ps:ZD}{sp:Sp}{dvs:ZQ}{ds:ZM}{E:XK}{x m:Str}{p pos apos:Pos}{e o:Expr}{es:ZC}{ta:TE}{t:TA}
theorem b7{XB:ZY}{Z:St}{H:Hp}{s:Shared}{Q:VK}{us:ZM}{vs:ZQ}(F:J4 X.prog X.w X.K X.mg X.base CX k f fd ps sp)(hr:Ue k X.A)(hb:Binds X.K fd ps ds)(hd:Zd dvs ds)(hx:Iu CX X E)
  (I:Inv X XB Z H s) (r:Zd vs us) (h:sp (vs++dvs) H Q E):wpAny (model X.prog X.w) X.A (call (.ref f) us) (EP X XB Z Q) X.xe s:=by
 have r2:Zd (vs++dvs) (us++ds):=r.append hd;have hl:(us++ds).length=ps.length:=by rw[<-r2.length];exact F.len _ _ _ _ h
 refine wpAny_call (codeAny_mono (F.run X.A X.stack s H ⟨us,[]⟩ (us++ds) (vs++dvs) Q E hr I.env0 (hb s us I.kIn hl) r2 h) λr s' hq=>?_);cases r with
 | error e=>exact hx XB Z H s e s' I hq
 | ok fl =>
  cases fl with
  | ret u=>exact I.after hq
  | next=>exact False.elim hq
  | brk=>exact False.elim hq
  | cont=>exact False.elim hq
theorem Zxg(F:J4 X.prog X.w X.K X.mg X.base CX k f fd ps sp)(hr:Ue k X.A)(hg:Gl X x)(hm:X.mg x=some (.ref f))(hk:W.keepIn X.K (.ref f)=true)(hb:Binds X.K fd ps ds)(hd:Zd dvs ds)(hx:Iu CX X E)
  (ha:PA X (e::es) t) (hdb:(x==("__debug__" : Str))=false:=by decide) (he:starEach (e::es) X.env=(false,eval e X.env)::starEach es X.env:=by rfl) (xy:(backTo pos (starEach es X.env)).any (·.1)=false:=by rfl) :
  PE X (.Call (.Name x p) (e::es) [] pos) (Zj2 sp dvs E t):=by
 intro XB s Z H Q I h;refine wpAny_Call_Name_kw (zp I hg hm ?_ hdb);refine W.callWith_K (h₀:=X.base) I.ok.mod.kin hk (Yj (ha pos XB s Z H _ I h) λus s1 ⟨vs,H1,I1,r,q⟩=>⟨I1.kIn,?_⟩) he xy;exact b7 F hr hb hd hx I1 r q
end
section
variable{X:Cx}{CX:qv}{k:Nat}{f C:Addr}{fd:FuncData}{ps ks:ZD}{sp:Sp}{E:XK}{x m:Str}{p pos apos kpos:Pos}{e o:Expr}{es:ZC}{kws:List Keyword}{te ta:TE}{t tk:TA}{nm:Option Str}
variable{g:ZM->ZM->ZM}{gV:ZQ->ZQ->ZQ}
end
structure Ud(N P:ZD)(sc:Scope):Prop where
 kind:sc.kind=.function
 co:sc.isCoroutine=false
 gen:sc.isGenerator=false
 nd:N.Nodup
 pre:N.take P.length=P
 par:∀x∈P,sc.names.lookup x=some .local\/sc.names.lookup x=some .cell
 nofree:∀y∈sc.names,y.2≠.free
theorem Fs{kindOf:Str->Option NameKind}{x:Str}:∀{binds:List (Str×Value)} {m:ZV},(∀v,(x,v)∉binds)->bindL kindOf binds m x=m x
 | [],_,_=>rfl
 | (n,v)::r,m,h=>by
  unfold bindL;rw[Fs λw hw=>h w (Uz _ hw)]
  split
  .have:x≠n:=by rintro rfl;exact h v V4
   simp[this]
  .rfl
theorem Fp{kindOf:Str->Option NameKind}{x:Str}:∀{binds:List (Str×Value)} {m:ZV},(∀v,(x,v)∉binds)->bindC kindOf binds m x=m x
 | [],_,_=>rfl
 | (n,v)::r,m,h=>by
  unfold bindC;rw[Fp λw hw=>h w (Uz _ hw)]
  split
  .rfl
  .have:x≠n:=by rintro rfl;exact h v V4
   simp[this]
theorem Fh{kindOf:Str->Option NameKind}{x:Str}{v:Value}:∀{P:ZD} {vs:ZM} {i:Nat} {m:ZV},P.Nodup->P[i]?=some x->vs[i]?=some v->kindOf x=some .local ->
  bindL kindOf (P.zip vs) m x=some v
 | [],_,_,_,_,h,_,_=>by simp at h
 | _::_,[],_,_,_,_,h,_=>by simp at h
 | p::P,w::vs,0,m,nd,h1,h2,hk=>by
  simp at h1 h2;subst h1;subst h2;show bindL kindOf ((p,w)::P.zip vs) m p=_;unfold bindL;rw[Fs λv hv=>(List.nodup_cons.mp nd).1 (List.of_mem_zip hv).1,if_pos hk];simp
 | p::P,w::vs,i+1,m,nd,h1,h2,hk=>by
  show bindL kindOf ((p,w)::P.zip vs) m x=_;unfold bindL;exact Fh (i:=i) (List.nodup_cons.mp nd).2 (by simpa using h1) (by simpa using h2) hk
theorem Fi{kindOf:Str->Option NameKind}{x:Str}{v:Value}:∀{P:ZD} {vs:ZM} {i:Nat} {m:ZV},P.Nodup->P[i]?=some x->vs[i]?=some v->kindOf x≠some .local ->
  bindC kindOf (P.zip vs) m x=some v
 | [],_,_,_,_,h,_,_=>by simp at h
 | _::_,[],_,_,_,_,h,_=>by simp at h
 | p::P,w::vs,0,m,nd,h1,h2,hk=>by
  simp at h1 h2;subst h1;subst h2;show bindC kindOf ((p,w)::P.zip vs) m p=_;unfold bindC;rw[Fp λv hv=>(List.nodup_cons.mp nd).1 (List.of_mem_zip hv).1,if_neg hk];simp
 | p::P,w::vs,i+1,m,nd,h1,h2,hk=>by
  show bindC kindOf ((p,w)::P.zip vs) m x=_;unfold bindC;exact Fi (i:=i) (List.nodup_cons.mp nd).2 (by simpa using h1) (by simpa using h2) hk
noncomputable def start(N:ZD)(vs:ZQ):St:=vs.map some++List.replicate (N.length-vs.length) none
noncomputable def Ea(CX:qv)(P:Program)(w:World)(K:W.Frag)(mg:ZV)(base:Heap)(N:ZD)(qual:Str)(scope:Scope)(f:Addr)(cd:Value)(A:Around)(outer:List Env)(s:Shared)(H:Hp)(E:XK):Cx where
 prog:=P
 w:=w
 K:=K
 mg:=mg
 base:=base
 A:=A.deeper (envOfC qual scope s.heap.objs.size f cd)
 N:=N
 s₀:=s
 H₀:=H
 env:=envOfC qual scope s.heap.objs.size f cd
 outer:=outer
 stack:=envOfC qual scope s.heap.objs.size f cd::outer
 ex:=[]
 calm:=true
 fn:=λ_=>true
 pn:=[]
 xe:=λe s'=>wpAny (model P w) (A.deeper (envOfC qual scope s.heap.objs.size f cd)) (leaving (envOfC qual scope s.heap.objs.size f cd) e) (λ_ s''=>CX outer H s E e s'') (λe' s''=>CX outer H s E e' s'') s'
theorem Ee{sc:Scope}{n:Nat}{x:Str}(h:sc.names.lookup x=some .cell):∃c,(cellsFrom n sc.names []).lookup x=some c:=by
 have q:=W.cellsFrom_some sc.names n [] (.inl h);exact Option.isSome_iff_exists.mp q
theorem wc{CX:qv}{P:Program}{w:World}{K:W.Frag}{mg:ZV}{base:Heap}{N ps:ZD}{qual:Str}{scope:Scope}{f:Addr}{cd:Value}{A:Around}{outer:List Env}{s s1:Shared}{H:Hp}{E:XK}{us:ZM}{vs:ZQ}
  (S:Ud N ps scope) (hd:A.handled=none) (e0:Ie P w K mg base A outer s H) (hl:vs.length=ps.length) (r:Zd vs us)
  (x:InCallC s s.heap.objs.size (bindL (envOfC qual scope s.heap.objs.size f cd).kindOf (ps.zip us) λ_=>none) (cellsFrom (s.heap.objs.size+1) scope.names []) (bindC (envOfC qual scope s.heap.objs.size f cd).kindOf (ps.zip us) λ_=>none) s1) :
  Inv (Ea CX P w K mg base N qual scope f cd A outer s H E) [] (start N vs) H s1:=by
 have xy:ps.length<=N.length:=by have:=congrArg List.length S.pre;rw[L0t]at this;omega
 obtain⟨h1,tk,rfl,hk⟩:=x.done;have noA:∀b:Addr,b∉(Ea CX P w K mg base N qual scope f cd A outer s H E).ex:=λb z=>absurd (show b∈([]:ZU) from z) XA
 refine⟨⟨e0.mod,S.kind,rfl,rfl,Vy _,λy z c h1 h2=>?_,λy hy=>?_,λy c _ h=>?_,λ_=>hd,Around.frames_deeper e0.frames,.inr ⟨rfl,rfl⟩,λb z=>absurd z (noA b),e0.bs,e0.bsz,λb _ _=>noA b,λb z=>absurd z (noA b),e0.funs,e0.frf⟩,
  rfl,e0.bare,Un.kept hk,⟨_,x.toInCall.ns,λi y v h1 h2 h3=>?_⟩,λy c h=>⟨_,x.cell y c h⟩,e0.hok.fresh (Vy _),λy c h=>?_,λp hp=>absurd (show p∈([]:ZY) from hp) XA,e0.hok.kept hk,?_⟩
 .exact name_of_addr x.apart (PySem.mem_of_lookup h1) (PySem.mem_of_lookup h2)
 .have hy:scope.names.lookup y=some .cell\/scope.names.lookup y=some .free:=hy;rcases hy with hy | hy
  .exact Ee hy
  .exact absurd rfl (S.nofree _ (PySem.mem_of_lookup hy))
 .exact Nat.le_of_lt (x.above y c (PySem.mem_of_lookup h))
 .have hi:i<vs.length:=by
   unfold start at h2;by_cases hi:i<vs.length
   .exact hi
   .rw[List.getElem?_append_right (by simpa using hi)]at h2;rw[List.getElem?_replicate]at h2
    split at h2<;>cases h2
  have ha:vs[i]?=some v:=by
   unfold start at h2;rw[G0l (by simpa using hi),Oj]at h2;cases e:vs[i]? with
   | none=>rw[e]at h2;cases h2
   | some a=>rw[e]at h2;cases h2;rfl
  obtain⟨u,hu,rv⟩:=r.get ha
  have hp:ps[i]?=some y:=by
   rw[<-S.pre,List.getElem?_take_of_lt XS];exact h1
  have ndP:ps.Nodup:=by rw[<-S.pre];exact S.nd.sublist (List.take_sublist _ _)
  refine⟨u,rv,?_⟩;rcases S.par y (List.mem_of_getElem? hp) with k | k
  .exact .inl ⟨k,Fh ndP hp hu k⟩
  .obtain⟨c,e⟩:=Ee (n:=s.heap.objs.size+1) k;refine .inr ⟨.inl k,c,e,?_⟩;have q:=x.cell y c e;rw[Fi ndP hp hu (by show scope.names.lookup y≠_;rw[k];decide)]at q;exact q
 .exact e0.hok.fresh (Nat.le_of_lt (x.above y c (PySem.mem_of_lookup h)))
 .unfold start;show _=N.length;rw[W7,Vq,List.length_replicate];omega
theorem Zwc{CX:qv}{P:Program}{w:World}{K:W.Frag}{mg:ZV}{base:Heap}{k:Nat}{f:Addr}{name qual:Str}{params:Arguments}{body:List Stmt}{scope:Scope}{dV kV doc pm cdv ct oc:Value}{an od:ZP}
  {osl:ZF} {N ps:ZD} {sp:Sp} (lk:K.lookup f=some ⟨oc,od,.func (W.fnOf name qual params body scope dV kV doc pm an cdv ct),osl⟩) (Pz:W.codeIn K cdv qual=true) (S:Ud N ps scope)
  (len:∀vs H Q E,sp vs H Q E->vs.length=ps.length)
  (Ex:∀(A:Around) (outer:List Env) (s:Shared) (H:Hp) (vs:ZQ) (Q:VK) (E:XK),Ue k (A.deeper (envOfC qual scope s.heap.objs.size f cdv))->sp vs H Q E ->
   ∃t,Wo (Ea CX P w K mg base N qual scope f cdv A outer s H E) body t/\t { nx:=λ_ H'=>Q .non H',rt:=Q } (start N vs) H) :
  J4 P w K mg base CX (k+1) f (W.fnOf name qual params body scope dV kV doc pm an cdv ct) ps sp:=by
 refine⟨len,λA outer s H args us vs Q E hr e0 hb r ai=>?_⟩;have hl:=len _ _ _ _ ai;have KX:K.In s.heap:=e0.mod.kin.keeps λb o e=>(e0.bs b o e).1;have lim:s.heap.NoLimit:=e0.mod.nolimit.keeps λb o e=>(e0.bs b o e).1
 have hkind:∀y∈ps.zip us,scope.names.lookup y.1=some .local\/(scope.names.lookup y.1=some .cell/\((cellsFrom (s.heap.objs.size+1) scope.names []).lookup y.1).isSome=true):=λ⟨n,v⟩ hy=>by
  rcases S.par n (List.of_mem_zip hy).1 with q | q
  .exact .inl q
  .exact .inr ⟨q,W.cellsFrom_some _ _ _ (.inl q)⟩
 refine codeAny_call_function hr.depth (KX _ _ lk) rfl S.co S.gen rfl (W.codeRec_of KX Pz) (hb _ _ _ _ ?_);refine wpAny_newFunctionEnv_cells S.kind hkind λenv he s1 x=>?_;subst he;refine⟨lim.keeps x.toInCall.keep,codeAny_func ?_⟩;obtain⟨t,ht,hq⟩:=Ex A outer s H vs Q E (hr.deeper _) ai;have I:Inv (Ea CX P w K mg base N qual scope f cdv A outer s H E) [] (start N vs) H s1:=wc S hr.hd e0 hl r x;refine wpAny_mono (ht [] s1 (start N vs) H _ I hq) (λfl s' hs=>?_) λe s' hs=>hs
 have fin:∀{σ':St} {H':Hp} {v:V} {u:Value},Inv (Ea CX P w K mg base N qual scope f cdv A outer s H E) [] σ' H' s'->RelV v u->Q v H'->CE outer P w H s Q u s' :=
  λ{σ' H' v u} J rv q=>⟨v,H',J.os,J.bare,J.base,J.hok,rv,q⟩
 cases fl with
 | ret u =>
  obtain⟨v,σ',H',J,rv,q⟩:=hs;exact fin J rv q
 | next =>
  obtain⟨σ',H',J,q⟩:=hs;exact fin (v:=V.non) (u:=Value.none) J rfl q
 | brk =>
  obtain⟨_,_,_,q⟩:=hs;exact False.elim q
 | cont =>
  obtain⟨_,_,_,q⟩:=hs;exact False.elim q
section
variable{X:Cx}{x:Str}{p pos:Pos}{e:Expr}{es:ZC}{t:TA}{id T:String}{r:ZQ->Hp->VK->Prop}
def tCB(r:ZQ->Hp->VK->Prop)(t:TA):TE:=λZ H Q=>t Z H λvs H1=>r vs H1 Q
theorem Sy(hc:Y0 X (.builtin id) r)(hg:Gl X x)(hm:X.mg x=none)(hv:bootBuiltins x=some (.builtin id))(ha:PA X (e::es) t)(hn:x ≠ "__name__" := by decide)(hdb:(x==("__debug__" : Str))=false:=by decide)
  (he:starEach (e::es) X.env=(false,eval e X.env)::starEach es X.env:=by rfl) (xy:(backTo pos (starEach es X.env)).any (·.1)=false:=by rfl):PE X (.Call (.Name x p) (e::es) [] pos) (tCB r t):=by
 intro XB s Z H Q I h;refine wpAny_Call_Name_kw (M3 I hg hm hv ?_ hn hdb);exact callWith_builtin1 (Yj (ha pos XB s Z H _ I h) λus s1 ⟨vs,H1,I1,r1,q1⟩=>hc XB s1 Z H1 vs us Q I1 r1 q1) he xy
theorem jo(hc:Y0 X (.type T) r)(hg:Gl X x)(hm:X.mg x=none)(hv:bootBuiltins x=some (.type T))(ha:PA X (e::es) t)(hn:x ≠ "__name__" := by decide)(hdb:(x==("__debug__" : Str))=false:=by decide)
  (he:starEach (e::es) X.env=(false,eval e X.env)::starEach es X.env:=by rfl) (xy:(backTo pos (starEach es X.env)).any (·.1)=false:=by rfl):PE X (.Call (.Name x p) (e::es) [] pos) (tCB r t):=by
 intro XB s Z H Q I h;refine wpAny_Call_Name_kw (M3 I hg hm hv ?_ hn hdb);exact callWith_type1 (Yj (ha pos XB s Z H _ I h) λus s1 ⟨vs,H1,I1,r1,q1⟩=>hc XB s1 Z H1 vs us Q I1 r1 q1) he xy
end
end L2
namespace HT
open PySem PyProof.Rows
section
open PySem.SeqAt
open PySem.AutoSeq1 (wpAny_loadPart')
open PySem.MeetsSeq PySem.MeetsSeq2 PySem.MeetsSeq3
end
section
variable{prog:Program}{w:World}{A:Around}{E:ZW}{s:Shared}
theorem Zjk{t b:Addr}{vs ws:ZM}{Q:ZW}(ht:IsTup s.heap t vs.toArray)(hb:IsTup s.heap b ws.toArray)(hv:vs≠[])
  (h1:ws=[]->Q (.ref t) s) (h2:ws≠[]->Q (.ref s.heap.objs.size) { s with heap:=s.heap.push { cls:=.type "tuple",data:=.seq (vs++ws).toArray } })
  (hsz:vs.length+ws.length<=sizeLine):wpAny (model prog w) A (binaryOp .Add (.ref t) (.ref b)) Q E s:=by
 obtain⟨⟨cls,dd,data,sl⟩,ho,hc,n,hd⟩:=id ht;obtain⟨⟨cls2,dd2,data2,sl2⟩,Cf,hc2,n2,hd2⟩:=id hb;simp only at hc hd hc2 hd2;subst hc hd hc2 hd2;have e:vs.toArray++ws.toArray=(vs++ws).toArray:=by simp
 by_cases hw:ws=[]
 .exact concat_meets ⟨_,ho,rfl⟩ ⟨_,Cf,rfl⟩ noFill_tuple_add seq_tuple_add PySem.F.slot_tuple_add PySem.F.entry_tuple_add (PySem.F.args_tuple_add_2 _ _)
   (tuple_addW1 t b vs.toArray ws.toArray n n2 dd dd2 sl sl2 (by simpa using hv) (by simp[hw])) ⟨ho,Cf,h1 hw⟩
 .refine concat_meets ⟨_,ho,rfl⟩ ⟨_,Cf,rfl⟩ noFill_tuple_add seq_tuple_add PySem.F.slot_tuple_add PySem.F.entry_tuple_add (PySem.F.args_tuple_add_2 _ _)
   (tuple_addW2 t b vs.toArray ws.toArray n n2 dd dd2 sl sl2 (by simpa using hv) (by simpa using hw) (by rw[Ul,Ul];exact hsz)) ⟨ho,Cf,?_⟩
  rw[e];exact h2 hw
noncomputable def Y7(n d:Nat):ZR->Nat
 | none=>d
 | some v=>if v<0 then (v+(n:Int)).toNat else min v.toNat n
theorem C0(n d k:Nat):Y7 n d (some (k:Int))=min k n:=by
 show (if (k:Int)<0 then ((k:Int)+(n:Int)).toNat else min (k:Int).toNat n)=min k n;rw[if_neg XS,XG]
theorem sIx_le(n d:Nat)(hd:d<=n)(o:ZR):Y7 n d o<=n:=by
 cases o with
 | none=>exact hd
 | some v =>
  show (if v<0 then (v+(n:Int)).toNat else min v.toNat n)<=n;by_cases hv:v<0
  .rw[if_pos hv];omega
  .rw[if_neg hv];exact Nat.min_le_right _ _
theorem xi(v:Int)(n d:Nat):(if v<0 then max (v+(n:Int)) 0 else min v (n:Int))=((Y7 n d (some v):Nat):Int):=by
 show (if v<0 then max (v+(n:Int)) 0 else min v (n:Int))=(((if v<0 then (v+(n:Int)).toNat else min v.toNat n):Nat):Int);by_cases hv:v<0
 .simp only[if_pos hv];omega
 .simp only[if_neg hv];omega
theorem Ir(lo hi:ZR)(n:Nat):Builtin.Slice.sliceAdjust lo hi 1 (n:Int)=(((Y7 n 0 lo:Nat):Int),((Y7 n n hi:Nat):Int)):=by
 have h1:¬ ((1:Int)<0):=XS
 unfold Builtin.Slice.sliceAdjust;simp only[h1,if_false];refine Prod.ext ?_ ?_
 .cases lo with
  | none=>rfl
  | some v=>exact xi v n 0
 .cases hi with
  | none=>rfl
  | some v=>exact xi v n n
theorem Av(i j:Nat):Builtin.Slice.slicePlaces (i:Int) (j:Int) 1=j-i:=by
 unfold Builtin.Slice.slicePlaces;have h1:(1:Int)>0:=XS
 simp only[h1,if_true,Int.ediv_one]
 split<;>omega
theorem Rf{v:Value}{o:ZR}{Q:ZR->Shared->Prop}(p:IsPart v o)(h:Q o s):wpAny (model prog w) A (Builtin.Slice.slicePartIndex v) Q E s:=by
 cases p with
 | none=>exact slicePart_none h
 | int i t=>exact slicePart_int h
theorem Jh{sl:Addr}{vl vu:Value}{lo hi:ZR}{n:Nat}{Q:Int×Int×Nat->Shared->Prop}(hs:s.heap.IsSliceOf sl vl vu .none)(pl:IsPart vl lo)(pu:IsPart vu hi)
  (h:Q (((Y7 n 0 lo:Nat):Int),1,Y7 n n hi-Y7 n 0 lo) s):wpAny (model prog w) A (Builtin.Slice.sliceApplied (.ref sl) (pure (n:Int))) Q E s:=by
 obtain⟨os,w4,hcs,oz⟩:=id hs;unfold Builtin.Slice.sliceApplied Builtin.Slice.sliceFields;refine Zt (Zt (wpAny_field w4 oz (x:=vl) rfl (Zt (wpAny_field w4 oz (x:=vu) rfl (Zt (wpAny_field w4 oz (x:=.none) rfl (Yl ?_)))))));refine Zt (slicePart_none ?_);show wpAny _ _ (if ((1:Int)==0)=true then _ else _) _ _ s;rw[if_neg XU];refine Zt (Rf pl (Zt (Rf pu (Zt (Yl ?_)))));show wpAny _ _ (match Builtin.Slice.sliceAdjust lo hi 1 (n:Int) with | (lo,hi)=>pure (lo,(1:Int),Builtin.Slice.slicePlaces lo hi 1)) _ _ s;rw[Ir lo hi n];show wpAny _ _ (pure (((Y7 n 0 lo:Nat):Int),(1:Int),Builtin.Slice.slicePlaces ((Y7 n 0 lo:Nat):Int) ((Y7 n n hi:Nat):Int) 1)) _ _ s;rw[Av];exact Yl h
theorem t7(xs:ZN)(i k:Nat):((List.range k).filterMap λ(m:Nat)=>xs[((i:Int)+(m:Int)*1).toNat]?).toArray=((xs.toList.drop i).take k).toArray:=by
 have e:(λ(m:Nat)=>xs[((i:Int)+(m:Int)*1).toNat]?)=λm=>xs[i+m]?:=by
  funext m
  have:((i:Int)+(m:Int)*1).toNat=i+m:=XS
  rw[this]
 rw[e];have:=pick_run xs i k;rw[List.filterMap_map]at this;have e2:((λx=>xs[x]?) ∘ λx=>i+x)=λm=>xs[i+m]?:=rfl;rw[e2]at this;rw[this]
theorem N3{t sl:Addr}{items:ZN}{vl vu:Value}{lo hi:ZR}{Q:ZW}(ht:IsTup s.heap t items)(hs:s.heap.IsSliceOf sl vl vu .none)(pl:IsPart vl lo)(pu:IsPart vu hi)
  (hw:¬ (Y7 items.size 0 lo=0/\Y7 items.size items.size hi=items.size))
  (h:Q (.ref s.heap.objs.size) { s with heap:=s.heap.push { cls:=.type "tuple",data:=.seq ((items.toList.drop (Y7 items.size 0 lo)).take (Y7 items.size items.size hi-Y7 items.size 0 lo)).toArray } })
  (hsz:items.size<=sizeLine):wpAny (model prog w) A (getItem (.ref t) (.ref sl)) Q E s:=by
 have Na:sizeOk (.seq ((items.toList.drop (Y7 items.size 0 lo)).take (Y7 items.size items.size hi-Y7 items.size 0 lo)).toArray):=by
  show ((items.toList.drop (Y7 items.size 0 lo)).take (Y7 items.size items.size hi-Y7 items.size 0 lo)).toArray.size<=sizeLine;rw[Ul,L0t,List.length_drop,yf];omega
 have hj:Y7 items.size items.size hi<=items.size:=sIx_le _ _ (Vy _) hi;obtain⟨os,w4,hcs,oz⟩:=id hs;have hTs:s.TypeIs (.ref sl) "slice" := ⟨os,w4,hcs⟩;unfold getItem
 try with_reducible refine wpAny_holding ?_
 first | refine Zt (Yl ?_) | skip
 refine Zt (wpAny_sequenceKey ht.typeIs XU ?_)
 refine Zt (wpAny_callSpecial?_slot (name:=Str.ofString "__getitem__") ht.typeIs slot_tuple_getitem
  (wpAny_call_entry slot_tuple_getitem ht.typeIs entry_tuple_getitem ?_ (args_tuple_getitem _ _)))
 show wpAny _ _ (Builtin.Tuple.tupleItemsOf (.ref t) >>= _) _ _ s;refine Zt (tupleItemsOf_ ht ?_);refine Zt (wpAny_typeOf hTs ?_);rw[if_pos XU];refine Zt (Jh hs pl pu ?_)
 have hno:¬ ((((Y7 items.size 0 lo:Nat):Int)==0&&(1:Int)==1&&(Y7 items.size items.size hi-Y7 items.size 0 lo)==items.size)=true):=by
  intro q;rw[Vl,Vl]at q;have q1:((Y7 items.size 0 lo:Nat):Int)=0:=eq_of_beq q.1.1;have q2:Y7 items.size items.size hi-Y7 items.size 0 lo=items.size:=eq_of_beq q.2;exact hw ⟨by omega,by omega⟩
 show wpAny _ _ (if (((Y7 items.size 0 lo:Nat):Int)==0&&(1:Int)==1&&(Y7 items.size items.size hi-Y7 items.size 0 lo)==items.size)=true then _ else _) _ _ s;rw[if_neg hno,t7]
 first
  | exact Zt (m:=Builtin.Tuple.tupleExact _) (wpAny_newObj_type (Yl ⟨_,rfl,Yl h⟩) Na)
  | exact Zt (m:=Builtin.Tuple.tupleExact _) (wpAny_newObj_type (Zt (Yl (Yl ⟨_,rfl,Yl h⟩))) Na)
  | exact Zt (Zt (m:=Builtin.Tuple.tupleExact _) (wpAny_newObj_type (Yl (Yl ⟨_,rfl,Yl h⟩)) Na))
  | exact Zt (Zt (m:=Builtin.Tuple.tupleExact _) (wpAny_newObj_type (Yl ⟨_,rfl,Yl h⟩) Na))
end
end HT
namespace L2
open PySem PySem.Spec PyProof.Rows
abbrev TO:=St->Hp->(ZR->Hp->Prop)->Prop
def PO(X:Cx)(e:Option Expr)(t:TO):Prop :=
 ∀(XB:ZY) (s:Shared) (Z:St) (H:Hp) (Q:ZR->Hp->Prop),Inv X XB Z H s->t Z H Q ->
  wpAny (model X.prog X.w) X.A (evalPart e X.env) (λu s'=>∃o H',Inv X XB Z H' s'/\IsPart u o/\Q o H') X.xe s
def ib:TO:=λ_ H Q=>Q none H
inductive Xg(Q:(ZR->Hp->Prop))(x:V)(H1:Hp):Prop
 | mk(i)(Vd:x=.int i)(Vm:Q (some i) H1):Xg Q x H1
def tPart(t:TE):TO:=λZ H Q=>t Z H λx H1=>Xg Q x H1
theorem intsAre_of{ns:ZL}:∀{us:ZM},Zd (ns.map V.int) us->IntsAre us ns:=by
 induction ns with
 | nil=>intro us r;rw[List.map_nil]at r;cases r;exact .nil
 | cons n ns ih =>
  intro us r;rw[C9]at r;cases r with
  | cons r1 r2 =>
   obtain⟨t,e⟩:=r1;subst e;exact .cons n t (ih r2)
section
variable{X:Cx}{e:Expr}{te:TE}{lo hi:Option Expr}{tl th:TO}{pos p2:Pos}
theorem Qh:PO X none ib:=by
 intro XB s Z H Q I h;rw[evalPart_none];exact Yl ⟨none,H,I,.none,h⟩
theorem Qs(h:PE X e te):PO X (some e) (tPart te):=by
 intro XB s Z H Q I hw;rw[evalPart_some];refine Yj (h XB s Z H _ I hw) λu s1 ⟨x,H1,I1,r1,q1⟩=>?_;obtain⟨i,rfl,q⟩:=q1;obtain⟨t,rfl⟩:=r1;exact⟨some i,H1,I1,.int i t,q⟩
def SlR(X:Cx)(r:V->ZR->ZR->Hp->VK->Prop):Prop :=
 ∀(XB:ZY) (s:Shared) (Z:St) (H:Hp) (x:V) (v vl vu:Value) (lo hi:ZR) (sl:Addr) (Q:VK),Inv X XB Z H s->RelV x v->s.heap.IsSliceOf sl vl vu .none->IsPart vl lo->IsPart vu hi->r x lo hi H Q ->
  ∃T id,typeLookup (.type T) "__getitem__"=pure (some (.builtin id))/\s.TypeIs v T/\wpAny (model X.prog X.w) X.A (getItem v (.ref sl)) (EP X XB Z Q) X.xe s
def tSl(r:V->ZR->ZR->Hp->VK->Prop)(te:TE)(tl th:TO):TE:=λZ H Q=>te Z H λx H1=>tl Z H1 λl H2=>th Z H2 λu H3=>r x l u H3 Q
theorem Rl{r:V->ZR->ZR->Hp->VK->Prop}(hr:SlR X r)(he:PE X e te)(hl:PO X lo tl)(hu:PO X hi th):PE X (.Subscript e (.Slice lo hi none p2) pos) (tSl r te tl th):=by
 intro XB s Z H Q I h;refine Subscript_ (Yj (he XB s Z H _ I h) λv s1 ⟨x,H1,I1,r1,q1⟩=>?_);refine wpAny_Slice (Yj (hl XB s1 Z H1 _ I1 q1) λvl s2 ⟨l,H2,I2,pl,q2⟩=>Yj (hu XB s2 Z H2 _ I2 q2) λvu s3 ⟨u,H3,I3,pu,q3⟩=>?_);rw[evalPart_none];refine Yl ?_;have I4:Inv X XB Z H3 { s3 with heap:=s3.heap.push { cls:=.type "slice",data:=.fields #[vl,vu,.none] } }:=I3.kept (t':=s3.toks) λb ob q=>Vp _ q;obtain⟨T,id,hT,ht,hg⟩:=hr XB { s3 with heap:=s3.heap.push { cls:=.type "slice",data:=.fields #[vl,vu,.none] } } Z H3 x v vl vu l u s3.heap.objs.size Q I4 r1 (Heap.IsSliceOf.new ..) pl pu q3;show wpAny (model X.prog X.w) X.A (subscriptTail e (.Slice lo hi none p2) v (.ref s3.heap.objs.size)) (EP X XB Z Q) X.xe { s3 with heap:=s3.heap.push { cls:=.type "slice",data:=.fields #[vl,vu,.none] } };exact tail_any (ops:=[.ref s3.heap.objs.size,v]) ht hT hg (by with_unfolding_all rfl)
noncomputable def B8(xs:ZQ)(lo hi:ZR):ZQ:=(xs.drop (HT.Y7 xs.length 0 lo)).take (HT.Y7 xs.length xs.length hi-HT.Y7 xs.length 0 lo)
theorem Jf(xs:ZQ)(lo hi:ZR):(B8 xs lo hi).length<=xs.length:=by
 unfold B8;rw[L0t,List.length_drop];omega
inductive dq(K:W.Frag)(x:V)(lo:ZR)(hi:ZR)(H:Hp)(Q:VK):Prop
 | mk(a xs)(Vd:x=.ref a)(Vm:Vn K H a xs)(U0:¬ (HT.Y7 xs.length 0 lo=0/\HT.Y7 xs.length xs.length hi=xs.length))(Lg:∀p,H p=none->Q (.ref p) (upd H p (.tup (B8 xs lo hi)))):dq K x lo hi H Q
def rSlT(K:W.Frag):V->ZR->ZR->Hp->VK->Prop:=λx lo hi H Q=>dq K x lo hi H Q
theorem sl_tup:SlR X (rSlT X.K):=by
 intro XB s Z H x v vl vu lo hi sl Q I rx hs pl pu h;obtain⟨a,xs,rfl,hx,hw,q⟩:=h;cases rx;obtain⟨XD,r,ht,hz⟩:=I.tuple hx;have hlen:XD.toArray.size=xs.length:=by rw[Ul];exact r.length.symm
 refine⟨"tuple",_,slot_tuple_getitem.lookup,ht.typeIs,?_⟩;refine HT.N3 ht hs pl pu (by rw[hlen];exact hw) ?_ (by rw[hlen];exact hz);rw[hlen];refine⟨.ref s.heap.objs.size,_,I.laid (t':=s.toks) (o:=.tup (B8 xs lo hi)) (λb ob q=>Vp _ q) (Vy _) ?_,rfl,q _ (I.hok.fresh (Vy _))⟩;exact⟨Tg (Jf xs lo hi) hz,_,(r.drop (HT.Y7 xs.length 0 lo)).take (HT.Y7 xs.length xs.length hi-HT.Y7 xs.length 0 lo),Wa.new _ _⟩
inductive X4(K:W.Frag)(x:V)(y:V)(H:Hp)(Q:VK):Prop
 | mk(a b xs ys)(Vd:x=.ref a)(Vm:y=.ref b)(U0:Vn K H a xs)(Lg:Vn K H b ys)(xg:xs≠[])(h5_:xs.length+ys.length<=sizeLine)(h6_:(ys=[]->Q (.ref a) H))(h7_:(ys≠[]->∀p,H p=none->Q (.ref p) (upd H p (.tup (xs++ys))))):X4 K x y H Q
def rCatT(K:W.Frag):R2:=λx y H Q=>X4 K x y H Q
theorem Zd.nil_iff{xs:ZQ}{us:ZM}(r:Zd xs us):us=[]↔xs=[]:=by
 cases r with
 | nil=>simp
 | cons _ _=>simp
theorem Zxu:Mh X (binaryOp .Add) (rCatT X.K):=by
 intro XB s Z H x y v u Q I rx ry h;obtain⟨a,b,xs,ys,rfl,rfl,ha,hb,hx,hz,q1,q2⟩:=h;cases rx;cases ry;obtain⟨XD,r1,p1,_⟩:=I.tuple ha;obtain⟨So,r2,p2,_⟩:=I.tuple hb;refine HT.Zjk p1 p2 (λz=>hx (r1.nil_iff.mp z)) (λz=>⟨.ref a,H,I,rfl,q1 (r2.nil_iff.mp z)⟩) (λz=>?_) (by rw[<-r1.length, <-r2.length];exact hz);refine⟨.ref s.heap.objs.size,_,I.laid (t':=s.toks) (o:=.tup (xs++ys)) (λb ob q=>Vp _ q) (Vy _) ?_,rfl,q2 (λw=>z (r2.nil_iff.mpr w)) _ (I.hok.fresh (Vy _))⟩;exact⟨by rw[W7];exact hz,_,r1.append r2,Wa.new _ _⟩
end
noncomputable def Q6(n:Nat)(i:Int):ZH:=if 0<=i then (if i<n then some i.toNat else none) else if -(n:Int)<=i then some (i+n).toNat else none
noncomputable def Tq{Z:Type}(xs:List Z)(i:Int):Option Z:=(Q6 xs.length i).bind λj=>xs[j]?
theorem Q5{n:Nat}{i:Int}{j:Nat}(h:Q6 n i=some j):seqIndex? i n=some j/\j<n/\-(n:Int)<=i/\i<n:=by
 unfold Q6 at h;by_cases h0:0<=i
 .rw[if_pos h0]at h;by_cases h1:i<n
  .rw[if_pos h1]at h;have e:i.toNat=j:=D8 h;exact⟨by rw[seqIndex_of h0 h1,e],by omega,by omega,h1⟩
  .rw[if_neg h1]at h;cases h
 .rw[if_neg h0]at h;by_cases h1:-(n:Int)<=i
  .rw[if_pos h1]at h;have e:(i+n).toNat=j:=D8 h;exact⟨by rw[seqIndex_neg XS h1,e],by omega,h1,by omega⟩
  .rw[if_neg h1]at h;cases h
theorem Oz{Z:Type}{xs:List Z}{i:Int}{v:Z}(h:Tq xs i=some v):∃j,seqIndex? i xs.length=some j/\xs[j]?=some v/\j<xs.length/\-(xs.length:Int)<=i/\i<xs.length:=by
 unfold Tq at h;cases e:Q6 xs.length i with
 | none=>rw[e]at h;cases h
 | some j =>
  rw[e]at h;obtain⟨h1,h2,h3,h4⟩:=Q5 e;exact⟨j,h1,h,h2,h3,h4⟩
theorem x4{Z:Type}{xs:List Z}{j:Nat}{v:Z}(h:xs[j]?=some v):Tq xs (j:Int)=some v:=by
 have hj:j<xs.length:=(W8.mp h).1
 have e:Q6 xs.length (j:Int)=some j:=by
  unfold Q6;rw[if_pos XS,if_pos XS];simp
 unfold Tq;rw[e];exact h
def x9(b:Expr):Prop:=∀o i,subscripted b false o i=operate [o,i] (getItem o i)
def IxR(X:Cx)(r:R2):Prop :=
 ∀(value slice:Expr) (XB:ZY) (s:Shared) (Z:St) (H:Hp) (x y:V) (v u:Value) (Q:VK),Inv X XB Z H s->RelV x v->RelV y u->r x y H Q ->
  subscripted slice false v u=operate [v,u] (getItem v u)->wpAny (model X.prog X.w) X.A (subscriptTail value slice v u) (EP X XB Z Q) X.xe s
def MtR(X:Cx)(id:String)(r:V->ZQ->Hp->VK->Prop):Prop :=
 ∀(XB:ZY) (s:Shared) (Z:St) (H:Hp) (x:V) (xs:ZQ) (v:Value) (us:ZM) (Q:VK),Inv X XB Z H s->RelV x v->Zd xs us->r x xs H Q ->
  wpAny (model X.prog X.w) X.A (call (.builtin id) (v::us)) (EP X XB Z Q) X.xe s
section
variable{X:Cx}{a b:Expr}{ta tb:TE}{pos:Pos}
theorem zx{r:R2}(hr:IxR X r)(ha:PE X a ta)(hb:PE X b tb)(hs:x9 b):PE X (.Subscript a b pos) (tOp r ta tb):=by
 intro XB s Z H Q I h;exact Subscript_ (binT ha hb I h λv u s2 x y H2 I2 rx ry q=>hr a b XB s2 Z H2 x y v u Q I2 rx ry q (hs _ _))
inductive dg(K:W.Frag)(x:V)(y:V)(H:Hp)(Q:VK):Prop
 | mk(p xs i v)(Vd:x=.ref p)(Vm:y=.int i)(U0:Uq K H p xs)(Lg:Tq xs i=some v)(xg:Q v H):dg K x y H Q
def rIxL(K:W.Frag):R2:=λx y H Q=>dg K x y H Q
inductive dy(K:W.Frag)(x:V)(y:V)(H:Hp)(Q:VK):Prop
 | mk(p xs i v)(Vd:x=.ref p)(Vm:y=.int i)(U0:Vn K H p xs)(Lg:Tq xs i=some v)(xg:Q v H):dy K x y H Q
def rIxT(K:W.Frag):R2:=λx y H Q=>dy K x y H Q
inductive dk(x:V)(y:V)(H:Hp)(Q:VK):Prop
 | mk(z i c)(Vd:x=.str z)(Vm:y=.int i)(U0:z.length<=sizeLine)(Lg:Tq z.cps.toList i=some c)(xg:Q (.str ⟨#[c]⟩) H):dk x y H Q
def rIxS:R2:=λx y H Q=>dk x y H Q
theorem Zqm:IxR X (rIxL X.K):=by
 intro value slice XB s Z H x y v u Q I rx ry h hs;obtain⟨p,xs,i,z,rfl,rfl,hq,he,q⟩:=h;cases rx;obtain⟨t,rfl⟩:=ry;obtain⟨XD,r,pl,hz⟩:=I.list hq;obtain⟨j,h1,h2,h3,h4,h5⟩:=Oz he;obtain⟨w,ew,Qc⟩:=r.get h2;have hl:=r.length;have hn:=M0;have fin:EP X XB Z Q w s:=⟨z,H,I,Qc,q⟩;by_cases h0:0<=i
 .have hj:i.toNat=j:=by
   rw[seqIndex_of h0 h5]at h1;exact D8 h1
  exact item_listR pl.isList h0 XS (by rw[hj];simpa using ew) fin hs
 .have hj:(i+(XD.toArray.size:Int)).toNat=j:=by
   rw[seqIndex_neg XS h4]at h1;rw[Ul, <-hl];exact D8 h1
  exact subscriptTail_builtinR (x:=w) pl.isList.typeIs slot_list_getitem.lookup
   (wpAny_getItem_list_neg (Q:=λr s'=>r=w/\EP X XB Z Q r s') pl.isList XS (by rw[Ul]<;>omega) XS (by rw[hj];simpa using ew) ⟨rfl,fin⟩) hs
theorem As:IxR X (rIxT X.K):=by
 intro value slice XB s Z H x y v u Q I rx ry h hs;obtain⟨p,xs,i,z,rfl,rfl,hq,he,q⟩:=h;cases rx;obtain⟨t,rfl⟩:=ry;obtain⟨XD,r,pl,hz⟩:=I.tuple hq;obtain⟨j,h1,h2,h3,h4,h5⟩:=Oz he;obtain⟨w,ew,Qc⟩:=r.get h2;have hl:=r.length;have hn:=M0;have fin:EP X XB Z Q w s:=⟨z,H,I,Qc,q⟩
 exact subscriptTail_builtinR (x:=w) pl.typeIs slot_tuple_getitem.lookup
  (getItem_tuple (j:=j) (Q:=λr s'=>r=w/\EP X XB Z Q r s') pl XS XS (by rw[Ul, <-hl];exact h1) (by simpa using ew) ⟨rfl,fin⟩) hs
theorem ix_str:IxR X rIxS:=by
 intro value slice XB s Z H x y v u Q I rx ry h hs;obtain⟨z,i,c,rfl,rfl,hz,he,q⟩:=h;obtain⟨t,rfl⟩:=rx;obtain⟨t',rfl⟩:=ry;obtain⟨j,h1,h2,h3,h4,h5⟩:=Oz he;have hl:z.cps.toList.length=z.length:=by simp[Str.length]
 rw[hl]at h1 h4 h5;have hn:=M0
 exact tail_any (typeIs_str s z t) slot_str_getitem.lookup (getItem_str (c:=c) (by
  have e1:decide (i < -(2 ^ 63:Int))=false:=Bf XS;have e2:decide (i ≥ 2 ^ 63)=false:=Bf XS;rw[e1,e2,Bool.or_false]) (by rw[h1];simpa using h2) ⟨.str ⟨#[c]⟩,H,I.tok _,⟨_,rfl⟩,q⟩) hs
theorem An(XD:ZM)(n j:Nat)(u:Value):Obj.mapSeq (·.setIfInBounds j u) { cls:=.type "list",data:=.seq XD.toArray n }={ cls:=.type "list",data:=.seq (XD.set j u).toArray n }:=by
 simp[Obj.mapSeq]
theorem Inv.lst{XB:ZY}{Z:St}{H:Hp}{s:Shared}{p:Addr}{xs:ZQ}(I:Inv X XB Z H s)(h:H p=some (.lst xs)) :
  ∃(XD:ZM) (n:Nat),Zd xs XD/\s.heap.get? p=some { cls:=.type "list",data:=.seq XD.toArray n }/\xs.length<=sizeLine:=by
 obtain⟨z,XD,n,r,e⟩:=I.hok p _ h;exact⟨XD,n,r,e,z⟩
theorem Inv.lstUpd{XB:ZY}{Z:St}{H:Hp}{s:Shared}{p:Addr}{xs ys:ZQ}{XD its':ZM}{n n':Nat}{f:Obj->Obj}(I:Inv X XB Z H s)(h:H p=some (.lst xs))
  (ho:s.heap.get? p=some { cls:=.type "list",data:=.seq XD.toArray n }) (hf:f { cls:=.type "list",data:=.seq XD.toArray n }={ cls:=.type "list",data:=.seq its'.toArray n' }) (r:Zd ys its') (hz:ys.length<=sizeLine) (t:Nat) :
  Inv X XB Z (upd H p (.lst ys)) { s with heap:=s.heap.update p f,toks:=t }:=by
 have e:(s.heap.update p f).get? p=some { cls:=.type "list",data:=.seq its'.toArray n' }:=by
  rw[Heap.get?_update_self f ho (by rw[hf]<;>rfl),hf]
 refine I.write (x:=p) (e:=p) (by rw[h];trivial) (.inl rfl) (λb u hb q=>(Heap.get?_update_other _ _ (Ne.symm hb)).trans q) ⟨_,e⟩ ?_;exact⟨hz,its',n',r,e⟩
inductive X2(o:V)(i:V)(v:V)(H:Hp)(Q:(Hp->Prop)):Prop
 | mk(p xs k j)(Vd:o=.ref p)(Vm:i=.int k)(U0:H p=some (.lst xs))(Lg:Q6 xs.length k=some j)(xg:Q (upd H p (.lst (xs.set j v)))):X2 o i v H Q
def rSetL:V->V->V->Hp->(Hp->Prop)->Prop:=λo i v H Q=>X2 o i v H Q
theorem set_list:PSet X rSetL:=by
 intro XB s Z H o i v ov iv u Q I ro ri rv h;obtain⟨p,xs,k,j,rfl,rfl,hp,hj,q⟩:=h;cases ro;obtain⟨t,rfl⟩:=ri;obtain⟨XD,n,r,ho,hz⟩:=I.lst hp;obtain⟨h1,h2,h3,h4⟩:=Q5 hj;have hl:=r.length;have hn:=M0
 have I':Inv X XB Z (upd H p (.lst (xs.set j v))) { s with heap:=s.heap.update p (Obj.mapSeq (·.setIfInBounds j u)) } :=
  I.lstUpd hp ho (An XD n j u) (r.set rv j) (by rw[XY];exact hz) s.toks
 by_cases h0:0<=k
 .have hk:k.toNat=j:=by
   rw[seqIndex_of h0 h4]at h1;exact D8 h1
  exact W.ki_setAt ho h0 XS (by rw[Ul, <-hl];exact h4) (by rw[hk];exact⟨_,I',q⟩)
 .have hk:(k+(XD.toArray.size:Int)).toNat=j:=by
   rw[seqIndex_neg XS h3]at h1;rw[Ul, <-hl];exact D8 h1
  exact W.ki_setBack ho XS (by rw[Ul, <-hl];exact h3) XS (by rw[hk];exact⟨_,I',q⟩)
theorem Qd(lo hi:ZR)(n:Nat):(sliceBounds lo hi none n).1=((HT.Y7 n 0 lo:Nat):Int)/\(sliceBounds lo hi none n).2.1=((HT.Y7 n n hi:Nat):Int)/\(sliceBounds lo hi none n).2.2=1:=by
 refine⟨?_,?_,rfl⟩
 .cases lo with
  | none=>simp[sliceBounds,HT.Y7]
  | some i =>
   simp only[sliceBounds,HT.Y7,Option.getD_none,show (1:Int)>0 by decide,if_true];by_cases h:i<0
   .simp only[h,if_true]<;>omega
   .simp only[h,if_false]<;>omega
 .cases hi with
  | none=>simp[sliceBounds,HT.Y7]
  | some i =>
   simp only[sliceBounds,HT.Y7,Option.getD_none,show (1:Int)>0 by decide,if_true];by_cases h:i<0
   .simp only[h,if_true]<;>omega
   .simp only[h,if_false]<;>omega
theorem Lj(XD:ZM)(lo hi:ZR):slicePick XD.toArray lo hi none=((XD.drop (HT.Y7 XD.length 0 lo)).take (HT.Y7 XD.length XD.length hi-HT.Y7 XD.length 0 lo)).toArray:=by
 obtain⟨h1,h2,h3⟩:=Qd lo hi XD.toArray.size;unfold slicePick;rw[h1,h2,h3];simp only[sliceRange_one,pick_run,Ul]<;>rfl
inductive dj(K:W.Frag)(x:V)(lo:ZR)(hi:ZR)(H:Hp)(Q:VK):Prop
 | mk(a xs)(Vd:x=.ref a)(Vm:Uq K H a xs)(U0:∀p,H p=none->Q (.ref p) (upd H p (.lst (B8 xs lo hi)))):dj K x lo hi H Q
def rSlL(K:W.Frag):V->ZR->ZR->Hp->VK->Prop:=λx lo hi H Q=>dj K x lo hi H Q
theorem Zzb:SlR X (rSlL X.K):=by
 intro XB s Z H x v vl vu lo hi sl Q I rx hs pl pu h;obtain⟨a,xs,rfl,hx,q⟩:=h;cases rx;obtain⟨XD,r,ht,hz⟩:=I.list hx;have hlen:=r.length;refine⟨"list",_,slot_list_getitem.lookup,ht.isList.typeIs,?_⟩;refine wpAny_getItem_list_slice ht.isList hs pl pu .none XA ?_ (by rw[Ul]<;>omega);rw[Lj, <-hlen];refine⟨.ref s.heap.objs.size,_,I.laid (t':=s.toks) (o:=.lst (B8 xs lo hi)) (λb ob q=>Vp _ q) (Vy _) ?_,rfl,q _ (I.hok.fresh (Vy _))⟩;exact⟨Tg (Jf xs lo hi) hz,_,0,(r.drop (HT.Y7 xs.length 0 lo)).take (HT.Y7 xs.length xs.length hi-HT.Y7 xs.length 0 lo),Mp _ rfl⟩
def Ji:V->Bool
 | .non=>true
 | .bl _=>true
 | .int _=>true
 | .str _=>true
 | _=>false
noncomputable def oj:V->V->Bool
 | .non,.non=>true
 | .bl a,.bl b=>a==b
 | .bl a,.int b=>(if a then 1 else 0)==b
 | .int a,.bl b=>a==(if b then 1 else 0)
 | .int a,.int b=>a==b
 | .str a,.str b=>a==b
 | _,_=>false
theorem p6{A:Around}{s:Shared}{y x:V}{u v:Value}(ry:RelV y u)(rx:RelV x v)(fy:Ji y=true)(fx:Ji x=true):SeqAt.EqAt A s u v (oj y x):=by
 cases y with
 | non =>
  cases ry;cases x with
  | non=>cases rx;exact SeqAt.EqAt.same _
  | bl b=>cases rx;exact SeqAt.EqAt.none_bool b
  | int b=>obtain⟨t,rfl⟩:=rx;exact SeqAt.EqAt.none_int b t
  | str b=>obtain⟨t,rfl⟩:=rx;exact SeqAt.EqAt.none_str b t
  | _=>exact absurd (show false=true from fx) Nj
 | bl a =>
  cases ry;cases x with
  | non=>cases rx;exact SeqAt.EqAt.bool_none a
  | bl b=>cases rx;exact SeqAt.EqAt.bool_bool a b
  | int b=>obtain⟨t,rfl⟩:=rx;exact SeqAt.EqAt.bool_int a b t
  | str b=>obtain⟨t,rfl⟩:=rx;exact SeqAt.EqAt.bool_str a b t
  | _=>exact absurd (show false=true from fx) Nj
 | int a =>
  obtain⟨t',rfl⟩:=ry;cases x with
  | non=>cases rx;exact SeqAt.EqAt.int_none a t'
  | bl b=>cases rx;exact SeqAt.EqAt.int_bool a t' b
  | int b=>obtain⟨t,rfl⟩:=rx;exact SeqAt.EqAt.int_int a t' b t
  | str b=>obtain⟨t,rfl⟩:=rx;exact SeqAt.EqAt.int_str a t' b t
  | _=>exact absurd (show false=true from fx) Nj
 | str a =>
  obtain⟨t',rfl⟩:=ry;cases x with
  | non=>cases rx;exact SeqAt.EqAt.str_none a t'
  | bl b=>cases rx;exact SeqAt.EqAt.str_bool a t' b
  | int b=>obtain⟨t,rfl⟩:=rx;exact SeqAt.EqAt.str_int a t' b t
  | str b=>obtain⟨t,rfl⟩:=rx;exact SeqAt.EqAt.str_str a t' b t
  | _=>exact absurd (show false=true from fx) Nj
 | _=>exact absurd (show false=true from fy) Nj
noncomputable def eqU(x:V)(u:Value):Bool:=match u with
 | .none=>oj .non x
 | .bool b=>oj (.bl b) x
 | .int i _=>oj (.int i) x
 | .str z _=>oj (.str z) x
 | _=>false
theorem A4{x y:V}{u:Value}(r:RelV y u)(f:Ji y=true):eqU x u=oj y x:=by
 cases y with
 | non=>cases r;rfl
 | bl b=>cases r;rfl
 | int i=>obtain⟨t,rfl⟩:=r;rfl
 | str z=>obtain⟨t,rfl⟩:=r;rfl
 | _=>exact absurd (show false=true from f) Nj
inductive Dc(K:W.Frag)(xs:ZQ)(H:Hp)(Q:VK):Prop
 | mk(p ys)(Vd:xs=[.ref p])(Vm:(Uq K H p ys\/Vn K H p ys))(U0:Q (.int ys.length) H):Dc K xs H Q
theorem Bx:Y0 X (.builtin "len") (λxs H Q=>Dc X.K xs H Q):=by
 intro XB s Z H xs us Q I r h;obtain⟨p,ys,rfl,hq,q⟩:=h;obtain⟨u,rfl,rx⟩:=vals1 r;cases rx;have hn:=M0;rcases hq with hq | hq
 .obtain⟨XD,r',pl,hz⟩:=I.list hq;have hlen:=r'.length;exact Calls.call_len_list pl.isList (by simp only[Ul]<;>omega) ⟨.int ys.length,H,I.tok _,⟨s.toks+1,by rw[Ul,hlen]⟩,q⟩
 .obtain⟨XD,r',pl,hz⟩:=I.tuple hq;have hlen:=r'.length;exact len_tuple pl (by simp only[Ul]<;>omega) ⟨.int ys.length,H,I.tok _,⟨s.toks+1,by rw[Ul,hlen]⟩,q⟩
inductive Dt(K:W.Frag)(xs:ZQ)(H:Hp)(Q:VK):Prop
 | mk(p ys)(Vd:xs=[.ref p])(Vm:(Uq K H p ys\/Vn K H p ys))(U0:∀l,H l=none->Q (.ref l) (upd H l (.lst ys))):Dt K xs H Q
theorem P5:Y0 X (.type "list") (λxs H Q=>Dt X.K xs H Q):=by
 intro XB s Z H xs us Q I r h;obtain⟨p,ys,rfl,hq,q⟩:=h;obtain⟨u,rfl,rx⟩:=vals1 r;cases rx
 have fin:∀(XD:ZM),Zd ys XD->ys.length<=sizeLine->∀(h':Heap) (c':Nat),(∀b o',s.heap.get? b=some o'->h'.get? b=some o') ->
   h'.get? s.heap.objs.size=some { cls:=.type "list",dict:=none,data:=.seq XD.toArray c',slots:=#[] }->EP X XB Z Q (.ref s.heap.objs.size) { s with heap:=h' }:=λXD r' hz h' c' kp e =>
  ⟨.ref s.heap.objs.size,_,I.laid (t':=s.toks) kp (Vy _) (show Z4 X.prog X.w _ h' _ (.lst ys) from⟨hz,XD,c',r',e⟩),rfl,q _ (I.hok.fresh (Vy _))⟩
 rcases hq with hq | hq
 .obtain⟨XD,r',pl,hz⟩:=I.list hq;have hlen:=r'.length;obtain⟨o,ho,hc,n,hd⟩:=pl.isList;exact call_list_seq p (.inl rfl) ho hc hd (λh' c' kp e=>fin XD r' hz h' c' kp e) (by simp only[Ul]<;>omega)
 .obtain⟨XD,r',pl,hz⟩:=I.tuple hq;have hlen:=r'.length;obtain⟨o,ho,hc,n,hd⟩:=pl;exact call_list_seq p (.inr rfl) ho hc hd (λh' c' kp e=>fin XD r' hz h' c' kp e) (by simp only[Ul]<;>omega)
inductive Ge(K:W.Frag)(xs:ZQ)(H:Hp)(Q:VK):Prop
 | mk(p ys)(Vd:xs=[.ref p])(Vm:((Uq K H p ys/\∀l,H l=none->Q (.ref l) (upd H l (.tup ys)))\/(Vn K H p ys/\Q (.ref p) H))):Ge K xs H Q
theorem Lr:Y0 X (.type "tuple") (λxs H Q=>Ge X.K xs H Q):=by
 intro XB s Z H xs us Q I r h;obtain⟨p,ys,rfl,h⟩:=h;obtain⟨u,rfl,rx⟩:=vals1 r;cases rx;rcases h with ⟨hq,q⟩ | ⟨hq,q⟩
 .obtain⟨XD,r',pl,hz⟩:=I.list hq;have hlen:=r'.length;refine call_tuple_list pl.isList (λh' kp=>?_) (by simp only[Ul]<;>omega);have I1:Inv X XB Z H { s with heap:=h' }:=I.kept (t':=s.toks) kp
  have I2:Inv X XB Z (upd H h'.objs.size (.tup ys)) { s with heap:=h'.push { cls:=.type "tuple",data:=.seq XD.toArray } } :=
   I1.laid (t':=s.toks) (λb o e=>Vp _ e) (Vy _) (show Z4 X.prog X.w _ _ _ (.tup ys) from⟨hz,XD,r',Wa.new _ _⟩)
  exact⟨.ref h'.objs.size,_,I2,rfl,q _ (I1.hok.fresh (Vy _))⟩
 .obtain⟨XD,r',pl,hz⟩:=I.tuple hq;exact call_tuple_same pl ⟨.ref p,H,I,rfl,q⟩
def tyV(K:W.Frag)(T:String)(x:V)(H:Hp):Prop:=match x with
 | .str _=>T="str"
 | .int _=>T="int"
 | .ref p=>(T="list" /\ ∃xs,Uq K H p xs)\/(T="tuple" /\ ∃o,K.lookup p=some o/\o.cls=.type "tuple" /\ o.dict=none) \/
   (T="dict" /\ ((∃XM,H p=some (.dK XM))\/∃XM,H p=some (.dT XM)))\/(T="set" /\ ∃S n,H p=some (.set S n))
 | _=>False
theorem gk{XB:ZY}{Z:St}{H:Hp}{s:Shared}{T:String}{x:V}{v:Value}(I:Inv X XB Z H s)(r:RelV x v)(ty:tyV X.K T x H) :
  s.TypeIs v T/\∀a,v=.ref a->∃ob,s.heap.get? a=some ob/\ob.dict=none:=by
 cases x with
 | str z =>
  obtain⟨t,rfl⟩:=r;cases(show T="str" from ty);exact⟨typeIs_str s z t,λ_ e=>nomatch e⟩
 | int i =>
  obtain⟨t,rfl⟩:=r;cases(show T="int" from ty);exact⟨typeIs_int s i t,λ_ e=>nomatch e⟩
 | ref p =>
  cases r;rcases ty with ⟨rfl,xs,hq⟩ | ⟨rfl,o,hk,hc,hd⟩ | ⟨rfl,hk⟩ | ⟨rfl,S,n,hk⟩
  .obtain⟨XD,_,pl,_⟩:=I.list hq;refine⟨pl.isList.typeIs,λa e=>?_⟩;cases e;obtain⟨o,n,e,c,hd,_⟩:=pl;exact⟨o,e,hd⟩
  .refine⟨⟨o,I.kIn p o hk,hc⟩,λa e=>?_⟩;cases e;exact⟨o,I.kIn _ o hk,hd⟩
  .have z:∃o,s.heap.get? p=some o/\o.ExactDict:=by
    rcases hk with ⟨XM,hk⟩ | ⟨XM,hk⟩
    .obtain⟨_,_,_,_,o,_,_,e,ex,_⟩:=I.hok p _ hk;exact⟨o,e,ex⟩
    .obtain⟨_,_,_,_,o,_,_,e,ex,_⟩:=I.hok p _ hk;exact⟨o,e,ex⟩
   obtain⟨o,e,ex⟩:=z;refine⟨⟨o,e,ex.1⟩,λa e2=>?_⟩;cases e2;exact⟨o,e,ex.2.1⟩
  .obtain⟨o,_,_,_,e,ex,_⟩:=I.hok p _ hk;refine⟨⟨o,e,ex.1⟩,λa e2=>?_⟩;cases e2;exact⟨o,e,ex.2.1⟩
 | _=>exact False.elim ty
def tBM0(K:W.Frag)(T:String)(r:V->ZQ->Hp->VK->Prop)(to:TE):TE:=λZ H Q=>to Z H λx H1=>tyV K T x H1/\r x [] H1 Q
def tBM(K:W.Frag)(T:String)(r:V->ZQ->Hp->VK->Prop)(to:TE)(t:TA):TE:=λZ H Q=>to Z H λx H1=>tyV K T x H1/\t Z H1 λxs H2=>r x xs H2 Q
variable{o e:Expr}{es:ZC}{to:TE}{t:TA}{name:Str}{apos cpos:Pos}{T id:String}{r:V->ZQ->Hp->VK->Prop}
theorem pe_bm0(pa:PlainAttrs T)(slot:Slot T name id)(hty:typeOf (.builtin id)=pure (.type "method_descriptor"))(hm:MtR X id r)(ho:PE X o to)
  (Dk:attributeBase o name X.env (eval o X.env)=eval o X.env:=by rfl) (Dy:(apos.endLine==cpos.line)=true:=by rfl):PE X (.Call (.Attribute o name apos) [] [] cpos) (tBM0 X.K T r to):=by
 intro XB s Z H Q I h;refine wpAny_Call_method0_late Dk Dy (Yj (ho XB s Z H _ I h) λv s1 ⟨x,H1,I1,r1,ty,q1⟩=>?_);obtain⟨h1,h2⟩:=gk I1 r1 ty;exact⟨T,id,pa,slot,hty,h1,h2,Calls.callWith_builtin rfl (PySem.evalArgs_none (hm XB s1 Z H1 x [] v [] Q I1 r1 .nil q1))⟩
theorem Sk(pa:PlainAttrs T)(slot:Slot T name id)(hty:typeOf (.builtin id)=pure (.type "method_descriptor"))(hm:MtR X id r)(ho:PE X o to)(ha:PA X (e::es) t)
  (Dk:attributeBase o name X.env (eval o X.env)=eval o X.env:=by rfl)
  (hfew:((backTo cpos (starEach (e::es) X.env)).all (λx=>!x.1)&&(backToKw cpos (keywordEach [] X.env)).all (λx=>x.1.isSome)
   && decide ((e::es).length+([]:List Keyword).length+(if ([]:List Keyword).isEmpty then 0 else 1)<30))=true:=by rfl)
  (Dy:(apos.endLine==cpos.line)=true:=by rfl) (hs:starEach (e::es) X.env=(false,eval e X.env)::starEach es X.env:=by rfl) (hplain:(backTo cpos (starEach es X.env)).any (·.1)=false:=by rfl) :
  PE X (.Call (.Attribute o name apos) (e::es) [] cpos) (tBM X.K T r to t):=by
 intro XB s Z H Q I h;refine wpAny_Call_method_late Dk hfew Dy rfl (Yj (ho XB s Z H _ I h) λv s1 ⟨x,H1,I1,r1,ty,q1⟩=>?_);obtain⟨h1,h2⟩:=gk I1 r1 ty;refine⟨T,id,pa,slot,hty,h1,h2,?_⟩;have hA:=ha cpos XB s1 Z H1 _ I1 q1;rw[hs]at hA ⊢;refine Calls.callWith_builtin (by show (false || (backTo cpos (starEach es X.env)).any (·.1))=false;rw[hplain]<;>rfl) (Calls.evalArgs_plain ?_);exact Yj hA λus s2 ⟨vs,H2,I2,r2,q2⟩=>hm XB s2 Z H2 x vs v us Q I2 r1 r2 q2
end
def MtM(X:Cx)(id:String)(r:V->ZQ->Hp->VK->Prop):Prop :=
 ∀(XB:ZY) (s:Shared) (Z:St) (H:Hp) (x:V) (xs:ZQ) (v:Value) (us:ZM) (Q:VK),Inv X XB Z H s->RelV x v->Zd xs us->r x xs H Q ->
  wpAny (model X.prog X.w) X.A (call (.builtin id) (v::us)) (EP X XB Z Q) X.xe s
theorem Zd.one:∀{x:V} {us:ZM},Zd [x] us->∃u,us=[u]/\RelV x u
 | _,_,.cons r .nil=>⟨_,rfl,r⟩
theorem Zd.zero:∀{us:ZM},Zd [] us->us=[]
 | _,.nil=>rfl
theorem Zd.dropLast{xs:ZQ}{us:ZM}(h:Zd xs us):Zd xs.dropLast us.dropLast:=by
 induction h with
 | nil=>exact .nil
 | cons r t ih =>
  cases t with
  | nil=>exact .nil
  | cons q t'=>exact .cons r ih
theorem Zd.eraseIdx:∀{xs:ZQ} {us:ZM} (i:Nat),Zd xs us->Zd (xs.eraseIdx i) (us.eraseIdx i)
 | _,_,_,.nil=>.nil
 | _,_,0,.cons _ t=>t
 | _,_,i+1,.cons r t=>.cons r (Zd.eraseIdx i t)
theorem A0{Z:Type}(l:List Z):l.eraseIdx (l.length-1)=l.dropLast:=by
 induction l with
 | nil=>rfl
 | cons a r ih =>
  cases r with
  | nil=>rfl
  | cons b r =>
   have e:(a::b::r).length-1=((b::r).length-1)+1:=by
    have h1:(a::b::r).length=r.length+2:=rfl;have h2:(b::r).length=r.length+1:=rfl;omega
   rw[e,List.eraseIdx_cons_succ,ih]
   all_goals rfl
theorem Fq{Z:Type}:∀(l:List Z) (i:Nat),(l.eraseIdx i).length<=l.length
 | [],_=>Vy _
 | _::_,0=>Nat.le_succ _
 | _::r,i+1=>Nat.succ_le_succ (Fq r i)
section
variable{X:Cx}{XB:ZY}{Z:St}{H:Hp}{s:Shared}{l b:Addr}{xs ys zs:ZQ}
theorem Inv.lset{XD its':ZM}{n:Nat}{f:ZN->ZN}{t':Nat}(I:Inv X XB Z H s)(hH:H l=some (.lst xs))
  (e:s.heap.get? l=some { cls:=.type "list",data:=.seq XD.toArray n }) (hf:f XD.toArray=its'.toArray) (hv:Zd ys its') (hz:ys.length<=sizeLine) :
  Inv X XB Z (upd H l (.lst ys)) { s with heap:=s.heap.update l (Obj.mapSeq f),toks:=t' }:=by
 have q:=PySem.IsL.update e f;rw[hf]at q;refine I.write (x:=l) (e:=l) (by rw[hH];exact trivial) (.inl rfl) (λb' u hb hu=>(Heap.get?_update_other s.heap (Obj.mapSeq f) (Ne.symm hb)).trans hu) ⟨_,q⟩ ?_;exact⟨hz,its',_,hv,q⟩
theorem Inv.lnew{XD:ZM}{t':Nat}(I:Inv X XB Z H s)(hv:Zd ys XD)(hz:ys.length<=sizeLine) :
  Inv X XB Z (upd H s.heap.objs.size (.lst ys)) { s with heap:=s.heap.push { cls:=.type "list",data:=.seq XD.toArray },toks:=t' } :=
 I.laid (λ_ _ q=>Vp _ q) (Vy _) ⟨hz,XD,0,hv,Mp _ rfl⟩
theorem Inv.fresh(I:Inv X XB Z H s):H s.heap.objs.size=none:=I.hok.fresh (Vy _)
theorem Inv.lstM(I:Inv X XB Z H s)(hH:H l=some (.lst xs)):xs.length<=sizeLine/\∃(XD:ZM) (n:Nat),Zd xs XD/\xs.length=XD.length/\s.heap.get? l=some { cls:=.type "list",data:=.seq XD.toArray n }:=by
 obtain⟨z,XD,n,r,e⟩:=I.hok l _ hH;exact⟨z,XD,n,r,r.length,e⟩
theorem lq{n:Nat}(h:n<=sizeLine):Builtin.List.listTooLong n=false:=by
 unfold Builtin.List.listTooLong;exact Bf XS
end
section
variable{X:Cx}
inductive L8(x:V)(vs:ZQ)(H:Hp)(Q:VK):Prop
 | mk(l xs y)(Vd:x=.ref l)(Vm:vs=[y])(U0:H l=some (.lst xs))(Lg:xs.length<sizeLine)(xg:Q .non (upd H l (.lst (xs++[y])))):L8 x vs H Q
def Zzi:V->ZQ->Hp->VK->Prop:=λx vs H Q=>L8 x vs H Q
theorem Fx:MtM X "list.append" Zzi:=by
 intro XB s Z H x vs v us Q I rx rv h;obtain⟨l,xs,y,rfl,rfl,hH,hz,q⟩:=h;cases rx;obtain⟨u,rfl,ru⟩:=rv.one;obtain⟨z,XD,n,r,hl,e⟩:=I.lstM hH;refine call_meets F.slot_list_append ⟨_,e,rfl⟩ F.entry_list_append (F.args_list_append_2 _ _) (PySem.list_append l XD.toArray n u (by rw[Ul];omega)) ⟨e,?_⟩;refine⟨.non,_,I.lset (its':=XD++[u]) hH e XA (r.append (.cons ru .nil)) ?_,rfl,q⟩;rw[W7,ZI];omega
inductive dv(x:V)(vs:ZQ)(H:Hp)(Q:VK):Prop
 | mk(l xs y)(Vd:x=.ref l)(Vm:vs=[])(U0:H l=some (.lst xs))(Lg:xs[xs.length-1]?=some y)(xg:Q y (upd H l (.lst xs.dropLast))):dv x vs H Q
def rPop:V->ZQ->Hp->VK->Prop:=λx vs H Q=>dv x vs H Q
theorem mt_pop:MtM X "list.pop" rPop:=by
 intro XB s Z H x vs v us Q I rx rv h;obtain⟨l,xs,y,rfl,rfl,hH,hy,q⟩:=h;cases rx;have hus:=rv.zero;subst hus;obtain⟨z,XD,n,r,hl,e⟩:=I.lstM hH;obtain⟨u,hu,ru⟩:=r.get hy
 have hy':XD.toArray[XD.toArray.size-1]?=some u:=by
  show XD.toArray[XD.length-1]?=some u;rw[<-Array.getElem?_toList, <-hl];exact hu
 refine call_meets F.slot_list_pop ⟨_,e,rfl⟩ F.entry_list_pop (F.args_list_pop_1 _) (MeetsSeq.list_pop_last l XD.toArray n u hy' (by rw[Ul];omega)) ⟨e,?_⟩;refine⟨y,_,I.lset (its':=XD.dropLast) hH e ?_ r.dropLast ?_,ru,q⟩
 .show XD.toArray.eraseIdxIfInBounds (XD.toArray.size-1)=XD.dropLast.toArray;rw[Ul,List.eraseIdxIfInBounds_toArray,A0]
 .rw[List.length_dropLast];omega
inductive O9(x:V)(vs:ZQ)(H:Hp)(Q:VK):Prop
 | mk(l xs i k y)(Vd:x=.ref l)(Vm:vs=[.int i])(U0:H l=some (.lst xs))(Lg:-(2 ^ 63)<=i)(xg:i<2 ^ 63)(h5_:seqIndex? i xs.length=some k)(h6_:xs[k]?=some y)(h7_:Q y (upd H l (.lst (xs.eraseIdx k)))):O9 x vs H Q
def rPopAt:V->ZQ->Hp->VK->Prop:=λx vs H Q=>O9 x vs H Q
theorem ls:MtM X "list.pop" rPopAt:=by
 intro XB s Z H x vs v us Q I rx rv h;obtain⟨l,xs,i,k,y,rfl,rfl,hH,h1,h2,hk,hy,q⟩:=h;cases rx;obtain⟨u,rfl,ru⟩:=rv.one;obtain⟨t,rfl⟩:=ru;obtain⟨z,XD,n,r,hl,e⟩:=I.lstM hH;obtain⟨w,hw,Qc⟩:=r.get hy
 refine call_meets F.slot_list_pop ⟨_,e,rfl⟩ F.entry_list_pop (F.args_list_pop_2 _ _)
  (MeetsSeq.list_pop_at l XD.toArray n i t k w (fitsIndex_both h1 h2) (by rw[Ul, <-hl];exact hk) (by rw[<-Array.getElem?_toList];exact hw) (by rw[Ul];omega)) ⟨e,?_⟩
 refine⟨y,_,I.lset (its':=XD.eraseIdx k) hH e ?_ (r.eraseIdx k) ?_,Qc,q⟩
 .show XD.toArray.eraseIdxIfInBounds k=(XD.eraseIdx k).toArray;rw[List.eraseIdxIfInBounds_toArray]
 .have:=Fq xs k;omega
theorem len_rep{Z:Type}(xs:List Z)(k:Nat):(List.replicate k xs).flatten.length=k*xs.length:=by
 induction k with
 | zero=>simp
 | succ k ih=>rw[List.replicate_succ,List.flatten_cons,W7,ih,Nat.succ_mul,Nat.add_comm]
end
section
variable{prog:Program}{w:World}{A:Around}{E:ZW}{s:Shared}
end
section
variable{X:Cx}
end
end L2
namespace Att
open PySem PySem.W PySem.Calls PyProof.Rows
theorem Cg{P:Params}{h:Heap}:∀(ns:ZL) (vs:ZM),WellAll P h vs (ns.map WData.int)->IntsAre vs ns:=by
 intro ns
 induction ns with
 | nil =>
  intro vs w;rw[List.map_nil]at w;cases w;exact .nil
 | cons n ns ih =>
  intro vs w;rw[C9]at w;cases w with
  | cons a b =>
   cases a;exact .cons _ _ (ih _ b)
theorem jw{l:OpenLaw}{n:Nat}(hn:l.most=some n){P:Params}{h:Heap}{args:List WData}{vals:ZM}
  (Zqh:l.row.toRowW.claim.pre args=true) (hwl:WellAll P h vals args) :
  ∃a vs ns,vals=[Value.ref a]/\args=[WData.list (ns.map WData.int)]/\h.get? a=some { cls:=.type "list",data:=.seq vs.toArray }/\IntsAre vs ns/\ns.length<=n:=by
 have hsh:WShape.hasAll [] args [.list .int]=true:=(pre_splitW Zqh).1;have hc:l.pre.holds [] { args:=args }=true:=(pre_splitW Zqh).2;obtain⟨d,r,rfl,h1,h2⟩:=hasAllW_cons hsh;obtain rfl:=hasAllW_nil h2;obtain⟨xs,rfl,h3⟩:=hasW_list h1;obtain⟨ns,rfl⟩:=items_int h3
 have hlen:ns.length<=n:=by
  unfold OpenLaw.pre at hc
  have h4:(WTm.not (.lt (.lit (.int (n:Int))) (.len (.arg 0)))).holds [] { args:=[.list (ns.map .int)] }=true:=by
   have h4:=(holds_andW hc).1;rw[hn]at h4;exact h4
  have h5:=condW_of h4 (w_not (w_lt w_lit (w_len_list (w_arg rfl))));rw[Vq]at h5;refine Nat.le_of_not_lt λq=>?_;have q':(n:Int)<((ns.length:Nat):Int):=XS
  first
   | (rw[Mz q']at h5;exact absurd h5 XU)
   | (simp at h5;omega)
 cases hwl with
 | cons w1 w2 =>
  cases w2;cases w1 with
  | list ho hall=>exact⟨_,_,ns,rfl,rfl,ho,Cg ns _ hall,hlen⟩
theorem js(l:OpenLaw)(args:List WData):l.row.toRowW.claim.post args (.bool true) args=true :=
 postW_of (r:=l.row.toRowW) (X:=(true==true))
  (show WShape.has [] (.bool true) .bool=true by first | rfl | decide | simp[WShape.has,WShape.arms,WShape.armsAll])
  (show (WTm.eq .res (.lit (.bool true))).value [] { args:=args,res:=some (.bool true),after:=args }=some (.bool (true==true)) from w_eq_bool (w_res rfl) w_lit) rfl
theorem Kw{l:OpenLaw}{n:Nat}{q:Program}{loose:ZD}{XP:(ZV)->Heap->Prop}{YP:World->Heap->Prop}{d:DefRec}
  (hn:l.most=some n) (hdf:d.params.defaults=[])
  (call:∀(w:World) (s₀ s₁:Shared) (mg mb:ZV) (fa:Addr) (o:Obj) (pm cd doc:Value) (a:Addr) (vs:ZM) (ns:ZL),
   Ground q loose [] XP w s₀ mg mb s₁.heap->YP w s₁.heap ->
   s₁.heap.get? fa=some o->o.data=.func (docDef d.name d.params d.body d.scope pm cd doc)->s₁.heap.CodeRec cd d.name->mg d.name=some (.ref fa) ->
   s₁.heap.get? a=some { cls:=.type "list",data:=.seq vs.toArray }->IntsAre vs ns->ns.length<=n->s₁.gens=#[] ->
   codeAny (model l.prog w) callerA (.call (.ref fa) ⟨[.ref a],[]⟩) (λr s'=>r=.ok (.ret (.bool true))/\OldK s₁.heap s'.heap/\s'.os=s₁.os/\AllBare s'.gens) s₁) :
  WalkO q loose XP YP l.row.toRowW d [] (λf vs=>PySem.call f vs):=by
 intro w s₀ s₁ mg mb G Y fa o pm cd doc dV kV ho hd Pz hD hmg hg args vals as Zqh hlay hrd hwl hlo;obtain rfl:dV=.none:=Dflts.none hD hdf;obtain rfl:kV=.none:=Dflts.noKw hD;obtain⟨a,vs,ns,rfl,rfl,hobj,hints,hlen⟩:=jw hn Zqh hwl;refine enter_call (codeAny_mono (call w s₀ s₁ mg mb fa o pm cd doc a vs ns G Y ho (fd_plain hd) Pz hmg hobj hints hlen hg) λr s' hq=>?_);obtain⟨rfl,h2,h3,h4⟩:=hq;exact⟨.inl ⟨.bool true,.bool true,[],rfl,λ_=>rfl,.bool true,js l _,λ_=>⟨List.Pairwise.nil,λ_ hm=>(nomatch hm)⟩⟩,h2,h3,h4⟩
section
variable{prog:Program}{w:World}{A:Around}{E:ZW}{s:Shared}{K:Frag}
end
end Att
namespace L2
open PySem PySem.Spec PyProof.Rows
theorem Bm:∀{vs:ZM} {ns:ZL},IntsAre vs ns->Zd (ns.map V.int) vs
 | _,_,.nil=>.nil
 | _,_,.cons n t h=>.cons ⟨t,rfl⟩ (Bm h)
def Only(H:Hp):Prop:=∀b,H b=none\/∃o xs,H b=some (.frz o (.lst xs))
theorem rj{P:Program}{w:World}{K:W.Frag}{mg mb:ZV}{CX:qv}{k:Nat}{fa a:Addr}{fd:FuncData}{x:Str}{sp:Sp}{s₁:Shared}{vs:ZM}{ns:ZL}
  (KX:K.In s₁.heap) (a9:s₁.heap.Ns mainGlobals mg) (hb:s₁.heap.Ns builtinsNs mb) (hbb:∀x:Str,x ≠ "__name__" -> mb x=bootBuiltins x) (hlim:s₁.heap.NoLimit) (hg:s₁.gens=#[])
  (ha:s₁.heap.get? a=some { cls:=.type "list",data:=.seq vs.toArray }) (hi:IntsAre vs ns) (hl:ns.length<=sizeLine) (hr:Ue k callerA)
  (F:∀base:Heap,K.In base->base.Ns mainGlobals mg->J4 P w K mg base CX k fa fd [x] sp) (hbind:∀(s:Shared) (u:Value),BindsTo s fd ⟨[u],[]⟩ [(x,u)])
  (ai:∀H:Hp,Only H->Uq K H a (ns.map V.int)->sp [.ref a] H (λv _=>v=.bl true) λ_ _ _=>False)
  (hCX:∀H e s',CX [] H s₁ (λ_ _ _=>False) e s'->False) :
  codeAny (model P w) callerA (.call (.ref fa) ⟨[.ref a],[]⟩) (λr s'=>r=.ok (.ret (.bool true))/\OldK s₁.heap s'.heap/\s'.os=s₁.os/\AllBare s'.gens) s₁:=by
 have rv:=Bm hi;have lenV:=hi.length
 have core:∀H:Hp,Only H->Uq K H a (ns.map V.int)->Nx P w H s₁.heap->(∀b,H b≠none->b=a)->(H a≠none->K.lookup a=none) ->
   codeAny (model P w) callerA (.call (.ref fa) ⟨[.ref a],[]⟩) (λr s'=>r=.ok (.ret (.bool true))/\OldK s₁.heap s'.heap/\s'.os=s₁.os/\AllBare s'.gens) s₁:=by
  intro H hO hS hok hA hK;have Bw:∀{b:Addr} {o:Obj},s₁.heap.get? b=some o->H b=none->(Q9 s₁.heap H).get? b=some o:=λe n=>sk e n
  have noA:∀{b:Addr} {o:Obj} {es:Array DictEntry} {ep:Nat},s₁.heap.get? b=some o->o.data=.dict es ep->H b=none:=λ{b o es ep} e d=>by
   cases q:H b with
   | none=>rfl
   | some u =>
    have e':b=a:=hA b (by rw[q];simp);subst e';rw[ha]at e;cases e;have d':Data.seq vs.toArray _=Data.dict es ep:=d;cases d'
  have nsK:∀{b:Addr} {m:ZV},s₁.heap.Ns b m->(Q9 s₁.heap H).Ns b m:=λ{b m} ⟨o,es,ep,e,d,r⟩=>⟨o,es,ep,Bw e (noA e d),d,r⟩
  have hKb:K.In (Q9 s₁.heap H):=λb o e=>Bw (KX b o e) (by
   cases q:H b with
   | none=>rfl
   | some u =>
    have e':b=a:=hA b (by rw[q];simp);subst e';rw[hK (by rw[q];simp)]at e;cases e)
  have hM:Mod K mg (Q9 s₁.heap H):=⟨hKb,nsK a9,⟨mb,nsK hb,hbb⟩,let ⟨mc,h1,h2⟩:=hlim;⟨mc,nsK h1,h2⟩⟩;have e0:Ie P w K mg (Q9 s₁.heap H) callerA [] s₁ H:=⟨rfl,hM,λb o e=>Zx0 e,Nat.le_of_eq (w8 _ _),trivial,λb hb=>absurd (show b∈([]:ZU) from hb) XA,hok,.of_eq hg⟩;refine codeAny_mono ((F _ hKb (nsK a9)).run callerA [] s₁ H ⟨[.ref a],[]⟩ [.ref a] [.ref a] _ _ hr e0 (hbind s₁ (.ref a)) (.cons rfl .nil) (ai H hO hS)) λr s' h=>?_;cases r with
  | error e=>exact(hCX H e s' h).elim
  | ok fl =>
   cases fl with
   | next=>exact False.elim h
   | brk=>exact False.elim h
   | cont=>exact False.elim h
   | ret u =>
    obtain⟨v,H',os,bare,un,hok',r',q⟩:=h;have q':v=.bl true:=q;subst q';obtain rfl:u=Value.bool true:=r';refine⟨rfl,OldK.of_keep λb o e=>?_,os,bare⟩;cases q:H b with
    | none=>exact un.keep b o e q (by intro z;exact absurd (show b∈([]:ZU) from z) XA) XA
    | some u =>
     rcases hO b with z | ⟨ob,xs,z⟩
     .rw[q]at z;cases z
     .have z2:=un.frzs b ob _ z;obtain⟨e1,_⟩:=hok b _ z;obtain⟨e2,_⟩:=hok' b _ z2;rw[e]at e1;cases e1;exact e2
 cases hk:K.lookup a with
 | some o =>
  have e:=KX a o hk;rw[ha]at e;cases e;refine core (λ_=>none) (λ_=>.inl rfl) (.inr ⟨_,vs.toArray,_,hk,rfl,rfl,rfl,by rw[Ul,lenV];exact hl,by simpa using rv⟩) (λb u z=>by have z':(none:Option HO)=some u:=z;cases z') (λb z=>absurd rfl z) λz=>absurd rfl z
 | none =>
  refine core (λb=>if b=a then some (.frz { cls:=.type "list",data:=.seq vs.toArray } (.lst (ns.map V.int))) else none) (λb=>?_) (.inl (.inr ⟨{ cls:=.type "list",data:=.seq vs.toArray },if_pos rfl⟩)) (λb u z=>?_) (λb z=>?_) λ_=>hk
  .by_cases hb:b=a
   .exact .inr ⟨_,_,if_pos hb⟩
   .exact .inl (if_neg hb)
  .by_cases hb:b=a
   .have z':=(if_pos hb).symm.trans z;cases z';subst hb;exact⟨ha,by rw[Vq];exact hl,vs,_,rv,ha⟩
   .have z':=(if_neg hb).symm.trans z;cases z'
  .by_cases hb:b=a
   .exact hb
   .exact absurd (if_neg hb) z
theorem oa{l:W.OpenLaw}{n k:Nat}{q:Program}{loose:ZD}{XP:(ZV)->Heap->Prop}{YP:World->Heap->Prop}{d:DefRec}{K:Params->W.Frag}{CX:World->qv}{sp:World->Sp}{x:Str}
  (hn:l.most=some n) (hn2:n<=sizeLine) (hdf:d.params.defaults=[]) (hr:Ue k callerA)
  (hY:∀(w:World) (h:Heap),YP w h->(K w.params).In h)
  (F:∀(w:World) (mg:ZV) (fa:Addr) (h:Heap),(K w.params).In h->h.Ns mainGlobals mg->mg d.name=some (.ref fa) ->
   ∃fd:FuncData,(∀(s:Shared) (u:Value),BindsTo s fd ⟨[u],[]⟩ [(x,u)]) /\
    ∀base:Heap,(K w.params).In base->base.Ns mainGlobals mg->J4 l.prog w (K w.params) mg base (CX w) k fa fd [x] (sp w))
  (ai:∀(w:World) (H:Hp) (a:Addr) (ns:ZL),ns.length<=n->Only H->Uq (K w.params) H a (ns.map V.int)->sp w [.ref a] H (λv _=>v=.bl true) λ_ _ _=>False)
  (hCX:∀(w:World) (H:Hp) (s:Shared) (e:Value) (s':Shared),CX w [] H s (λ_ _ _=>False) e s'->False) :
  W.WalkO q loose XP YP l.row.toRowW d [] (λf vs=>PySem.call f vs):=by
 refine Att.Kw hn hdf λw s₀ s₁ mg mb fa o pm cd doc a vs ns G Y ho hd Pz hmg hobj hints hlen hg=>?_;have KX:=hY w _ Y;obtain⟨fd,hb,hF⟩:=F w mg fa _ KX G.T.g hmg;exact rj KX G.T.g G.T.b G.T.builtins G.T.nolimit hg hobj hints (Tg hlen hn2) hr hF hb (λH hO hS=>ai w H a ns hlen hO hS) λH e s'=>hCX w H s₁ e s'
abbrev qy:qv:=λ_ _ _ _ _ _=>False
abbrev E0:XK:=λ_ _ _=>False
theorem Zwj{X:Cx}:Iu qy X E0:=λ_ _ _ _ _ _ _ h=>h.elim
structure Fun(K:W.Frag)(x qual:Str)(st:Stmt)(f:Addr)(fd:FuncData):Prop where
 ex:∃(oc:Value) (od:ZP) (kV doc pm:Value) (an:ZP) (cdv ct:Value) (osl:ZF),
  fd=W.fnOf x qual (Uy st) (Yp st) (Zv st) .none kV doc pm an cdv ct/\K.lookup f=some ⟨oc,od,.func fd,osl⟩/\W.codeIn K cdv qual=true
 kp:W.keepIn K (.ref f)=true
section
variable{P:Program}{w:World}{K:W.Frag}{mg:ZV}{base:Heap}
theorem Fun.ok{x qual:Str}{st:Stmt}{f:Addr}{fd:FuncData}{N ps:ZD}{k:Nat}{sp:Sp}(F:Fun K x qual st f fd)(S:Ud N ps (Zv st))(len:∀vs H Q E,sp vs H Q E->vs.length=ps.length)
  (Ex:∀(cdv:Value) (A:Around) (outer:List Env) (s:Shared) (H:Hp) (vs:ZQ) (Q:VK) (E:XK),Ue k (A.deeper (envOfC qual (Zv st) s.heap.objs.size f cdv))->sp vs H Q E ->
   ∃t,Wo (Ea qy P w K mg base N qual (Zv st) f cdv A outer s H E).nox (Yp st) t/\t { nx:=λ_ H'=>Q .non H',rt:=Q } (start N vs) H):J4 P w K mg base qy (k+1) f fd ps sp:=by
 obtain⟨oc,od,kV,doc,pm,an,cdv,ct,osl,rfl,lk,Pz⟩:=F.ex;refine Zwc lk Pz S len λA outer s H vs Q E hr ai=>?_;obtain⟨t,h,q⟩:=Ex cdv A outer s H vs Q E hr ai;exact⟨t,h.nox,q⟩
theorem Fun.binds{x qual:Str}{st:Stmt}{f:Addr}{fd:FuncData}{ps:ZD}(F:Fun K x qual st f fd)
  (h:∀(kV doc pm:Value) (an:ZP) (cdv ct:Value) (us:ZM),us.length=ps.length->bindArgs (W.fnOf x qual (Uy st) (Yp st) (Zv st) .none kV doc pm an cdv ct) ⟨us,[]⟩=pure (ps.zip us)):Binds K fd ps []:=by
 obtain⟨oc,od,kV,doc,pm,an,cdv,ct,osl,rfl,lk,Pz⟩:=F.ex;exact .all (h kV doc pm an cdv ct)
theorem Zg{x qual:Str}{st:Stmt}{f:Addr}{oc:Value}{od an:ZP}{osl:ZF}{kV doc pm cdv ct:Value}(l:K.lookup f=some ⟨oc,od,.func (W.fnOf x qual (Uy st) (Yp st) (Zv st) .none kV doc pm an cdv ct),osl⟩)
  (c:W.codeIn K cdv qual=true) (k:W.keepIn K (.ref f)=true):Fun K x qual st f (W.fnOf x qual (Uy st) (Yp st) (Zv st) .none kV doc pm an cdv ct):=⟨⟨oc,od,kV,doc,pm,an,cdv,ct,osl,rfl,l,c⟩,k⟩
end
theorem hu_of{A:Around}{k:Nat}(hr:Ue k A):A.units+1<cLine:=Nat.lt_of_le_of_lt (Nat.add_le_add_left (by decide:1<=64) _) hr.units
section
variable{X:Cx}
theorem pv(i:Nat){x:Str}{pos:Pos}(hN:X.N[i]?=some x:=by rfl)(hv:Vis X.env.scope x:=by first | exact Or.inl rfl | exact Or.inr (Or.inl rfl) | exact Or.inr (Or.inr rfl))(hd:(x==("__debug__" : Str))=false:=by decide)
  (Pz:(x==("__classdict__" : Str))=false:=by decide):PE X (.Name x pos) (tVar i):=cz hN hv hd Pz
end
theorem iteF{A B:Prop}(h:B):if false=true then A else B:=by
 rw[if_neg Nj];exact h
theorem Zqt{A B:Prop}(h:A):if true=true then A else B:=by
 rw[if_pos rfl];exact h
def Zp(H H':Hp):Prop:=∀b o,H b=some o->H' b=some o
theorem Zp.refl(H:Hp):Zp H H:=λ_ _ h=>h
theorem Zp.trans{H H1 H2:Hp}(a:Zp H H1)(b:Zp H1 H2):Zp H H2:=λc o h=>b c o (a c o h)
theorem Zp.free{H H':Hp}(e:Zp H H'){l:Addr}(h:H' l=Option.none):H l=Option.none:=by
 cases q:H l with
 | none=>rfl
 | some o =>
  rw[e l o q]at h;cases h
theorem Zp.seq{K:W.Frag}{H H':Hp}{a:Addr}{xs:ZQ}(e:Zp H H')(h:Uq K H a xs):Uq K H' a xs:=by
 rcases h with (h | ⟨o,h⟩) | h
 .exact .inl (.inl (e _ _ h))
 .exact .inl (.inr ⟨o,e _ _ h⟩)
 .exact .inr h
section
variable{X:Cx}{XB:ZY}{Z:St}{H:Hp}{s:Shared}
end
theorem rcEq_V{A:Around}{s:Shared}{y x:V}{u v:Value}(ry:RelV y u)(rx:RelV x v)(fy:Ji y=true)(fx:Ji x=true):SeqAt.RcAt A s u v ((oj y x)):=by
 cases y with
 | non =>
  cases ry;cases x with
  | non=>cases rx;exact SeqAt.RcAt.none_none
  | bl b=>cases rx;exact SeqAt.RcAt.none_bool b
  | int b=>obtain⟨t,rfl⟩:=rx;exact SeqAt.RcAt.none_int b t
  | str b=>obtain⟨t,rfl⟩:=rx;exact SeqAt.RcAt.none_str b t
  | _=>exact absurd (show false=true from fx) Nj
 | bl a =>
  cases ry;cases x with
  | non=>cases rx;exact SeqAt.RcAt.bool_none a
  | bl b=>cases rx;exact SeqAt.RcAt.bool_bool a b
  | int b=>obtain⟨t,rfl⟩:=rx;exact SeqAt.RcAt.bool_int a b t
  | str b=>obtain⟨t,rfl⟩:=rx;exact SeqAt.RcAt.bool_str a b t
  | _=>exact absurd (show false=true from fx) Nj
 | int a =>
  obtain⟨t',rfl⟩:=ry;cases x with
  | non=>cases rx;exact SeqAt.RcAt.int_none a t'
  | bl b=>cases rx;exact SeqAt.RcAt.int_bool a t' b
  | int b=>obtain⟨t,rfl⟩:=rx;exact SeqAt.RcAt.int_int a t' b t
  | str b=>obtain⟨t,rfl⟩:=rx;exact SeqAt.RcAt.int_str a t' b t
  | _=>exact absurd (show false=true from fx) Nj
 | str a =>
  obtain⟨t',rfl⟩:=ry;cases x with
  | non=>cases rx;exact SeqAt.RcAt.str_none a t'
  | bl b=>cases rx;exact SeqAt.RcAt.str_bool a t' b
  | int b=>obtain⟨t,rfl⟩:=rx;exact SeqAt.RcAt.str_int a t' b t
  | str b=>obtain⟨t,rfl⟩:=rx;exact SeqAt.RcAt.str_str a t' b t
  | _=>exact absurd (show false=true from fx) Nj
 | _=>exact absurd (show false=true from fy) Nj
theorem rcNe_V{A:Around}{s:Shared}{y x:V}{u v:Value}(ry:RelV y u)(rx:RelV x v)(fy:Ji y=true)(fx:Ji x=true):SeqAt.RcNeAt A s u v (!(oj y x)):=by
 cases y with
 | non =>
  cases ry;cases x with
  | non=>cases rx;exact SeqAt.RcNeAt.none_none
  | bl b=>cases rx;exact SeqAt.RcNeAt.none_bool b
  | int b=>obtain⟨t,rfl⟩:=rx;exact SeqAt.RcNeAt.none_int b t
  | str b=>obtain⟨t,rfl⟩:=rx;exact SeqAt.RcNeAt.none_str b t
  | _=>exact absurd (show false=true from fx) Nj
 | bl a =>
  cases ry;cases x with
  | non=>cases rx;exact SeqAt.RcNeAt.bool_none a
  | bl b=>cases rx;exact SeqAt.RcNeAt.bool_bool a b
  | int b=>obtain⟨t,rfl⟩:=rx;exact SeqAt.RcNeAt.bool_int a b t
  | str b=>obtain⟨t,rfl⟩:=rx;exact SeqAt.RcNeAt.bool_str a b t
  | _=>exact absurd (show false=true from fx) Nj
 | int a =>
  obtain⟨t',rfl⟩:=ry;cases x with
  | non=>cases rx;exact SeqAt.RcNeAt.int_none a t'
  | bl b=>cases rx;exact SeqAt.RcNeAt.int_bool a t' b
  | int b=>obtain⟨t,rfl⟩:=rx;exact SeqAt.RcNeAt.int_int a t' b t
  | str b=>obtain⟨t,rfl⟩:=rx;exact SeqAt.RcNeAt.int_str a t' b t
  | _=>exact absurd (show false=true from fx) Nj
 | str a =>
  obtain⟨t',rfl⟩:=ry;cases x with
  | non=>cases rx;exact SeqAt.RcNeAt.str_none a t'
  | bl b=>cases rx;exact SeqAt.RcNeAt.str_bool a t' b
  | int b=>obtain⟨t,rfl⟩:=rx;exact SeqAt.RcNeAt.str_int a t' b t
  | str b=>obtain⟨t,rfl⟩:=rx;exact SeqAt.RcNeAt.str_str a t' b t
  | _=>exact absurd (show false=true from fx) Nj
 | _=>exact absurd (show false=true from fy) Nj
section
variable{X:Cx}
end
abbrev aa:ZW:=λ_ _=>False
def Xk(ifs:ZC)(env:Env):Sem Bool :=
 forIn ifs true λc r=>if r=true then (isTrue c env (eval c env) >>= λb=>pure (ForInStep.yield b)) else pure (ForInStep.yield r)
section
variable(prog:Program)(w:World)(A:Around)(tg elt:Expr)(ifs:ZC)(env:Env)(it acc:Value)
def TurnEnd(nxt:Shared->Prop)(ok:Bool)(s:Shared):Prop :=
 if ok=true then wpAny (model prog w) A (eval elt env) (λy s1=>wpAny (model prog w) A (call (.builtin "list.append") [acc,y]) (λ_ s2=>nxt s2) aa s1) aa s else nxt s
def ue(nxt:Shared->Prop)(v:Value)(s:Shared):Prop :=
 wpAny (model prog w) A (letOwnedTupleGo tg it v) (λ_ s1=>wpAny (model prog w) A (assign tg env v) (λ_ s2=>wpAny (model prog w) A (Xk ifs env) (TurnEnd prog w A elt env acc nxt) aa s2) aa s1) aa s
end
theorem P0{prog:Program}{w:World}{A:Around}{R:Result->Shared->Prop}{s:Shared}{elt tg iter:Expr}{ifs:ZC}{scope:Scope}{pos:Pos}{it acc:Value}{env:Env}(W:Nat->Shared->Prop)
  (turn:∀m s1,W m s1->wpAny (model prog w) A (pyNext it) (λr s2=>r.elim (R (.ok .next) s2) λv=>ue prog w A tg elt ifs env it acc (λs3=>∃m',m'<m/\W m' s3) v s2) aa s1)
  (m:Nat) (start:W m s):codeAny (model prog w) A (.compLoop (.ListComp elt [⟨tg,iter,ifs,0⟩] scope pos) 0 it acc env) R s:=by
 refine codeAny_loop rfl W (λk s1 hw=>?_) m start;refine wpAny_noted (env:=env) (m:=compTurn (.ListComp elt [⟨tg,iter,ifs,0⟩] scope pos) 0 it acc env) ?_;rw[compTurn_list];refine Zt (wpAny_standAt (Zt (wpAny_mono (turn k s1 hw) (λr s2 q=>?_) λ_ _ z=>z.elim)));cases r with
 | none=>exact Yl q
 | some v =>
  have q:ue prog w A tg elt ifs env it acc (λs3=>∃m',m'<k/\W m' s3) v s2:=q;refine Zt (wpAny_mono q (λ_ s3 q3=>Zt (wpAny_mono q3 (λ_ s4 q4=>Zt (wpAny_mono q4 (λok s5 q5=>?_) λ_ _ z=>z.elim)) λ_ _ z=>z.elim)) λ_ _ z=>z.elim);cases ok with
  | false=>exact Yl ⟨rfl,q5⟩
  | true=>exact Zt (Zt (wpAny_mono q5 (λy s6 q6=>Zt (wpAny_mono q6 (λ_ s7 q7=>Yl (Yl ⟨rfl,q7⟩)) λ_ _ z=>z.elim)) λ_ _ z=>z.elim))
noncomputable def Y2(env:Env):ZK->List (Str×Addr)->List (Str×Addr)
 | [],cs=>cs
 | (n,k)::r,cs=>Y2 env r (if k==.free then (n,(env.cells.lookup n).getD 0)::cs else cs)
noncomputable def Yq(X:Cx)(scope:Scope)(N:ZD)(fp:ZU)(s:Shared)(H:Hp):Cx :=
 { X with N:=N,s₀:=s,H₀:=H,env:=compEnvC scope (Y2 X.env scope.names []) s.heap.objs.size X.env,outer:=X.stack,stack:=X.stack,ex:=fp,fn:=λ_=>false,pn:=[],xe:=aa }
structure I8(X:Cx)(scope:Scope)(N:ZD)(fr:ZG):Prop where
 clos:closureFor scope X.env=pure (Y2 X.env scope.names [])
 kind:scope.kind=.function
 nocell:∀y∈scope.names,y.2≠.cell
 names:∀y∈scope.names,y.2=.local->scope.names.lookup y.1=some .local
 cells:∀x c,(Y2 X.env scope.names []).lookup x=some c->X.env.cells.lookup x=some c
 has:∀x,((relabel scope X.env).names.lookup x=some .cell\/(relabel scope X.env).names.lookup x=some .free)->∃c,(Y2 X.env scope.names []).lookup x=some c
 len:fr.length=N.length
 fr:∀(i j:Nat),fr[i]?=some (some j)->∃x,N[i]?=some x/\X.N[j]?=some x/\Vis X.env.scope x/\¬ X.env.kindOf x=some .local/\((relabel scope X.env).names.lookup x=some .cell\/(relabel scope X.env).names.lookup x=some .free)
noncomputable def frees(fr:ZG)(Z:St):St:=fr.map λo=>o.bind λi=>(Z[i]?).bind id
theorem Gk(fr:ZG)(Z:St):(frees fr Z).length=fr.length:=Vq _
theorem vx{fr:ZG}{Z:St}{i:Nat}{v:V}(h:(frees fr Z)[i]?=some (some v)):∃j,fr[i]?=some (some j)/\Z[j]?=some (some v):=by
 unfold frees at h;rw[Oj]at h;cases e:fr[i]? with
 | none=>rw[e]at h;cases h
 | some o =>
  rw[e]at h;cases o with
  | none=>cases h
  | some j =>
   refine⟨j,rfl,?_⟩;have h':(Z[j]?).bind id=some v:=D8 h;cases e2:Z[j]? with
   | none=>rw[e2]at h';cases h'
   | some o2=>rw[e2]at h';exact congrArg some h'
theorem Tu{scope:Scope}{env:Env}{x:Str}{k:NameKind}(h:(relabel scope env).names.lookup x=some k):∃k0,(x,k0)∈scope.names/\(k=k0\/(k0=.free/\k=.cell)):=by
 have hm:=PySem.mem_of_lookup h;obtain⟨⟨n,k0⟩,h1,h2⟩:=Og.mp (show (x,k)∈scope.names.map _ from hm);dsimp only at h2
 split at h2
 .rename_i hc
  cases h2;simp only[Vl,beq_iff_eq]at hc;exact⟨k0,h1,.inr ⟨hc.1.1,rfl⟩⟩
 .cases h2;exact⟨k,h1,.inl rfl⟩
noncomputable def Ha(outer scope:Scope):Bool :=
 decide (scope.kind=.function)&&scope.names.all λy=>decide (y.2≠.cell)&&(decide (y.2≠.local) || decide (scope.names.lookup y.1=some .local)) &&
  (decide (y.2≠.free) || decide (outer.names.lookup y.1=some .cell) || decide (outer.names.lookup y.1=some .free))
noncomputable def Gg(NX:ZD)(names:ZK):ZD->ZG->Bool
 | [],[]=>true
 | _::N,none::fr=>Gg NX names N fr
 | x::N,some j::fr=>decide (NX[j]?=some x)&&decide (names.lookup x=some .free)&&Gg NX names N fr
 | _,_=>false
theorem N7{NX:ZD}{names:ZK}:∀{N:ZD} {fr:ZG},Gg NX names N fr=true->fr.length=N.length
 | [],[],_=>rfl
 | [],_::_,h=>by simp[Gg]at h
 | _::_,[],h=>by simp[Gg]at h
 | x::N,none::fr,h=>by
  simp only[Gg]at h;simp only[Rz,N7 h]
 | x::N,some j::fr,h=>by
  simp only[Gg,Vl]at h;simp only[Rz,N7 h.2]
theorem Jo{NX:ZD}{names:ZK}:∀{N:ZD} {fr:ZG} {i j:Nat},Gg NX names N fr=true->fr[i]?=some (some j)->∃x,N[i]?=some x/\NX[j]?=some x/\names.lookup x=some .free
 | [],[],_,_,_,e=>by simp at e
 | [],_::_,_,_,h,_=>by simp[Gg]at h
 | _::_,[],_,_,h,_=>by simp[Gg]at h
 | x::N,none::fr,0,_,_,e=>by simp at e
 | x::N,none::fr,i+1,j,h,e=>by
  simp only[Gg]at h;obtain⟨y,h1,h2⟩:=Jo (i:=i) h (by simpa using e);exact⟨y,by simpa using h1,h2⟩
 | x::N,some k::fr,0,j,h,e=>by
  simp only[Gg,Vl,decide_eq_true_eq]at h;simp at e;subst e;exact⟨x,rfl,h.1.1,h.1.2⟩
 | x::N,some k::fr,i+1,j,h,e=>by
  simp only[Gg,Vl]at h;obtain⟨y,h1,h2⟩:=Jo (i:=i) h.2 (by simpa using e);exact⟨y,by simpa using h1,h2⟩
theorem V9{f:Str->NameKind->NameKind}(x:Str):∀names:ZK,(names.map λp=>(p.1,f p.1 p.2)).lookup x=(names.lookup x).map (f x)
 | []=>rfl
 | (n,k)::r=>by
  have ih:=V9 (f:=f) x r;cases e:x==n with
  | false =>
   simp only[C9,List.lookup_cons,e];exact ih
  | true =>
   have e':x=n:=by simpa using e
   simp only[C9,List.lookup_cons,e,Option.map_some];rw[e']
theorem Mm(scope:Scope)(env:Env):(relabel scope env).names=scope.names.map λp=>(p.1,if (p.2==NameKind.free&&env.scope.kind==.function&&env.kindOf p.1==some .cell)=true then NameKind.cell else p.2):=by
 show scope.names.map _=_;refine List.map_congr_left λp _=>?_;obtain⟨n,k⟩:=p;dsimp only
 split<;>rfl
theorem Mx{scope:Scope}{env:Env}{x:Str}(h:scope.names.lookup x=some .free):(relabel scope env).names.lookup x=some .cell\/(relabel scope env).names.lookup x=some .free:=by
 rw[Mm,V9 (f:=λn k=>if (k==NameKind.free&&env.scope.kind==.function&&env.kindOf n==some .cell)=true then NameKind.cell else k),h];dsimp only[Option.map_some]
 split
 .exact .inl rfl
 .exact .inr rfl
theorem Wv{env:Env}:∀{names:ZK} {cs:List (Str×Addr)},(∀y∈names,y.2=.free->∃c,env.cells.lookup y.1=some c)->(∀p∈cs,env.cells.lookup p.1=some p.2)->∀p∈Y2 env names cs,env.cells.lookup p.1=some p.2
 | [],cs,_,hc,p,hp=>hc p hp
 | (n,k)::r,cs,hn,hc,p,hp=>by
  simp only[Y2]at hp;refine Wv (λy hy=>hn y (Uz _ hy)) (λq hq=>?_) p hp
  split at hq
  .rename_i hk
   rcases Y8.mp hq with e | hq
   .obtain⟨c,oq⟩:=hn (n,k) V4 (by simpa using hk);subst e;dsimp only at oq ⊢;rw[oq]
    rfl
   .exact hc q hq
  .exact hc q hq
theorem Ww{env:Env}:∀{names:ZK} {cs:List (Str×Addr)} {p:Str×Addr},p∈cs->p∈Y2 env names cs
 | [],_,_,h=>h
 | (n,k)::r,cs,p,h=>by
  simp only[Y2];refine Ww ?_
  split
  .exact Uz _ h
  .exact h
theorem Wy{env:Env}:∀{names:ZK} {cs:List (Str×Addr)} {x:Str},(x,NameKind.free)∈names->∃c,(x,c)∈Y2 env names cs
 | (n,k)::r,cs,x,h=>by
  rcases Y8.mp h with e | h
  .cases e;exact⟨_,by simp only[Y2,B0s,if_true];exact Ww V4⟩
  .simp only[Y2];exact Wy h
theorem Mc{Z:Type}:∀{l:List (Str×Z)} {x:Str} {b:Z},(x,b)∈l->∃c,l.lookup x=some c
 | (n,c)::r,x,b,h=>by
  cases hx:x==n with
  | true=>exact⟨c,by simp only[List.lookup_cons,hx]⟩
  | false =>
   rcases Y8.mp h with e | h
   .cases e;simp at hx
   .obtain⟨d,hd⟩:=Mc h;exact⟨d,by simp only[List.lookup_cons,hx];exact hd⟩
theorem Ll{scope:Scope}{env:Env}(h:∀y∈scope.names,y.2=.free->∃c,env.cells.lookup y.1=some c):closureFor scope env=pure (Y2 env scope.names []):=by
 have go:∀(names:ZK) (cs:List (Str×Addr)),(∀y∈names,y.2=.free->∃c,env.cells.lookup y.1=some c) ->
   (forIn names cs λx cs=>(do
    if x.2==NameKind.free then pure (ForInStep.yield ((x.1, <-cellOf env x.1)::cs)) else pure (ForInStep.yield cs):Sem (ForInStep (List (Str×Addr)))))=pure (Y2 env names cs):=by
  intro names
  induction names with
  | nil=>intro cs _;rfl
  | cons y r ih =>
   intro cs hn;obtain⟨n,k⟩:=y;have hr:∀y∈r,y.2=.free->∃c,env.cells.lookup y.1=some c:=λy hy=>hn y (Uz _ hy);rw[List.forIn_cons];by_cases hk:k=.free
   .subst hk;obtain⟨c,hc⟩:=hn (n,.free) V4 rfl
    have ec:cellOf env n=pure c:=by
     unfold cellOf;dsimp only at hc;rw[hc]
    simp only[B0s,if_true,ec,pure_bind,Y2];rw[ih _ hr];dsimp only at hc;rw[hc]
    rfl
   .have hb:(k==NameKind.free)=false:=by simpa using hk
    simp only[hb,B0f,if_false,pure_bind,Y2];exact ih _ hr
 have:=go scope.names [] h;unfold closureFor;simp only[bind_pure_comp]at this ⊢
 first
  | exact this
  | (simpa using this)
structure Ow(X:Cx)(NX:ZD)(outer scope:Scope)(N:ZD)(fr:ZG):Prop where
 nx:X.N=NX
 sc:X.env.scope.names=outer.names
 ok1:Ha outer scope=true
 ok2:Gg NX scope.names N fr=true
theorem Ow.ok{X:Cx}{NX:ZD}{outer scope:Scope}{N:ZD}{fr:ZG}(C:Ow X NX outer scope N fr)(ok:X.Ok):I8 X scope N fr:=by
 have h1:=C.ok1;unfold Ha at h1;simp only[Vl,decide_eq_true_eq,yq,Bool.or_eq_true]at h1;obtain⟨hk,hn⟩:=h1
 have kof:∀x,X.env.kindOf x=outer.names.lookup x:=λx=>by
  show X.env.scope.names.lookup x=_;rw[C.sc]
 have S7:∀y∈scope.names,y.2=.free->X.env.kindOf y.1=some .cell\/X.env.kindOf y.1=some .free:=λy hy e=>by
  rcases(hn y hy).2 with (z | z) | z
  .exact absurd e z
  .exact .inl ((kof _).trans z)
  .exact .inr ((kof _).trans z)
 have Ez:∀y∈scope.names,y.2=.free->∃c,X.env.cells.lookup y.1=some c:=λy hy e=>ok.has y.1 (S7 y hy e);refine⟨Ll Ez,hk,λy hy=>(hn y hy).1.1,λy hy e=>?_,λx c e=>?_,λx h=>?_,N7 C.ok2,λi j e=>?_⟩
 .rcases(hn y hy).1.2 with z | z
  .exact absurd e z
  .exact z
 .exact Wv Ez (λp hp=>by cases hp) (x,c) (PySem.mem_of_lookup e)
 .have hm:(x,NameKind.free)∈scope.names:=by
   rcases h with h | h
   .obtain⟨k0,h1,h2⟩:=Tu h;rcases h2 with h2 | ⟨h2,_⟩
    .exact absurd h2.symm (hn _ h1).1.1
    .subst h2;exact h1
   .obtain⟨k0,h1,h2⟩:=Tu h;rcases h2 with h2 | ⟨_,h2⟩
    .subst h2;exact h1
    .cases h2
  obtain⟨c,hc⟩:=Wy (env:=X.env) (cs:=[]) hm;exact Mc hc
 .obtain⟨x,q1,q2,q3⟩:=Jo C.ok2 e;have hm:=PySem.mem_of_lookup q3;have hf:=S7 (x,.free) hm rfl;refine⟨x,q1,by rw[C.nx];exact q2,?_,?_,Mx q3⟩
  .exact .inr hf
  .intro z;dsimp only at hf;rw[z]at hf;rcases hf with hf | hf<;>cases hf
section
variable{X:Cx}{scope:Scope}{N:ZD}{fr:ZG}{XB:ZY}{Z:St}{H:Hp}{s:Shared}{fp:ZU}
theorem rh(C:I8 X scope N fr)(I:Inv X XB Z H s)(hf:∀b∈fp,Bg X XB H b)(hob:∀b∈fp,∃o,s.heap.get? b=some o){h1:Heap}{tk:Nat}
  (a9:h1.Ns s.heap.objs.size λ_=>none) (hk:∀b o,s.heap.get? b=some o->h1.get? b=some o) :
  Inv (Yq X scope N fp s H) [] (frees fr Z) H { s with heap:=h1,toks:=tk }:=by
 have lt:∀b∈fp,b<s.heap.objs.size:=λb hb=>let ⟨_,e⟩:=hob b hb;V5 e;have cellK:∀x c,(Y2 X.env scope.names []).lookup x=some c->∃v,s.heap.IsCell c v:=λx c e=>I.cell x c (C.cells x c e);have ck:∀c v,s.heap.IsCell c v->h1.IsCell c v:=λc v ⟨o,e,d⟩=>⟨o,hk c o e,d⟩
 refine⟨⟨I.ok.mod,C.kind,I.ok.glob,I.ok.blt,Vy _,λx y c e1 e2=>I.ok.inj x y c (C.cells x c e1) (C.cells y c e2),λx h=>C.has x h,λx c h _=>absurd h Nj,I.ok.hd,I.ok.frames,.inl rfl,
   λb hb=>⟨Tf (lt b hb),λx c e=>(hf b hb).2.2.2.2.1 x c (C.cells x c e)⟩,I.bs,Tg I.ok.bsz I.sz,λb o e hb=>?_,λb hb hb'=>?_,I.stack,I.stkFree⟩,
  rfl,I.bare,Un.kept hk,⟨_,a9,λi x v e1 e2 e3=>?_⟩,λx c e=>?_,I.hok.fresh (Vy _),λx c e=>I.freeC x c (C.cells x c e),λp hp=>absurd (show p∈([]:ZY) from hp) XA,I.hok.kept hk,?_⟩
 .rcases(hf b hb).2.2.2.1 with z | z
  .exact I.ok.noex b o e z
  .exact absurd (F7 (V5 (I.ok.bs b o e).1) z) (Nat.lt_irrefl _)
 .rcases Y8.mp (I.stkSub b hb') with z | z
  .exact(hf b hb).2.1 z
  .exact(hf b hb).2.2.1 z
 .obtain⟨j,q1,q2⟩:=vx e2;obtain⟨x',n1,n2,vis,nl,k⟩:=C.fr i j q1;have ex:x=x':=D8 (e1.symm.trans n1);subst ex;obtain⟨m,hm,hl⟩:=I.loc;obtain⟨u,r,l⟩:=hl j x v n2 q2 vis;refine⟨u,r,?_⟩;rcases l with ⟨l1,_⟩ | ⟨_,c,l2,l3⟩
  .exact absurd l1 nl
  .obtain⟨c',oq⟩:=C.has x k;have ec:=C.cells x c' oq;rw[l2]at ec;have ec':c=c':=D8 ec;subst ec';exact .inr ⟨k,c,oq,ck c _ l3⟩
 .obtain⟨v,z⟩:=cellK x c e;exact⟨v,ck c v z⟩
 .show (frees fr Z).length=N.length;rw[Gk,C.len]
theorem Ao(I:Inv X XB Z H s)(hf:∀b∈fp,Bg X XB H b){σ':St}{H':Hp}{s':Shared}(J:Inv (Yq X scope N fp s H) [] σ' H' s'):Inv X XB Z H' s' :=
 I.call' (ch:=fp) J.os J.base J.hok J.bare λb hb=>⟨(hf b hb).2.2.2.1,(hf b hb).2.1,(hf b hb).2.2.2.2.1,(hf b hb).2.2.2.2.2⟩
end
def PTs(X:Cx)(ifs:ZC)(t:TT):Prop :=
 ∀(XB:ZY) (s:Shared) (Z:St) (H:Hp) (Q:Bool->Hp->Prop),Inv X XB Z H s->t Z H Q ->
  wpAny (model X.prog X.w) X.A (Xk ifs X.env) (TP X XB Z Q) X.xe s
def Xm:TT:=λ_ H Q=>Q true H
theorem X7{X:Cx}:PTs X [] Xm:=λ_ _ _ H _ I h=>wpAny_tests_nil ⟨H,I,h⟩
theorem X6{X:Cx}{c:Expr}{t:TT}(h:PT X c t):PTs X [c] t:=λXB s Z H Q I hw=>wpAny_tests_one (h XB s Z H Q I hw)
def Zw7(J:It)(g:TG)(tt:TT)(te:TE)(D:Addr)(W:Nat->Nat->ZQ->St->Hp->Prop)(fin:Hp->Prop):Prop :=
 ∀i m ys Z H,W i m ys Z H->H D=some (.lst ys)/\((J.stop i H/\fin H)\/(J.go i H/\∃N:ZQ->St->Hp->Prop,(∀ys' σ' H',N ys' σ' H'->∃m',m'<m/\W (i+1) m' ys' σ' H') /\
  ∀x H',J.yld i H x H'->g x Z H' λσ2 H2=>tt σ2 H2 λok H3 =>
   if ok=true then te σ2 H3 λy H4=>H4 D=some (.lst ys)/\ys.length<sizeLine/\N (ys++[y]) σ2 (upd H4 D (.lst (ys++[y]))) else N ys σ2 H3))
abbrev DG:=ZU->Shared->Hp->TG
abbrev DT:=ZU->Shared->Hp->TT
abbrev DE:=ZU->Shared->Hp->TE
def fj(wi:TI)(fr:ZG)(g:DG)(tt:DT)(te:DE):TE:=λZ H Q=>wi Z H λJ H1=>∀D fp sx,H1 D=none ->
 ∃W:Nat->Nat->ZQ->St->Hp->Prop,(∃m,W 0 m [] (frees fr Z) (upd H1 D (.lst [])))/\Zw7 J (g fp sx (upd H1 D (.lst []))) (tt fp sx (upd H1 D (.lst []))) (te fp sx (upd H1 D (.lst []))) D W (λH=>Q (.ref D) H)
section
variable{X:Cx}{scope:Scope}{N:ZD}{fr:ZG}{tg elt iter:Expr}{ifs:ZC}{pos:Pos}{wi:TI}{g:DG}{tt:DT}{te:DE}
theorem Eo{XB:ZY}{Z:St}{s2:Shared}{it:Addr}{fp:ZU}{tn:Nat->Heap->Prop}{J:It}{H2:Hp}{RR:Value->Addr->Result->Shared->Prop}{E:ZW}
  (hc:X.calm=true) (C:I8 X scope N fr)
  (hg:∀fp s H,PG (Yq X scope N fp s H) tg (g fp s H)) (ht:∀fp s H,PTs (Yq X scope N fp s H) ifs (tt fp s H)) (he:∀fp s H,PE (Yq X scope N fp s H) elt (te fp s H))
  (I2:Inv X XB Z H2 s2) (T:Turn X.prog X.w X.K tg J fp it tn) (st2:tn 0 s2.heap) (f2:∀b∈fp,Bg X XB H2 b) {fin:Addr->Hp->Prop}
  (hW:∀D fp sx,H2 D=none->∃W:Nat->Nat->ZQ->St->Hp->Prop,(∃m,W 0 m [] (frees fr Z) (upd H2 D (.lst [])))/\Zw7 J (g fp sx (upd H2 D (.lst []))) (tt fp sx (upd H2 D (.lst []))) (te fp sx (upd H2 D (.lst []))) D W (fin D))
  (sg:∀D Cc s' σ' H' m,Inv X XB Z H' s'->H' Cc=none->Cc≠X.env.locals->Cc∉X.fs->X.s₀.heap.objs.size<=Cc->(∀x c,X.env.cells.lookup x=some c->c≠Cc)->(∀p∈X.pn++XB,p.1≠Cc)->s'.heap.Ns Cc m->fin D H' ->
   RR (.ref D) Cc (.ok σ') s') :
  wpAny (model X.prog X.w) X.A (newList []) (λacc s₃=>wpAny (model X.prog X.w) X.A (newFunctionEnv scope X.env.globals (Y2 X.env scope.names []) [] X.env.qual none .none (some X.env)) (λcenv s₄ =>
   codeAny (model X.prog X.w) X.A (.compStart (.ListComp elt [⟨tg,iter,ifs,0⟩] scope pos) 0 (.ref it) acc { cenv with scope:=relabel scope X.env }) (RR acc cenv.locals) s₄) E s₃) E s2:=by
 refine wpAny_newObj_type (wpAny_newFunctionEnv C.nocell (by intro y hy;simp at hy) (λh₁ hns₁ hsb₁=>?_) C.kind);dsimp only at hns₁ hsb₁ ⊢
 have I3:Inv X XB Z (upd H2 s2.heap.objs.size (.lst [])) { s2 with heap:=s2.heap.push { cls:=.type "list",dict:=none,data:=.seq ([]:ZM).toArray } } :=
  I2.laid (t':=s2.toks) (λb o e=>Vp _ e) (Vy _) ⟨Io _,[],0,.nil,Mp _ rfl⟩
 have hD:H2 s2.heap.objs.size=none:=I2.hok.fresh (Vy _);obtain⟨W,⟨m0,w0⟩,turn⟩:=hW _ fp { s2 with heap:=s2.heap.push { cls:=.type "list",dict:=none,data:=.seq ([]:ZM).toArray } } hD;generalize hDD:s2.heap.objs.size=D at *;generalize hS3:({ s2 with heap:=s2.heap.push { cls:=.type "list",dict:=none,data:=.seq ([]:ZM).toArray } }:Shared)=S3 at *;have hS3h:s2.heap.push { cls:=.type "list",dict:=none,data:=.seq ([]:ZM).toArray }=S3.heap:=by rw[<-hS3]
 rw[hS3h]at hns₁ hsb₁ ⊢;have obj2:=T.obj 0 _ st2
 have nD:∀b∈fp,b≠D:=λb hb z=>by
  obtain⟨o,e,_⟩:=obj2 b hb;have q:=V5 e;rw[hDD,z]at q;exact absurd q (Nat.lt_irrefl _)
 have f3:∀b∈fp,Bg X XB (upd H2 D (.lst [])) b:=λb hb=>⟨by rw[Zz (nD b hb)];exact(f2 b hb).1,(f2 b hb).2⟩
 have ob3:∀b∈fp,∃o,S3.heap.get? b=some o:=λb hb=>by
  obtain⟨o,e,_⟩:=obj2 b hb;exact⟨o,by rw[<-hS3h];exact Vp _ e⟩
 have st3:tn 0 S3.heap:=T.keep _ _ _ st2 λb hb o e=>by rw[<-hS3h];exact Vp _ e
 have hk1:∀b o,S3.heap.get? b=some o->h₁.get? b=some o:=λb o e=>hsb₁.extBut b o (Tf (V5 e)) (Vp _ e);have J1:Inv (Yq X scope N fp S3 (upd H2 D (.lst []))) [] (frees fr Z) (upd H2 D (.lst [])) { S3 with heap:=h₁,toks:=s2.toks+([]:List (Str×Value)).length }:=rh C I3 f3 ob3 hns₁ hk1;have st4:tn 0 h₁:=T.keep _ _ _ st3 λb hb o e=>hk1 b o e;have es:({ s2 with heap:=h₁,toks:=s2.toks+([]:List (Str×Value)).length }:Shared)={ S3 with heap:=h₁,toks:=s2.toks+([]:List (Str×Value)).length }:=by rw[<-hS3]
 have FpC:∀{H':Hp},(∀b∈fp,H' b=none)->∀b∈fp,Bg (Yq X scope N fp S3 (upd H2 D (.lst []))) [] H' b:=λhn b hb =>
  ⟨hn b hb,(J1.ok.exf b hb).1,J1.ok.exfs b hb,.inl hb,(J1.ok.exf b hb).2,λp hp=>absurd (show p∈([]:ZY) from hp) XA⟩
 have loop:codeAny (model X.prog X.w) X.A (.compLoop (.ListComp elt [⟨tg,iter,ifs,0⟩] scope pos) 0 (.ref it) (.ref D) (Yq X scope N fp S3 (upd H2 D (.lst []))).env) (RR (.ref D) S3.heap.objs.size)
   { S3 with heap:=h₁,toks:=s2.toks+([]:List (Str×Value)).length }:=by
  refine P0 (λn s'=>∃i ys σ' H',Inv (Yq X scope N fp S3 (upd H2 D (.lst []))) [] σ' H' s'/\tn i s'.heap/\(∀b∈fp,H' b=none)/\W i n ys σ' H') ?_ m0 ⟨0,[],_,_,J1,st4,λb hb=>(f3 b hb).1,w0⟩;rintro n s5 ⟨i,ys,σ5,H5,J5,st5,fr5,w5⟩;obtain⟨hDl,alt⟩:=turn i n ys σ5 H5 w5;rcases alt with ⟨stop,fi⟩ | ⟨go,NN,hNN,step⟩
  .refine Yj (T.done (Yq X scope N fp S3 (upd H2 D (.lst []))) rfl rfl rfl hc i [] s5 σ5 H5 aa J5 (FpC fr5) st5 stop) λr s6 ⟨hr,J6⟩=>?_;subst hr;show RR (.ref D) S3.heap.objs.size (.ok .next) s6;have I6:=Ao I3 f3 J6;obtain⟨mm,hmm,_⟩:=J6.loc;refine sg D _ s6 _ H5 mm I6 J6.free ?_ ?_ ?_ ?_ ?_ hmm fi
   .exact Nat.ne_of_gt I3.lt
   .exact I3.nofs (Vy _)
   .exact I3.sz
   .intro x c e z;obtain⟨v,q⟩:=I3.cell x c e;exact absurd q.lt (by rw[z];exact Nat.lt_irrefl _)
   .intro p hp z;exact absurd (V5 (I3.pin p hp).1) (by rw[z];exact Nat.lt_irrefl _)
  .refine Yj (T.item (Yq X scope N fp S3 (upd H2 D (.lst []))) rfl rfl rfl hc i [] s5 σ5 H5 aa J5 (FpC fr5) st5 go) λr s6 ⟨u,hr,h6⟩=>?_;subst hr;refine Yj (Q:=_) h6 λ_ s7 ⟨x,H7,J7,r7,y7,st7,fr7⟩=>?_;have J7':=J7.pinned (FpC fr7) (T.obj _ _ st7)
   have back:∀{σ9:St} {H9:Hp} {s9:Shared},Inv (Yq X scope N fp S3 (upd H2 D (.lst []))) ([]++Rn fp s7.heap) σ9 H9 s9->tn (i+1) s9.heap/\∀b∈fp,H9 b=none:=λ{σ9 H9 s9} J9 =>
    ⟨T.keep _ _ _ st7 λb hb o e=>(J9.pin (b,o) (og _ (og _ (Gv hb e)))).1,λb hb=>by
     obtain⟨o,e,d⟩:=T.obj _ _ st7 b hb;exact(J9.pin (b,o) (og _ (og _ (Gv hb e)))).2.1⟩
   refine Yj (hg fp S3 _ _ s7 σ5 H7 x u _ J7' r7 (step x H7 y7)) λ_ s8 ⟨σ8,H8,J8,q8⟩=>?_;refine Yj (ht fp S3 _ _ s8 σ8 H8 _ J8 q8) λok s9 ⟨H9,J9,q9⟩=>?_;cases ok with
   | false =>
    rw[if_neg Nj]at q9;unfold TurnEnd;rw[if_neg Nj];obtain⟨m',hm,w9⟩:=hNN _ _ _ q9;exact⟨m',hm,i+1,ys,σ8,H9,J9.unpinned,(back J9).1,(back J9).2,w9⟩
   | true =>
    rw[if_pos rfl]at q9;unfold TurnEnd;rw[if_pos rfl];refine Yj (he fp S3 _ _ s9 σ8 H9 _ J9 q9) λyv s10 ⟨y,H10,J10,r10,hD10,hz,n10⟩=>?_;obtain⟨m',hm,w10⟩:=hNN _ _ _ n10;refine Yj (Fx (X:=Yq X scope N fp S3 (upd H2 D (.lst []))) _ s10 σ8 H10 (.ref D) [y] (.ref D) [yv] (λ_ H'=>H'=upd H10 D (.lst (ys++[y]))) J10 rfl (.cons r10 .nil) ⟨D,ys,y,rfl,rfl,hD10,hz,rfl⟩) λ_ s11 ⟨v11,H11,J11,_,e11⟩=>?_;subst e11;exact⟨m',hm,i+1,ys++[y],σ8,_,J11.unpinned,(back J11).1,(back J11).2,w10⟩
 rw[es];exact codeAny_compStart_list loop (T.self _ 0 _ _ _ st4 loop)
theorem Zxy{NX:ZD}{outer:Scope}(hc:X.calm=true)(hi:PI X tg iter wi)(C:Ow X NX outer scope N fr)
  (hg:∀fp s H,PG (Yq X scope N fp s H) tg (g fp s H)) (ht:∀fp s H,PTs (Yq X scope N fp s H) ifs (tt fp s H)) (he:∀fp s H,PE (Yq X scope N fp s H) elt (te fp s H))
  (hs:∀x,foldedSetIterable iter X.env x=pure x:=by intro _;rfl):PE X (.ListComp elt [⟨tg,iter,ifs,0⟩] scope pos) (fj wi fr g tt te):=by
 intro XB s Z H Q I h;have C:=C.ok I.ok;rw[eval_ListComp];refine wpAny_comprehension_free (use:=none) rfl hs C.clos C.kind C.names (Yj (hi XB s Z H _ I h) λv s1 h1=>Yj h1 λitv s2 h2=>?_);obtain⟨it,fp,tn,J,H2,e,I2,T,st2,f2,hW⟩:=h2;subst e;refine Eo (RR:=λacc Cc=>compPost (model X.prog X.w) X.A X.xe none (EP X XB Z Q) acc Cc) hc C hg ht he I2 T st2 f2 hW ?_;intro D Cc s' fl H' m I' f0 f1 f2' f3 f4 f5 a9 fi;refine⟨m,a9,λh' sb=>?_⟩;exact⟨.ref D,H',I'.turned (t':=s'.toks) (λb o hb e=>(sb.2 b hb).trans e) f0 f1 (.inr f3) f4 f5,rfl,fi⟩
theorem Aq{NX:ZD}{outer:Scope}{i:Nat}{x:Str}{pos' Jp:Pos}(hN:X.N.Nodup)(hix:X.N[i]?=some x)(hx:Loc X.env.scope x)(hc:X.calm=true)(hi:PI X tg iter wi)(C:Ow X NX outer scope N fr)
  (hg:∀fp s H,PG (Yq X scope N fp s H) tg (g fp s H)) (ht:∀fp s H,PTs (Yq X scope N fp s H) ifs (tt fp s H)) (he:∀fp s H,PE (Yq X scope N fp s H) elt (te fp s H))
  (hsw:swapsWith (.ListComp elt [⟨tg,iter,ifs,0⟩] scope pos) (some (.Name x pos')) Jp.line X.env=pure true:=by rfl)
  (hs:∀x,foldedSetIterable iter X.env x=pure x:=by intro _;rfl) (hf:X.fn x=true\/X.env.scope.names.lookup x=some .local:=by first | exact .inl rfl | exact .inr rfl | assumption) :
  PS X (.Assign [.Name x pos'] (.ListComp elt [⟨tg,iter,ifs,0⟩] scope pos) Jp) (tAsg (fj wi fr g tt te) (sr i)):=by
 intro XB s Z H Dd I h;have C:=C.ok I.ok;rw[exec_Assign_Name_used _ _ _ _ hsw];refine Zt (wpAny_standAt (Zt ?_));show wpAny _ X.A (do let _ <-comprehension (.ListComp elt [⟨tg,iter,ifs,0⟩] scope pos) scope X.env _ (newList []) false (eval iter X.env) (some (assign (.Name x pos') X.env))) _ _ s
 refine Zt (wpAny_mono (wpAny_comprehension_free (use:=some (assign (.Name x pos') X.env)) (Q:=λ_ s'=>SP X XB Dd .next s') rfl hs C.clos C.kind C.names
  (Yj (hi XB s Z H _ I h) λv s1 h1=>Yj h1 λitv s2 h2=>?_)) (λ_ s' hq=>Yl (Yl hq)) λ_ _ e=>e)
 obtain⟨it,fp,tn,J,H2,e,I2,T,st2,f2,hW⟩:=h2;subst e;refine Eo (RR:=λacc Cc=>compPost (model X.prog X.w) X.A X.xe (some (assign (.Name x pos') X.env)) (λ_ s'=>SP X XB Dd .next s') acc Cc) hc C hg ht he I2 T st2 f2 hW ?_;intro D Cc s' fl H' m I' f0 f1 f2' f3 f4 f5 a9 fi;show wpAny _ X.A (assign (.Name x pos') X.env (.ref D)) _ _ _;refine wpAny_assign_Name (L4 (v:=.ref D) I' hN hix hx rfl (λs3 I3 ⟨a,sb,ha⟩=>?_) hf)
 have na:Cc≠a:=by
  rcases ha with z | z
  .rw[z];exact f1
  .exact λq=>f4 x a z q.symm
 refine⟨m,a9.sameBut sb na,λh' sb'=>?_⟩;exact⟨_,H',I3.turned (t':=s3.toks) (λb o hb e=>(sb'.2 b hb).trans e) f0 f1 (.inr f3) f4 f5,fi⟩
end
end L2
namespace SetM
open PySem
section
variable{prog:Program}{w:World}{K:Type}[DecidableEq K](knd:KeyKind prog w K)
variable{knd}{A:Around}{E:ZW}{s:Shared}{a:Addr}
end
end SetM
namespace SetM
open PySem PyProof.Rows
section
variable{prog:Program}{w:World}{K:Type}[DecidableEq K]{knd:KeyKind prog w K}
variable{A:Around}{R:Result->Shared->Prop}{I:Addr}{fp wr:ZU}{G:Array GenState->Array GenState->Prop}{n:Nat}{P:Nat->Value->Prop}{St:Nat->Shared->Prop}
end
section
variable{prog:Program}{w:World}{A:Around}{E:ZW}{s:Shared}
variable{K:Type}[DecidableEq K]{knd:KeyKind prog w K}
end
section
variable{prog:Program}{w:World}{A:Around}{E:ZW}{s:Shared}{a:Addr}{o:Obj}{es:Array (Int×Value)}{ep:Nat}{t:SetTable}
end
section
variable{w:World}{a:Addr}{es:Array (Int×Value)}{ep:Nat}{t:SetTable}{h:Heap}{i:Nat}{first:Value}{vs:ZM}
end
section
variable{prog:Program}{w:World}{A:Around}{E:ZW}{s:Shared}{a I:Addr}{o:Obj}{es:Array (Int×Value)}{ep:Nat}{t:SetTable}{i:Nat}{first:Value}{vs:ZM}
end
section
variable{prog:Program}{w:World}{A:Around}{E:ZW}{s:Shared}{a I:Addr}{o:Obj}{es:Array (Int×Value)}{ep:Nat}{t:SetTable}{vs:ZM}
end
section
variable{prog:Program}{w:World}{K:Type}[DecidableEq K]{knd:PySem.KeyKind prog w K}{A:Around}{E:ZW}{s:Shared}{a:Addr}
theorem V6{h:Heap}{l b:Addr}{vs:ZM}{out:ZN}{ob:Obj}(hb:b≠l)(e:h.get? b=some ob):(sortedHeap h l vs out).get? b=some ob:=by
 rw[sortedHeap_old hb (V5 e)];exact e
end
end SetM
namespace L2
open PySem PySem.Spec PyProof.Rows
theorem Inv.put{X:Cx}{XB:ZY}{Z:St}{H:Hp}{s:Shared}{h':Heap}{a:Addr}{o:HO}{t':Nat}{d':Drawn}(I:Inv X XB Z H s)(k:∀b u,s.heap.get? b=some u->h'.get? b=some u)(hp:s.heap.objs.size<=a)(new:Z4 X.prog X.w (upd H a o) h' a o) :
  Inv X XB Z (upd H a o) { s with heap:=h',toks:=t',drawn:=d' } :=
 I.call (g':=s.gens) (t':=t') (d':=d') (ch:=[]) (Un.laid k hp (I.hok.fresh hp)) (I.hok.laid k hp new) I.bare λb z=>absurd z U2
section
variable{X:Cx}
theorem Lo:∀{vs:ZM} {ss:ZD},StrsAre vs ss->Zd (ss.map V.str) vs
 | _,_,.nil=>.nil
 | _,_,.cons y t r=>.cons ⟨t,rfl⟩ (Lo r)
end
end L2
namespace ZipL
open PySem PySem.Calls PyProof.Rows PyProof.V PySem.Spec
section
variable{prog:Program}{w:World}{A:Around}{E:ZW}{s:Shared}{z TI TO T i1 i2 l1 l2:Addr}{f:Bool}{oT:Obj}{k1 k2:Nat}{xs ys:ZN}{x y:Value}
end
section
variable{prog:Program}{w:World}{A:Around}{R:Result->Shared->Prop}{E:ZW}{s:Shared}{z TI TO i1 i2 l1 l2 S:Addr}{xs ys:ZN}
end
end ZipL
namespace L2
open PySem PySem.Spec PyProof.Rows
section
variable{X:Cx}{XB:ZY}{Z:St}{H H':Hp}{s:Shared}{h':Heap}
end
section
variable{X:Cx}{x y:Str}{p p2 pos Jp:Pos}{a b:Expr}{t:TA}
inductive T3(K:W.Frag)(xs:ZQ)(H:Hp)(Q:VK):Prop
 | mk(p:Addr)(ns:ZL)(Vd:xs=[.ref p])(Vm:Uq K H p (ns.map V.int))(U0:Q (.int ns.sum) H):T3 K xs H Q
theorem vf(hc:X.calm=true):Y0 X (.builtin "sum") (λxs H Q=>T3 X.K xs H Q):=by
 intro XB s Z H xs us Q I r h;obtain⟨p,ns,rfl,hq,q⟩:=h;obtain⟨u,rfl,rx⟩:=vals1 r;cases rx;obtain⟨XD,rv,pl,hz⟩:=I.list hq;have hi:=intsAre_of rv;obtain⟨zs,e⟩:=hi.allInts.items
 have en:(zs.toList.map (·.1))=ns:=by
  have a:=hi.numsOf;have b:=nums_intItems zs;rw[<-e]at b;exact b.symm.trans a
 refine sum_intListG (xs:=zs) (I.ok.hd hc) (by rw[<-e];exact pl.isList) λh' tk t' hk=>?_;rw[preSum_eq,T0l XA,en];exact⟨.int ns.sum,H,I.kept hk,⟨t',rfl⟩,q⟩
theorem Hm{ss:ZD}:∀{us:ZM},Zd (ss.map V.str) us->StrsAre us ss:=by
 induction ss with
 | nil=>intro us r;cases r;exact .nil
 | cons x xs ih =>
  intro us r;cases r with
  | cons e t =>
   obtain⟨tk,rfl⟩:=e;exact .cons x tk (ih t)
inductive X3(K:W.Frag)(x:V)(vs:ZQ)(H:Hp)(Q:VK):Prop
 | mk(sep:Str)(p:Addr)(ss:ZD)(Vd:x=.str sep)(Vm:vs=[.ref p])(U0:Uq K H p (ss.map V.str))(Lg:(ss.map (·.length)).sum+ss.length*sep.length<=16777216)(xg:Q (.str (Txt.join sep ss)) H):X3 K x vs H Q
def rJoin(K:W.Frag):V->ZQ->Hp->VK->Prop:=λx vs H Q=>X3 K x vs H Q
theorem Zx5:MtM X "str.join" (rJoin X.K):=by
 intro XB s Z H x vs v us Q I rx rv h;obtain⟨sep,p,ss,rfl,rfl,hq,hz,q⟩:=h;obtain⟨t,rfl⟩:=rx;obtain⟨u,rfl,ru⟩:=rv.one;cases ru;obtain⟨XD,r,pl,_⟩:=I.list hq;exact join_list pl.isList (Hm r) hz λt' k=>⟨.str _,H,I.tok _,⟨t',rfl⟩,q⟩
end
def Fn(P:Program)(w:World)(K:W.Frag)(mg:ZV)(base:Heap)(k:Nat)(x:Str)(ps:ZD)(sp:Sp):Prop :=
 ∃f fd,J4 P w K mg base qy k f fd ps sp/\Binds K fd ps []/\W.keepIn K (.ref f)=true/\mg x=some (.ref f)
section
variable{X:Cx}{k:Nat}{x:Str}{ps:ZD}{sp:Sp}{p pos:Pos}{e:Expr}{es:ZC}{t:TA}
theorem cf(G:Fn X.prog X.w X.K X.mg X.base k x ps sp)(hr:Ue k X.A)(hg:Gl X x)(ha:PA X (e::es) t)(hdb:(x==("__debug__" : Str))=false:=by decide)
  (he:starEach (e::es) X.env=(false,eval e X.env)::starEach es X.env:=by rfl) (xy:(backTo pos (starEach es X.env)).any (·.1)=false:=by rfl) :
  PE X (.Call (.Name x p) (e::es) [] pos) (Zj2 sp [] E0 t):=by
 obtain⟨f,fd,F,b,kp,m⟩:=G;exact Zxg F hr hg m kp b .nil Zwj ha hdb he xy
theorem J4.any{P:Program}{w:World}{K:W.Frag}{mg:ZV}{base:Heap}{CX:qv}{k:Nat}{f:Addr}{fd:FuncData}{ps:ZD}{ι:Type}{C:ι->Prop}{sp:ι->Sp}(h:∀i,C i->J4 P w K mg base CX k f fd ps (sp i)) :
  J4 P w K mg base CX k f fd ps (λvs H Q E=>∃i,C i/\sp i vs H Q E) :=
 ⟨λvs H Q E ⟨i,c,q⟩=>(h i c).len vs H Q E q,λA outer s H args us vs Q E hr he hb hv ⟨i,c,q⟩=>(h i c).run A outer s H args us vs Q E hr he hb hv q⟩
end
def Up(K:W.Frag)(H H':Hp):Prop:=∀a xs,Vn K H a xs->Vn K H' a xs
theorem Up.refl{K:W.Frag}(H:Hp):Up K H H:=λ_ _ h=>h
theorem Up.trans{K:W.Frag}{H H1 H2:Hp}(a:Up K H H1)(b:Up K H1 H2):Up K H H2:=λc xs h=>b c xs (a c xs h)
theorem Zp.up{K:W.Frag}{H H':Hp}(e:Zp H H'):Up K H H':=λa xs h=>by
 rcases h with (h | ⟨o,h⟩) | h
 .exact .inl (.inl (e _ _ h))
 .exact .inl (.inr ⟨o,e _ _ h⟩)
 .exact .inr h
theorem Zp.put{H H1:Hp}{p:Addr}{o:HO}(e:Zp H H1)(h:H p=none):Zp H (upd H1 p o):=λb u q=>by
 rw[Zz (Z9 q h)];exact e b u q
theorem Hw{K:W.Frag}{H:Hp}{p:Addr}{o:HO}{ys:ZQ}(h:H p=some (.lst ys)):Up K H (upd H p o):=λc xs q=>by
 have ne:∀u,H c=some u->(∀ys,u≠.lst ys)->c≠p:=λu e n z=>by
  rw[z,h]at e;cases e;exact n _ rfl
 rcases q with (q | ⟨u,q⟩) | q
 .exact .inl (.inl (by rw[Zz (ne _ q λ_ z=>nomatch z)];exact q))
 .exact .inl (.inr ⟨u,by rw[Zz (ne _ q λ_ z=>nomatch z)];exact q⟩)
 .exact .inr q
section
variable{X:Cx}
theorem cj{x:Str}{C:Addr}{pos:Pos}(hg:Gl X x)(hm:X.mg x=some (.ref C))(hd:(x==("__debug__" : Str))=false:=by decide):PE X (.Name x pos) (tC (.ref C)):=zq hg hm rfl hd
theorem cb{T:String}{x:Str}{pos:Pos}(hg:Gl X x)(hm:X.mg x=none)(hv:bootBuiltins x=some (.type T))(hn:x ≠ "__name__" := by decide)(hd:(x==("__debug__" : Str))=false:=by decide) :
  PE X (.Name x pos) (tC (.ty T)):=Zxf hg hm hv rfl hn hd
end
end L2
namespace DctE
open PySem PySem.SeqAt PySem.MeetsSeq
open PySem.AutoSeq1 (wpAny_loadPart')
end DctE
namespace L2
open PySem PySem.Spec PyProof.Rows
section
variable{X:Cx}{XB:ZY}{Z:St}{H H':Hp}{s:Shared}{h':Heap}
theorem Inv.turnLay{t':Nat}{fp:ZU}{a:Addr}{o:HO}(I:Inv X XB Z H s)(k:∀b u,b∉fp->s.heap.get? b=some u->h'.get? b=some u)(hf:∀b∈fp,Bg X XB H b)(hp:s.heap.objs.size<=a)(new:Z4 X.prog X.w (upd H a o) h' a o) :
  Inv X XB Z (upd H a o) { s with heap:=h',toks:=t' }:=by
 have hn:=I.hok.fresh hp
 have nf:∀b u,H b=some u->b∉fp:=λb u e m=>by
  have z:=(hf b m).1;rw[e]at z;cases z
 have na:∀b u,s.heap.get? b=some u->b≠a:=λb u e=>Tf (F7 (V5 e) hp)
 refine I.call (g':=s.gens) (d':=s.drawn) (ch:=fp) ⟨λb u e _ _ hx=>k b u hx e,λb u e _ _ hx=>⟨u.slots,k b u hx e⟩,λb u e n _=>by rw[Zz (na b u e)];exact n,λb u e hx=>⟨u,k b u hx e⟩,
  λb xs e=>by rw[Zz (Z9 e hn)];exact e,λb ob u e=>by rw[Zz (Z9 e hn)];exact e,λb ps e=>⟨#[],by rw[Zz (Z9 e hn)];simp[e]⟩⟩ (λb u e=>?_) I.bare
  λb hb=>⟨(hf b hb).2.2.2.1,(hf b hb).2.1,(hf b hb).2.2.2.2.1,(hf b hb).2.2.2.2.2⟩
 by_cases hb:b=a
 .subst hb;rw[Zq]at e;cases e;exact new
 .rw[Zz hb]at e;refine(I.hok b u e).stay (λc v hc q=>k c v ?_ q) (λc q=>by rw[Zz (Z9 q hn)];exact q) λc xs q=>by rw[Zz (Z9 q hn)];exact q
  rcases hc with z | z
  .rw[z];exact nf b u e
  .exact nf c _ z
theorem Inv.turnL{t':Nat}{fp:ZU}(I:Inv X XB Z H s)(k:∀b u,b∉fp->s.heap.get? b=some u->h'.get? b=some u)(hf:∀b∈fp,Bg X XB H b) :
  Inv X XB Z H { s with heap:=h',toks:=t' }:=by
 have nf:∀b u,H b=some u->b∉fp:=λb u e m=>by
  have z:=(hf b m).1;rw[e]at z;cases z
 refine I.call (g':=s.gens) (d':=s.drawn) (ch:=fp) ⟨λb u e _ _ hx=>k b u hx e,λb u e _ _ hx=>⟨u.slots,k b u hx e⟩,λb u e n _=>n,λb u e hx=>⟨u,k b u hx e⟩,
  λb xs e=>e,λb ob u e=>e,λb ps e=>⟨#[],by simp[e]⟩⟩ (λb u e=>?_) I.bare
  λb hb=>⟨(hf b hb).2.2.2.1,(hf b hb).2.1,(hf b hb).2.2.2.2.1,(hf b hb).2.2.2.2.2⟩
 refine(I.hok b u e).stay (λc v hc q=>k c v ?_ q) (λc q=>q) λc xs q=>q;rcases hc with z | z
 .rw[z];exact nf b u e
 .exact nf c _ z
end
section
variable{X:Cx}{pos:Pos}
theorem all_range(bs:List Bool):((List.range bs.length).all λi=>(bs[i]?).getD true)=bs.all id:=by
 rw[Bool.eq_iff_iff,yq,yq];constructor
 .intro h b hb;obtain⟨i,hi⟩:=List.mem_iff_getElem?.mp hb;have:=h i (List.mem_range.mpr (W8.mp hi).1);rw[hi]at this;simpa using this
 .intro h i hi;have hi':=List.mem_range.mp hi;rw[Tc hi'];simpa using h _ (G0e hi')
inductive T6(K:W.Frag)(xs:ZQ)(H:Hp)(Q:VK):Prop
 | mk(p:Addr)(bs:List Bool)(Vd:xs=[.ref p])(Vm:Uq K H p (bs.map V.bl))(U0:Q (.bl (bs.all id)) H):T6 K xs H Q
theorem vn(hc:X.calm=true):Y0 X (.builtin "all") (λxs H Q=>T6 X.K xs H Q):=by
 intro XB s Z H xs us Q I r h;obtain⟨p,bs,rfl,hq,q⟩:=h;obtain⟨u,rfl,rx⟩:=vals1 r;cases rx;obtain⟨XD,rv,pl,hz⟩:=I.list hq;have hl:=pl.isList;have xk:p<s.heap.objs.size:=by obtain⟨_,e,_⟩:=hl;exact V5 e
 have hlen:XD.toArray.size=bs.length:=by rw[Ul, <-rv.length,Vq]
 refine call_all_walk (wpAny_pyIter_list hl ?_)
 refine⟨s.heap.objs.size,[s.heap.objs.size,p],[s.heap.objs.size],XD.toArray.size,_,_,λi=>(bs[i]?).getD true,rfl,Walks.list (A:=X.A.in1) (I.ok.hd hc) _ p (Tf xk) XD.toArray,
  ⟨⟨_,Mp _ rfl,rfl,rfl⟩,hl.push _⟩,λi v s' Q' E' hP hQ=>?_,λh' tk hk=>?_⟩
 .have e0:XD[i]?=some v:=by simpa using hP
  have hi:i<bs.length:=by
   have:=(W8.mp e0).1;rw[Ul]at hlen;omega
  obtain⟨v',e1,e2⟩:=rv.get (i:=i) (x:=V.bl bs[i]) (by rw[Oj,Tc hi];rfl);rw[e0]at e1;cases e1;cases e2;dsimp only at hQ;rw[Tc hi]at hQ;exact wpAny_truthy_bool hQ
 .rw[hlen,all_range];refine⟨.bl _,H,I.kept λb x e=>hk b x (λhm=>?_) (Vp _ e),rfl,q⟩;rw[F8.mp hm]at e;exact Nat.lt_irrefl _ (V5 e)
noncomputable def repS(i:Str)(n:Nat):Str:=⟨(List.replicate n i.cps).foldl (·++·) #[]⟩
theorem m3(a:ZS):∀(n:Nat) (acc:ZS),((List.replicate n a).foldl (·++·) acc).toList=acc.toList++(List.replicate n a.toList).flatten
 | 0,acc=>by simp
 | n+1,acc=>by
  rw[List.replicate_succ,List.foldl_cons,m3 a n (acc++a),List.replicate_succ,List.flatten_cons,Array.toList_append,XX]
theorem Mu(i:Str)(n:Nat):(repS i n).cps.toList=(List.replicate n i.cps.toList).flatten:=by
 show ((List.replicate n i.cps).foldl (·++·) #[]).toList=_;rw[m3]
 rfl
theorem Rm(i:Str)(n:Nat):(repS i n).length=n*i.length:=by
 show (repS i n).cps.size=n*i.cps.size;rw[<-yf,Mu,len_rep,yf]
inductive L9(x:V)(y:V)(H:Hp)(Q:VK):Prop
 | mk(i:Str)(n:Int)(Vd:x=.str i)(Vm:y=.int n)(U0:2<=n)(Lg:n<=1000)(xg:i.length≠0)(h5_:i.length<=1000)(h6_:Q (.str (repS i n.toNat)) H):L9 x y H Q
theorem Zxh:Mh X (binaryOp .Mult) (λx y H Q=>L9 x y H Q):=by
 intro XB s Z H x y v u Q I rx ry h;obtain⟨i,n,rfl,rfl,n2,n1,i0,i1,q⟩:=h;obtain⟨t,rfl⟩:=rx;obtain⟨t',rfl⟩:=ry;have c1:¬ n<1:=XS
 have c2:(n==1 || i.length==0)=false:=by
  rw[Bool.or_eq_false_iff];exact⟨B0n.mpr XS,B0n.mpr i0⟩
 have hm:i.length*n.toNat<=1000000:=Tg (Nat.mul_le_mul i1 (show n.toNat<=1000 by omega)) XU;refine PySem.P.mul_str ?_ (λ_ _=>?_) (λ_ _=>?_) ?_
 .rw[Bool.or_eq_false_iff];exact⟨Bf XS,Bf XS⟩
 .intro z;have hn0:(0:Int)<n:=XS
  have h1:(1000:Int)*n<=2 ^ 63-1:=XS
  have h2:=(Int.le_ediv_iff_mul_le hn0).mpr h1;omega
 .show decide (i.length*n.toNat>sizeLine)=false;exact Bf (Nat.not_lt_of_le (Tg hm XU))
 .rw[if_neg c1,if_neg (by rw[c2];decide)];have hl:(repS i n.toNat).length<=sizeLine:=by rw[Rm,Nat.mul_comm];exact Tg hm XU
  exact⟨hl,⟨.str _,H,I.tok _,⟨_,rfl⟩,q⟩⟩
end
def Its(x:Str):It:=⟨λi _=>i<x.cps.size,λi H v H'=>H'=H/\∃c,x.cps[i]?=some c/\v=.str ⟨#[c]⟩,λi _=>x.cps.size<=i⟩
theorem Ot{P:Program}{w:World}{K:PySem.W.Frag}{tg:Expr}(x:Str)(it:Addr)(T:String)(t:Tok)(hT:["enumerate","zip","dict_itemiterator","dict_reverseitemiterator","odict_iterator","itertools.zip_longest","itertools.pairwise"].contains T=false)
  (W:∀A:Around,A.handled=none->Walks P w A it [it] [it] x.cps.size (SignAt x) (λi h=>h.IsStrIter it T x t i)) (hs:∀(A:Around) (i:Nat) (s:Shared) (Q:ZW) (E:ZW),s.heap.IsStrIter it T x t i->Q (.ref it) s->wpAny (model P w) A (pyIter (.ref it)) Q E s)
  (hd:∀(A:Around) (i:Nat) (s:Shared) (Q:ZT->Shared->Prop) (E:ZW),A.handled=none->x.cps.size<=i->s.heap.IsStrIter it T x t i->(∀h' tk,(∀b o,b≠it->s.heap.get? b=some o->h'.get? b=some o)->Q none { s with heap:=h',toks:=tk })->wpAny (model P w) A (pyNext (.ref it)) Q E s) :
  Turn P w K tg (Its x) [it] it (λi h=>h.IsStrIter it T x t i) where
 mem:=by simp
 obj:=λi h st b hb=>by
  have e:b=it:=by simpa using hb
  subst e;obtain⟨o,e,c,d⟩:=st;exact⟨o,e,λv z=>by rw[d]at z;cases z⟩
 keep:=λi h h' st k=>let ⟨o,ho,r⟩:=st;⟨o,k it XA o ho,r⟩
 item:=by
  intro X hP hw hK hc i XB s Z H E I hf st hg;subst hP hw hK;obtain⟨f0,f1,f2,f3,f4,f5⟩:=hf it XA;refine(W X.A (I.ok.hd hc)).item i s _ _ hg st λv h' tk hv Ko kk=>?_;obtain⟨c,u,oq,rfl⟩:=hv;have I1:Inv X XB Z H { s with heap:=h',toks:=tk }:=I.turned (λb o hb e=>kk b o (by simpa using hb) e) f0 f1 f3 f4 f5;obtain⟨o,e,c1,d⟩:=id Ko;exact⟨_,rfl,Ew (s:={ s with heap:=h',toks:=tk }) e c1 d hT ⟨.str ⟨#[c]⟩,H,I1,⟨u,rfl⟩,⟨rfl,c,oq,rfl⟩,Ko,λb hb=>(hf b hb).1⟩⟩
 done:=by
  intro X hP hw hK hc i XB s Z H E I hf st hg;subst hP hw hK;obtain⟨f0,f1,f2,f3,f4,f5⟩:=hf it XA;exact hd X.A i s _ _ (I.ok.hd hc) hg st λh' tk eb=>⟨rfl,I.turned (λb o hb e=>eb b o hb e) f0 f1 f3 f4 f5⟩
 self:=λA i s Q E st h=>hs A i s Q E st h
inductive sy(R:(It->Hp->Prop))(v:V)(H1:Hp):Prop
 | mk(x)(Vd:v=.str x)(Vm:R (Its x) H1):sy R v H1
def iStr(te:TE):TI:=λZ H R=>te Z H λv H1=>sy R v H1
section
variable{X:Cx}{tg l:Expr}{tl:TE}
theorem pi_str(hl:PE X l tl):PI X tg l (iStr tl):=by
 intro XB s Z H R I h;refine Yj (hl XB s Z H _ I h) λv s1 ⟨v',H1,I1,r1,q1⟩=>?_;obtain⟨x,rfl,q⟩:=q1;obtain⟨t,rfl⟩:=r1
 have fin:∀b∈[s1.heap.objs.size],Bg X XB H1 b:=λb hb=>by
  have e:b=s1.heap.objs.size:=by simpa using hb
  subst e;exact I1.fpOk (Vy _) (I1.hok.fresh (Vy _))
 cases ha:x.cps.all (·<128)
 .refine wpAny_pyIter_wide ha ?_
  exact⟨s1.heap.objs.size,[s1.heap.objs.size],_,_,H1,rfl,I1.kept (t':=s1.toks) λb o e=>Vp _ e,Ot x _ "str_iterator" t XU (λA hA=>Walks.strWide hA _ x t) (λA i s Q E st h=>wpAny_pyIter_striter_wide st h)
   (λA i s Q E hA hi st h=>wpAny_pyNext_wide_end hA st (by simp[hi]) λh' he=>h h' s.toks λb o hb e=>he b o hb e),⟨_,Mp _ rfl,rfl,rfl⟩,fin,q⟩
 .refine wpAny_pyIter_ascii ha ?_
  exact⟨s1.heap.objs.size,[s1.heap.objs.size],_,_,H1,rfl,I1.kept (t':=s1.toks) λb o e=>Vp _ e,Ot x _ "str_ascii_iterator" t XU (λA hA=>Walks.strAscii hA _ x t) (λA i s Q E st h=>wpAny_pyIter_striter_ascii st h)
   (λA i s Q E hA hi st h=>wpAny_pyNext_ascii_end hA st (by simp[hi]) λh' he=>h h' s.toks λb o hb e=>he b o hb e),⟨_,Mp _ rfl,rfl,rfl⟩,fin,q⟩
end
def Itz(K:W.Frag)(l1 l2:Addr):It :=
  ⟨λi H=>∃xs ys x y,Uq K H l1 xs/\Uq K H l2 ys/\xs[i]?=some x/\ys[i]?=some y,
   λi H v H'=>∃p x y,v=.ref p/\H p=none/\H'=upd H p (.tup [x,y])/\(∀xs,Uq K H l1 xs->xs[i]?=some x)/\∀ys,Uq K H l2 ys->ys[i]?=some y,
   λi H=>∃xs ys,Uq K H l1 xs/\Uq K H l2 ys/\(xs.length<=i\/ys.length<=i)⟩
theorem gb{P:Program}{w:World}{K:W.Frag}{es:ZC}{k:Nat}{pos:Pos}(z TI TO i1 i2 l1 l2:Addr)(D:ZipApart z TI TO i1 i2 l1 l2) :
  Turn P w K (.Tuple es k pos) (Itz K l1 l2) [z,TI,TO,i1,i2] z (λi h=>IsZip h z TI TO .none/\IsPair h TI (.ref i1) (.ref i2)/\(∃a b,IsPair h TO a b)/\h.IsListIter i1 l1 i/\h.IsListIter i2 l2 i) where
 mem:=by simp
 obj:=λi h st b hb=>by
  obtain⟨hz,Px,⟨a,c,Ej⟩,⟨o1,e1,_,d1⟩,⟨o2,e2,_,d2⟩⟩:=st;simp only[Y8,U2,or_false]at hb;rcases hb with rfl | rfl | rfl | rfl | rfl
  .exact⟨_,hz,λv q=>nomatch q⟩
  .exact⟨_,Px,λv q=>nomatch q⟩
  .exact⟨_,Ej,λv q=>nomatch q⟩
  .exact⟨_,e1,λv q=>by rw[d1]at q;cases q⟩
  .exact⟨_,e2,λv q=>by rw[d2]at q;cases q⟩
 keep:=λi h h' st hk=>by
  obtain⟨hz,Px,⟨a,b,Ej⟩,h1,h2⟩:=st;exact⟨hk z XA _ hz,hk TI XA _ Px,⟨a,b,hk TO XA _ Ej⟩,h1.at λo e=>hk i1 XA o e,h2.at λo e=>hk i2 XA o e⟩
 item:=by
  intro X hP hw hK hc i XB s Z H E I hf st hg;subst hP hw hK;obtain⟨xs,ys,x,y,q1,q2,g1,g2⟩:=hg;obtain⟨hz,Px,⟨a,b,Ej⟩,h1,h2⟩:=st;obtain⟨ao,v1,ju,z1⟩:=I.list q1;obtain⟨is2,v2,jh,z2⟩:=I.list q2;obtain⟨u1,e1,r1⟩:=v1.get g1;obtain⟨u2,e2,r2⟩:=v2.get g2;refine wpAny_pyNext_zip_item D hz Px Ej h1 h2 ju.isList jh.isList (x:=u1) (y:=u2) (by simpa using e1) (by simpa using e2) λh' a1 a2 a3 a4 a5 a6 hk=>?_;refine⟨_,rfl,wpAny_letOwnedTupleGo_zip (s:={ s with heap:=h' }) a1 λh'' hz' Jt=>?_⟩;have lt:∀{c o},s.heap.get? c=some o->s.heap.objs.size≠c:=λe=>Nat.ne_of_gt (V5 e);have nz:s.heap.objs.size≠z:=lt hz
  have kk:∀c u,c∉[z,TI,TO,i1,i2]->s.heap.get? c=some u->h''.get? c=some u:=λc u m e=>by
   simp only[Y8,U2,or_false,not_or]at m;exact Jt.extBut _ _ m.1 (hk c u m.1 m.2.2.1 m.2.2.2.1 m.2.2.2.2 e)
  have fresh:=I.hok.fresh (Vy s.heap.objs.size);have J:Inv X XB Z (upd H s.heap.objs.size (.tup [x,y])) { s with heap:=h'',toks:=s.toks }:=I.turnLay kk hf (Vy _) ⟨by show 2<=sizeLine;decide,[u1,u2],.cons r1 (.cons r2 .nil),⟨_,Jt.extBut _ _ nz a5,rfl,⟨_,rfl⟩,rfl⟩⟩;refine⟨.ref s.heap.objs.size,_,J,rfl,⟨_,x,y,rfl,fresh,rfl,λws hw=>by rw[I.list_inj hw q1];exact g1,λws hw=>by rw[I.list_inj hw q2];exact g2⟩,⟨hz',Jt.extBut _ _ D.TIz (hk _ _ D.TIz D.TITO D.TIi1 D.TIi2 Px),⟨_,_,Jt.extBut _ _ D.TOz a2⟩,a3.extBut Jt.extBut D.i1z,a4.extBut Jt.extBut D.i2z⟩,λc hc=>?_⟩
  have nc:c≠s.heap.objs.size:=λq=>by
   subst q;simp only[Y8,U2,or_false]at hc;rcases hc with q | q | q | q | q
   .exact lt hz q
   .exact lt Px q
   .exact lt Ej q
   .obtain⟨_,e,_⟩:=h1;exact lt e q
   .obtain⟨_,e,_⟩:=h2;exact lt e q
  rw[Zz nc];exact(hf c hc).1
 done:=by
  intro X hP hw hK hc i XB s Z H E I hf st hg;subst hP hw hK;obtain⟨xs,ys,q1,q2,g⟩:=hg;obtain⟨hz,Px,⟨a,b,Ej⟩,h1,h2⟩:=st;obtain⟨ao,v1,ju,z1⟩:=I.list q1;obtain⟨is2,v2,jh,z2⟩:=I.list q2;have hl1:=v1.length;have hl2:=v2.length;refine wpAny_pyNext_zip_end (I.ok.hd hc) D hz Px Ej h1 h2 ju.isList jh.isList (by rcases g with g | g;exact .inl (by simp;omega);exact .inr (by simp;omega)) λh' hk=>⟨rfl,I.turnL (t':=s.toks) (fp:=[z,TI,TO,i1,i2]) (λc u m e=>?_) hf⟩;simp only[Y8,U2,or_false,not_or]at m;exact hk c u m.1 m.2.2.1 m.2.2.2.1 m.2.2.2.2 e
 self:=λA i s Q E st h=>wpAny_pyIter_zip st.1 h
inductive sj(K:W.Frag)(R:(It->Hp->Prop))(vs:ZQ)(H1:Hp):Prop
 | mk(p q)(Vd:vs=[.ref p,.ref q])(Vm:(∃xs,Uq K H1 p xs))(U0:(∃ys,Uq K H1 q ys))(Lg:R (Itz K p q) H1):sj K R vs H1
def iZip(K:W.Frag)(t:TA):TI:=λZ H R=>t Z H λvs H1=>sj K R vs H1
section
variable{X:Cx}{es:ZC}{k:Nat}{p2 pos Jp:Pos}{a b:Expr}{t:TA}
theorem pi_zip(hgz:Gl X "zip")(hmz:X.mg "zip"=none)(ha:PA X [a,b] t)
  (he2:starEach [a,b] X.env=(false,eval a X.env)::starEach [b] X.env:=by rfl) (xy:(backTo Jp (starEach [b] X.env)).any (·.1)=false:=by rfl) :
  PI X (.Tuple es k pos) (.Call (.Name "zip" p2) [a,b] [] Jp) (iZip X.K t):=by
 intro XB s Z H R I h;refine wpAny_Call_Name_kw (M3 I hgz hmz (by decide +kernel:bootBuiltins "zip"=some (.type "zip")) ?_ XU XU);refine callWith_type1 (Yj (ha Jp XB s Z H _ I h) λus s1 ⟨vs,H1,I1,r1,q1⟩=>?_) he2 xy;obtain⟨l1,l2,rfl,⟨xs,hx⟩,⟨ys,hy⟩,q⟩:=q1;obtain⟨u1,u2,rfl,e1,e2⟩:=vals2 r1;cases e1;cases e2;obtain⟨ao,v1,ju,z1⟩:=I1.list hx;obtain⟨is2,v2,jh,z2⟩:=I1.list hy;have n1:l1<s1.heap.objs.size:=by obtain⟨_,e,_⟩:=ju.isList;exact V5 e
 have n2:l2<s1.heap.objs.size:=by obtain⟨_,e,_⟩:=jh.isList;exact V5 e
 refine call_zip_2 ju.isList jh.isList λh2 b1 b2 b3 b4 b5 b6 k2=>?_;refine wpAny_pyIter_zip (s:={ s1 with heap:=h2 }) b1 ?_;have J:Inv X XB Z H1 { s1 with heap:=h2,toks:=s1.toks }:=I1.kept k2;refine⟨_,[s1.heap.objs.size+4,s1.heap.objs.size+2,s1.heap.objs.size+3,s1.heap.objs.size,s1.heap.objs.size+1],_,_,H1,rfl,J,gb _ _ _ _ _ l1 l2 (zipApart_new n1 n2),⟨b1,b2,⟨_,_,b3⟩,b4,b5⟩,λc hc=>?_,q⟩
 have ge:s1.heap.objs.size<=c:=by
  simp only[Y8,U2,or_false]at hc;rcases hc with q | q | q | q | q<;>rw[q]<;>first | exact Vy _ | exact Nat.le_add_right _ _
 exact I1.fpOk ge (I1.hok.fresh ge)
end
section
variable{X:Cx}
inductive Rp(K:W.Frag)(x:V)(y:V)(H:Hp)(Q:VK):Prop
 | mk(l b zs)(Vd:x=.ref l)(Vm:y=.ref b)(U0:Vn K H l [])(Lg:Vn K H b zs)(xg:Q (.ref b) H):Rp K x y H Q
theorem n9:Mh X (binaryOp .Add) (λx y H Q=>Rp X.K x y H Q):=by
 intro XB s Z H x y v u Q I rx ry h;obtain⟨l,b,zs,rfl,rfl,hl,hb,q⟩:=h;cases rx;cases ry;obtain⟨i1,r1,p1,z1⟩:=I.tuple hl;obtain⟨i2,r2,p2,z2⟩:=I.tuple hb;have e1:i1=[]:=by cases r1;rfl
 subst e1;obtain⟨⟨c1,d1,t1,s1⟩,o1,k1,n1,m1⟩:=id p1;obtain⟨⟨c2,d2,t2,s2⟩,o2,k2,n2,m2⟩:=id p2;simp only at k1 m1 k2 m2;subst k1 m1 k2 m2;exact concat_meets ⟨_,o1,rfl⟩ ⟨_,o2,rfl⟩ noFill_tuple_add seq_tuple_add PySem.F.slot_tuple_add PySem.F.entry_tuple_add (PySem.F.args_tuple_add_2 _ _) (tuple_addW0 l b _ _ n1 n2 d1 d2 s1 s2 rfl) ⟨o1,o2,⟨.ref b,H,I,rfl,q⟩⟩
end
end L2
namespace HT
open PySem PySem.Spec PyProof.Rows
section
variable{prog:Program}{w:World}{A:Around}{E:ZW}{s:Shared}
theorem Mq{t sl:Addr}{items:ZN}{vl vu:Value}{lo hi:ZR}{Q:ZW}(ht:IsTup s.heap t items)(hs:s.heap.IsSliceOf sl vl vu .none)(pl:IsPart vl lo)(pu:IsPart vu hi)
  (hw:Y7 items.size 0 lo=0/\Y7 items.size items.size hi=items.size) (h:Q (.ref t) s):wpAny (model prog w) A (getItem (.ref t) (.ref sl)) Q E s:=by
 obtain⟨os,w4,hcs,oz⟩:=id hs;have hTs:s.TypeIs (.ref sl) "slice" := ⟨os,w4,hcs⟩;unfold getItem
 try with_reducible refine wpAny_holding ?_
 first | refine Zt (Yl ?_) | skip
 refine Zt (wpAny_sequenceKey ht.typeIs XU ?_)
 refine Zt (wpAny_callSpecial?_slot (name:=Str.ofString "__getitem__") ht.typeIs slot_tuple_getitem
  (wpAny_call_entry slot_tuple_getitem ht.typeIs entry_tuple_getitem ?_ (args_tuple_getitem _ _)))
 show wpAny _ _ (Builtin.Tuple.tupleItemsOf (.ref t) >>= _) _ _ s;refine Zt (tupleItemsOf_ ht ?_);refine Zt (wpAny_typeOf hTs ?_);rw[if_pos XU];refine Zt (Jh hs pl pu ?_)
 have hyes:(((Y7 items.size 0 lo:Nat):Int)==0&&(1:Int)==1&&(Y7 items.size items.size hi-Y7 items.size 0 lo)==items.size)=true:=by
  rw[hw.1,hw.2];simp
 show wpAny _ _ (if (((Y7 items.size 0 lo:Nat):Int)==0&&(1:Int)==1&&(Y7 items.size items.size hi-Y7 items.size 0 lo)==items.size)=true then _ else _) _ _ s;rw[if_pos hyes];refine Zt (m:=Builtin.Tuple.tupleIsExact (.ref t)) (Zt (wpAny_typeOf ht.typeIs (Yl ?_)));rw[if_pos XU];exact Zt (wpAny_rule (Yl ⟨_,rfl,Yl h⟩))
end
end HT
namespace L2
open PySem PySem.Spec PyProof.Rows
section
variable{X:Cx}{e:Expr}{te:TE}{lo hi:Option Expr}{tl th:TO}{pos p2 p3 p4:Pos}{j1:Nat}
theorem Zp.lay{H:Hp}{p:Addr}{o:HO}(h:H p=none):Zp H (upd H p o):=λb u q=>by rw[Zz (Z9 q h)];exact q
inductive dw(K:W.Frag)(x:V)(lo:ZR)(hi:ZR)(H:Hp)(Q:VK):Prop
 | mk(a xs)(Vd:x=.ref a)(Vm:Vn K H a xs)(U0:∀p H',Zp H H'->Vn K H' p (B8 xs lo hi)->Q (.ref p) H'):dw K x lo hi H Q
def rSlG(K:W.Frag):V->ZR->ZR->Hp->VK->Prop:=λx lo hi H Q=>dw K x lo hi H Q
theorem Xr:SlR X (rSlG X.K):=by
 intro XB s Z H x v vl vu lo hi sl Q I rx hs pl pu h;obtain⟨a,xs,rfl,hx,q⟩:=h;by_cases hw:HT.Y7 xs.length 0 lo=0/\HT.Y7 xs.length xs.length hi=xs.length
 .cases rx;obtain⟨XD,r,ht,hz⟩:=I.tuple hx;have hlen:XD.toArray.size=xs.length:=by rw[Ul];exact r.length.symm
  refine⟨"tuple",_,slot_tuple_getitem.lookup,ht.typeIs,?_⟩;refine HT.Mq ht hs pl pu (by rw[hlen];exact hw) ⟨.ref a,H,I,rfl,q a H (Zp.refl H) ?_⟩
  have e:B8 xs lo hi=xs:=by
   unfold B8;rw[hw.1,hw.2,List.drop_zero,Nat.sub_zero,T0g]
  rw[e];exact hx
 .exact sl_tup XB s Z H _ v vl vu lo hi sl Q I rx hs pl pu ⟨a,xs,rfl,hx,hw,λp hp=>q p _ (Zp.lay hp) (Vn.of Zq)⟩
inductive X5(K:W.Frag)(x:V)(y:V)(H:Hp)(Q:VK):Prop
 | mk(a b xs ys)(Vd:x=.ref a)(Vm:y=.ref b)(U0:Vn K H a xs)(Lg:Vn K H b ys)(xg:xs.length+ys.length<=sizeLine)(h5_:∀p H',Zp H H'->Vn K H' p (xs++ys)->Q (.ref p) H'):X5 K x y H Q
def rCatG(K:W.Frag):R2:=λx y H Q=>X5 K x y H Q
theorem Zxo:Mh X (binaryOp .Add) (rCatG X.K):=by
 intro XB s Z H x y v u Q I rx ry h;obtain⟨a,b,xs,ys,rfl,rfl,ha,hb,hz,q⟩:=h;cases xs with
 | nil=>exact n9 XB s Z H _ _ v u Q I rx ry ⟨a,b,ys,rfl,rfl,ha,hb,q b H (Zp.refl H) hb⟩
 | cons x xs =>
  refine Zxu XB s Z H _ _ v u Q I rx ry ⟨a,b,x::xs,ys,rfl,rfl,ha,hb,(λz=>nomatch z),hz,λe=>?_,λ_ p hp=>q p _ (Zp.lay hp) (Vn.of Zq)⟩;subst e;exact q a H (Zp.refl H) (by rw[XQ];exact ha)
end
structure FnV(X:Cx)(f:Addr)(ps:ZD)(sp:Sp):Prop where
 ok:∃k fd,J4 X.prog X.w X.K X.mg X.base qy k f fd ps sp/\Binds X.K fd ps []/\Ue k X.A
 kp:W.keepIn X.K (.ref f)=true
section
variable{X:Cx}{x:Str}{p pos:Pos}{e:Expr}{es:ZC}{tn:TE}{t:TA}{Y:Cx->Addr->ZD->Sp->Prop}
inductive Oo(X:Cx)(t:TA)(Z:St)(Q:VK)(v:V)(H1:Hp):Prop
 | mk(f ps sp)(Vd:v=.ref f)(Vm:FnV X f ps sp)(U0:t Z H1 λvs H2=>sp vs H2 Q E0):Oo X t Z Q v H1
def tCallV(X:Cx)(tn:TE)(t:TA):TE:=λZ H Q=>tn Z H λv H1=>Oo X t Z Q v H1
theorem cg(hn:PE X (.Name x p) tn)(ha:PA X (e::es) t)
  (he:starEach (e::es) X.env=(false,eval e X.env)::starEach es X.env:=by rfl) (xy:(backTo pos (starEach es X.env)).any (·.1)=false:=by rfl) :
  PE X (.Call (.Name x p) (e::es) [] pos) (tCallV X tn t):=by
 intro XB s Z H Q I h;refine wpAny_Call_Name_kw (Yj (hn XB s Z H _ I h) λv s1 ⟨v',H1,I1,r1,f,ps,sp,e1,⟨⟨k,fd,F,b,hr⟩,kp⟩,q1⟩=>?_);subst e1;cases r1;refine W.callWith_K (h₀:=X.base) I1.ok.mod.kin kp (Yj (ha pos XB s1 Z H1 _ I1 q1) λus s2 ⟨vs,H2,I2,r2,q2⟩=>⟨I2.kIn,?_⟩) he xy;exact b7 (sp:=sp) (E:=E0) F hr b .nil Zwj I2 r2 (by rw[XQ];exact q2)
end
section
variable{K:W.Frag}{H H1 H':Hp}
end
section
variable{X:Cx}
theorem Zqc{XB:ZY}{Z:St}{H:Hp}{s:Shared}{a:Addr}{xs:ZQ}{c:Value}{b:Bool}{Q:ZW}{E:ZW}(I:Inv X XB Z H s)(q:Vn X.K H a xs)(e:W.kitOne X.K (.type "tuple") c=some b)(h:∀tk,Q (.bool b) { s with toks:=tk }) :
  wpAny (model X.prog X.w) X.A (call (.builtin "isinstance") [.ref a,c]) Q E s:=by
 obtain⟨XD,_,⟨o,h1,h2,_⟩,_⟩:=I.tuple q;exact W.kia_one W.kitx_tuple I.kIn ⟨o,h1,h2⟩ e (λz=>nomatch z) h
inductive Sx(K:W.Frag)(A:Around)(x:V)(y:V)(H:Hp)(Q:VK):Prop
 | mk(a b xs)(Vd:x=.ref a)(Vm:y=.ref b)(U0:Uq K H a xs)(Lg:Uq K H b [])(xg:A.units<cLine)(h5_:Q (.bl xs.isEmpty) H):Sx K A x y H Q
def rEqNil(K:W.Frag)(A:Around):R2:=λx y H Q=>Sx K A x y H Q
theorem n6:Mh X (compareOp .Eq) (rEqNil X.K X.A):=by
 intro XB s Z H x y v u Q I rx ry h;obtain⟨a,b,xs,rfl,rfl,ha,hb,hu,q⟩:=h;cases rx;cases ry;obtain⟨i1,r1,p1,z1⟩:=I.list ha;obtain⟨i2,r2,p2,z2⟩:=I.list hb;have e2:i2=[]:=by cases r2;rfl
 subst e2;cases xs with
 | nil =>
  have e1:i1=[]:=by cases r1;rfl
  subst e1;have:=SeqAt.RcAt.lists (A:=X.A) (e:=λ_=>true) p1.isList p2.isList rfl hu (λj h1 h2=>absurd h1 XA);exact this X.prog X.w X.xe _ ⟨.bl _,H,I,rfl,q⟩
 | cons x xs =>
  have hl:=r1.length;exact SeqAt.RcAt.lists_lengths (A:=X.A) p1.isList p2.isList (by rw[Ul, <-hl];rfl) hu X.prog X.w X.xe _ ⟨.bl _,H,I,rfl,q⟩
end
section
variable{K:W.Frag}{H:Hp}{a D:Addr}{xs:ZQ}{ts:List Th}{te:TE}{tt:TT}{fin:Hp->Prop}{τ:St}{o:Option V}
end
end L2
namespace K01
open PySem PySem.Spec PyProof.Rows L2
end K01
namespace L2
open PySem PySem.Spec PyProof.Rows
section
variable{X:Cx}
end
end L2
namespace RevA
open PySem
section
variable{prog:Program}{w:World}{A:Around}{E:ZW}{s:Shared}{r t:Addr}{XD:ZN}{i:Int}
end
end RevA
namespace RevA
open PySem PyProof.Rows
section
variable{prog:Program}{w:World}{A:Around}{E:ZW}{s:Shared}{r t:Addr}{XD:ZN}
end
section
variable{prog:Program}{w:World}{A:Around}{E:ZW}{s:Shared}{r t:Addr}{XD:ZN}
end
section
variable{prog:Program}{w:World}{A:Around}{E:ZW}{s:Shared}{R:Result->Shared->Prop}{I S:Addr}{fp wr:ZU}{n:Nat}{P:Nat->Value->Prop}{St:Nat->Heap->Prop}{T:String}
end
section
variable{prog:Program}{w:World}{A:Around}{E:ZW}{s:Shared}{I:Addr}{fp wr:ZU}{n:Nat}{P:Nat->Value->Prop}{St:Nat->Heap->Prop}{T:String}
end
section
variable{prog:Program}{w:World}{A:Around}{E:ZW}{s:Shared}{r t:Addr}{XD:ZN}
end
section
variable{prog:Program}{w:World}{A:Around}{E:ZW}{s:Shared}{I:Addr}{fp wr:ZU}{n:Nat}{P:Nat->Value->Prop}{St:Nat->Heap->Prop}{T:String}
end
section
variable{prog:Program}{w:World}{A:Around}{E:ZW}{s:Shared}
end
end RevA
namespace IdxT
open PySem PySem.SeqAt PySem.MeetsSeq
open PySem.AutoSeq1 (wpAny_loadPart')
end IdxT
namespace L2
open PySem PySem.Spec PyProof.Rows
section
variable{X:Cx}{p p2 pos Jp:Pos}{a:Expr}{t:TA}
end
section
variable{X:Cx}{e:Expr}{t1 t2:TE}
end
section
variable{X:Cx}{p p2 pos Jp:Pos}{a:Expr}{t:TA}
end
section
variable{X:Cx}
structure TopD(K:W.Frag)(w:World)(a:Addr):Prop where
 at':∃es n,K.lookup a=some ⟨.type "dict",none,.dict es n, #[]⟩/\W.KeysLit w.params es.toList
inductive X1(K:W.Frag)(w:World)(x:V)(y:V)(H:Hp)(Q:VK):Prop
 | mk(a:Addr)(z:Str)(v:V)(u:Value)(Vd:x=.ref a)(Vm:y=.str z)(U0:TopD K w a)(Lg:W.nsIn K a z=some (some u))(xg:RelV v u)(h5_:Q v H):X1 K w x y H Q
def rTopD(K:W.Frag)(w:World):R2:=λx y H Q=>X1 K w x y H Q
theorem Zqb:IxR X (rTopD X.K X.w):=by
 intro value slice XB s Z H x y v u Q I rx ry h hs;obtain⟨a,z,v',u',rfl,rfl,⟨es,n,hl,hk⟩,e,r,q⟩:=h;cases rx;obtain⟨t,rfl⟩:=ry;have hm:=W.mapOf_K (prog:=X.prog) I.kIn hl hk;exact tail_any hm.typeIs slot_dict_getitem.lookup (wpAny_getItem_of (strKind_is X.prog X.w z t) hm (W.find_K hl e) ⟨v',H,I.tok _,r,q⟩) hs
end
section
variable{X:Cx}{k:Nat}{C:Addr}{m x:Str}{ps:ZD}{sp:Sp}{o e:Expr}{es:ZC}{ta:TE}{t:TA}{p pos apos:Pos}
end
end L2
namespace EnuT
open PySem
section
variable{prog:Program}{w:World}{A:Around}{E:ZW}{s:Shared}
theorem nextT{it t:Addr}{i:Nat}{XD:ZN}{x:Value}{Q:ZW}(hi:s.heap.IsTupleIter it t i)(ht:s.heap.IsTuple t XD)(hx:XD[i]?=some x)
  (q:∀h',h'.IsTupleIter it t (i+1)->Heap.SameBut it s.heap h'->Q x { s with heap:=h' }):wpAny (model prog w) A (Builtin.SmallTypes.nextOf (.ref it)) Q E s:=by
 obtain⟨u,hu,hc,hd⟩:=id hi;obtain⟨p,hp,_,n,dp⟩:=ht;unfold Builtin.SmallTypes.nextOf;refine Zt (wpAny_callSpecial?_slot (name:=Str.ofString "__next__") hi.typeIs F.slot_tuple_iterator_next (wpAny_call_entry F.slot_tuple_iterator_next hi.typeIs F.entry_tuple_iterator_next ?_ (F.args_tuple_iterator_next_1 _)));show wpAny _ _ (field (.ref it) 0 >>= _) _ _ s;refine Zt (wpAny_field hu hd (x:=.ref t) rfl ?_);show wpAny _ _ (if (Value.ref t==Value.none)=true then _ else _) _ _ s;rw[if_neg (show ¬ ((Value.ref t==Value.none)=true) from Nj)];show wpAny _ _ (field (.ref it) 1 >>= _) _ _ s;refine Zt (wpAny_field hu hd (x:=.int i 0) rfl ?_);show wpAny _ _ (seqItems? (.ref t) >>= _) _ _ s;refine Zt (wpAny_seqItems hp dp ?_);simp only[XG,hx];refine Zt (wpAny_setField hu hd XA (Yl ⟨x,rfl,Yl (q _ ?_ (Heap.SameBut.update ..))⟩));exact⟨_,Heap.get?_update_self _ hu (Obj.isFreed_of_fields (Obj.data_mapFields hd _)),(Obj.cls_mapFields ..).trans hc,by rw[Obj.data_mapFields hd];simp[rawInt]⟩
theorem endT{it t:Addr}{i:Nat}{XD:ZN}{Q:ZW}(hh:A.handled=none)(hi:s.heap.IsTupleIter it t i)(ht:s.heap.IsTuple t XD)(hx:XD[i]?=none)
  (q:∀h' e,Heap.ExtBut it s.heap h'->(∃o,h'.get? e=some o/\o.cls=.type "StopIteration")->E (.ref e) { s with heap:=h' }):wpAny (model prog w) A (Builtin.SmallTypes.nextOf (.ref it)) Q E s:=by
 obtain⟨u,hu,hc,hd⟩:=id hi;obtain⟨p,hp,_,n,dp⟩:=ht;unfold Builtin.SmallTypes.nextOf;refine Zt (wpAny_callSpecial?_slot (name:=Str.ofString "__next__") hi.typeIs F.slot_tuple_iterator_next (wpAny_call_entry F.slot_tuple_iterator_next hi.typeIs F.entry_tuple_iterator_next ?_ (F.args_tuple_iterator_next_1 _)));show wpAny _ _ (field (.ref it) 0 >>= _) _ _ s;refine Zt (wpAny_field hu hd (x:=.ref t) rfl ?_);show wpAny _ _ (if (Value.ref t==Value.none)=true then _ else _) _ _ s;rw[if_neg (show ¬ ((Value.ref t==Value.none)=true) from Nj)];show wpAny _ _ (field (.ref it) 1 >>= _) _ _ s;refine Zt (wpAny_field hu hd (x:=.int i 0) rfl ?_);show wpAny _ _ (seqItems? (.ref t) >>= _) _ _ s;refine Zt (wpAny_seqItems hp dp ?_);simp only[XG,hx];refine Zt (wpAny_rule (Zt (wpAny_setField hu hd XA ?_)));show wpAny _ _ (newExc (.type "StopIteration") [] >>= _) _ _ _;refine Zt ?_;simp only[newExc,newTuple];refine Zt (wpAny_newObj_type ?_ (by size_fits));refine Zt (m:=firstArgMember _ _) (wpAny_of_eq (a:=Value.none) (by first | rfl | (simp only[firstArgMember];rfl)) ?_);refine wpAny_newObj_type ?_ (by size_fits);simp only[raiseNew];refine Zt (wpAny_handled ?_)
 first | rw[show A.in1.handled=none from hh] | rw[hh]
 refine Zt (Yl (wpAny_throw ?_));exact q _ _ (((Heap.SameBut.update ..).extBut.push _).push _) ⟨_,Mp _ rfl,rfl⟩
end
section
variable{prog:Program}{w:World}{A:Around}{E:ZW}{s:Shared}
end
end EnuT
namespace L2
open PySem PySem.Spec PyProof.Rows
section
variable{X:Cx}{es:ZC}{k:Nat}{p2 pos Jp:Pos}{a:Expr}{t:TA}
end
section
variable{X:Cx}
end
noncomputable def rngI(i:Int)(n:Nat):ZL:=(List.range n).map λk:Nat=>i+(k:Int)
section
variable{X:Cx}{p p2 pos Jp:Pos}{a b:Expr}{t:TA}
end
end L2
namespace EX
open PySem
section
variable{M:Model}{A:Around}{E:ZW}{s:Shared}{env:Env}{outer:List Env}{base:Heap}{L e T:Addr}{oe:Obj}{vs:ZN}{Q:ZA}
end
section
variable{M:Model}{A:Around}{E:ZW}{s:Shared}{env:Env}
end
section
variable{M:Model}{A:Around}{E:ZW}{s:Shared}{env:Env}
end
section
variable{prog:Program}{w:World}{A:Around}{E:ZW}{s:Shared}{env:Env}
end
section
variable{prog:Program}{w:World}{A:Around}{E:ZW}{h:Heap}{g:Array GenState}{d:Drawn}{t:Nat}{os:OsState}
variable{nm q:Str}{C N:Addr}{bs bm bmB:ZM}{hdct:Bool}{sn:ZD}{sub:ZM}{ab:Bool}{col:Option Bool}{dd:ZP}{k0 k1 k2 k3 k5:ZT}{B newId initId:String}
end
section
variable{prog:Program}{w:World}{A:Around}{E:ZW}{h:Heap}{g:Array GenState}{d:Drawn}{t:Nat}{os:OsState}
variable{nm q:Str}{C N:Addr}{bs bm bmB:ZM}{hdct:Bool}{sn:ZD}{sub:ZM}{ab:Bool}{col:Option Bool}{dd:ZP}{k0 k1 k2 k3 k5:ZT}{B newId initId:String}
end
end EX
namespace EX
open PySem Builtin Builtin.ObjectAttr
section
variable{prog:Program}{w:World}{A:Around}{E:ZW}{s:Shared}{x C:Addr}{o:Obj}{name:Str}{v:Value}
end
section
variable{prog:Program}{w:World}{A:Around}{E:ZW}{s:Shared}{x C dx:Addr}{o:Obj}{name:Str}{v:Value}{mA:ZV}{vs:ZN}
end
end EX
namespace EX
open PySem
section
variable{prog:Program}{w:World}{A:Around}{E:ZW}{h:Heap}{g:Array GenState}{d:Drawn}{t:Nat}{os:OsState}
variable{nm q:Str}{C N:Addr}{bs bm bmB:ZM}{hdct:Bool}{sn:ZD}{sub:ZM}{ab:Bool}{col:Option Bool}{dd:ZP}{k0 k1 k2 k3 k5:ZT}{B newId initId:String}
end
end EX
namespace EX
open PySem PySem.W Builtin Builtin.ObjectAttr
section
variable{prog:Program}{w:World}{A:Around}{E:ZW}{s:Shared}{x C:Addr}{o:Obj}{od:Option Obj}{K:Frag}
end
end EX
namespace L2
open PySem PySem.Spec PyProof.Rows
section
variable{P:Program}{w:World}{H:Hp}{h:Heap}{a C:Addr}{od:ZP}{new:Bool}{fs:List (Str×V)}
end
section
variable{K:W.Frag}{C x:Addr}{M:Model}{h:Heap}{f:Str}{o:Obj}
end
section
variable{X:Cx}{XB:ZY}{Z:St}{H:Hp}{s:Shared}{h':Heap}{t':Nat}
end
section
variable{X:Cx}{o e value:Expr}{f:Str}{pos pos':Pos}{ta tv:TE}
end
section
variable{X:Cx}{CX:qv}{k:Nat}{f C:Addr}{fd:FuncData}{ps:ZD}{sp:Sp}{E:XK}{x m:Str}{p pos:Pos}{e:Expr}{es:ZC}{t:TA}
end
section
variable{X:Cx}{XB pn:ZY}{Z:St}{H:Hp}{s:Shared}{e:Addr}{W:St->Hp->Addr->Addr->ZP->Prop}
end
section
variable{X:Cx}{XB:ZY}{Z:St}{H:Hp}{s:Shared}
end
section
variable{X:Cx}{W:St->Hp->Addr->Addr->ZP->Prop}
end
section
variable{X:Cx}
end
section
variable{X:Cx}
end
end L2
namespace EX
open PySem
section
variable{M:Model}{A:Around}{E:ZW}{s:Shared}{env:Env}{outer:List Env}{base:Heap}{L e T:Addr}{oe:Obj}{vs:ZN}{Q:ZA}
end
end EX
namespace L2
open PySem PySem.Spec PyProof.Rows
section
variable{X:Cx}{XB:ZY}{Z:St}{H:Hp}{s s':Shared}
end
section
variable{P:Program}{w:World}{K:W.Frag}{mg:ZV}{base:Heap}
end
section
variable{X:Cx}{W:XWT}{k:Nat}{x:Str}{ps:ZD}{sp:Sp}{p pos:Pos}{e:Expr}{es:ZC}{t:TA}{te:TE}
end
section
variable{X:Cx}{XB pn:ZY}{Z:St}{H:Hp}{s:Shared}{e:Addr}{W:XWT}
end
section
variable{X:Cx}
end
section
variable{X:Cx}
end
section
variable{X:Cx}{XB:ZY}{Z:St}{H:Hp}{s:Shared}
end
section
variable{X:Cx}{W:XWT}{k:Nat}{f C:Addr}{fd:FuncData}{m:Str}{ps:ZD}{sp:Sp}{o e:Expr}{es:ZC}{ta:TE}{t:TA}{p pos apos:Pos}
end
section
variable{X:Cx}
inductive J0(K:W.Frag)(xs:ZQ)(H:Hp)(Q:VK):Prop
 | mk(p ys)(Vd:xs=[.ref p])(Vm:(Uq K H p ys\/Vn K H p ys))(U0:∀t H',Zp H H'->Vn K H' t ys->Q (.ref t) H'):J0 K xs H Q
theorem Wg:Y0 X (.type "tuple") (λxs H Q=>J0 X.K xs H Q):=by
 intro XB s Z H xs us Q I rs h;obtain⟨p,ys,e,h,q⟩:=h;refine Lr XB s Z H xs us Q I rs ⟨p,ys,e,?_⟩;rcases h with h | h
 .exact .inl ⟨h,λl hl=>q l _ (Zp.lay hl) (Vn.of Zq)⟩
 .exact .inr ⟨h,q p H (Zp.refl H) h⟩
end
theorem t6(x:Str)(is:List Nat):∀c∈(Str.mk (is.filterMap (x.cps[·]?)).toArray).cps.toList,c∈x.cps.toList:=λc m=>by
 have m:c∈is.filterMap (x.cps[·]?):=by simpa using m
 obtain⟨i,_,e⟩:=List.mem_filterMap.mp m;have:=Array.mem_of_getElem? e;exact Array.mem_toList_iff.mpr this
theorem ix_hi(l:ZR)(k n:Nat):(Builtin.Str.strSliceIndices l (some (k:Int)) 1 n).length<=k:=by
 unfold Builtin.Str.strSliceIndices sliceRange;cases l<;>simp only[show (1:Int)>0 by decide,if_true,Vq,XJ]<;>(split<;>(try split)<;>(try split)<;>(try simp only[Int.ediv_one])<;>omega)
theorem bc(x:Str)(l:ZR)(k:Nat):(Txt.slice x l (some (k:Int))).length<=k:=by
 have h:=ix_hi l k x.length;unfold Txt.slice
 split
 .rename_i c
  simp only[Vl,beq_iff_eq]at c;omega
 .show (List.filterMap _ (Builtin.Str.strSliceIndices l (some (k:Int)) 1 x.length)).toArray.size<=k;rw[Ul];exact Tg (List.length_filterMap_le _ _) h
theorem jx(x:Str)(l u:ZR):∀c∈(Txt.slice x l u).cps.toList,c∈x.cps.toList:=by
 unfold Txt.slice
 split
 .exact λ_ m=>m
 .exact t6 x _
section
variable{X:Cx}{e:Expr}{te t1 t2:TE}{p2 p3 p4 pos:Pos}{j1:Nat}
end
section
variable{Z:Type}[DecidableEq Z]
noncomputable def G9(XM:List (Z×V))(k:Z):Option V:=(XM.find? λkv=>decide (kv.1=k)).map (·.2)
noncomputable def putK(XM:List (Z×V))(k:Z)(v:V):List (Z×V) :=
 if (XM.any λkv=>decide (kv.1=k))=true then XM.map (λkv=>if kv.1=k then (kv.1,v) else kv) else XM++[(k,v)]
noncomputable def Zwl(XM:List (Z×V))(k:Z):List (Z×V):=XM.filter λkv=>decide (kv.1≠k)
theorem Jr{p:Z×V}{r:List (Z×V)}{k:Z}(e:p.1=k):G9 (p::r) k=some p.2:=by simp[G9,List.find?_cons,e]
theorem Js{p:Z×V}{r:List (Z×V)}{k:Z}(e:¬ p.1=k):G9 (p::r) k=G9 r k:=by simp[G9,List.find?_cons,e]
theorem Od(k:Z):∀XM:List (Z×V),(XM.any λkv=>decide (kv.1=k))=(G9 XM k).isSome
 | []=>rfl
 | p::r=>by
  rw[List.any_cons];by_cases e:p.1=k
  .simp only[Jr e,Mz e,Bool.true_or,Option.isSome_some]
  .rw[Js e,Bf e,Bool.false_or];exact Od k r
theorem V3(XM:List (Z×V))(k:Z)(v:V):(putK XM k v).length<=XM.length+1:=by
 unfold putK
 split
 .rw[Vq];omega
 .rw[W7,Rz,List.length_nil];omega
theorem Tv.isSome_eq{o:Option V}{u:ZT}(r:Tv o u):o.isSome=u.isSome:=by
 cases o with
 | none=>cases u with
  | none=>rfl
  | some _=>exact(show False from r).elim
 | some _=>cases u with
  | none=>exact(show False from r).elim
  | some _=>rfl
theorem Tv.getD{o:Option V}{u:ZT}{d:V}{d':Value}(r:Tv o u)(rd:RelV d d'):RelV (o.getD d) (u.getD d'):=by
 cases o with
 | none=>cases u with
  | none=>exact rd
  | some _=>exact(show False from r).elim
 | some _=>cases u with
  | none=>exact(show False from r).elim
  | some _=>exact r
theorem KV.val{XM:List (Z×V)}{vs:List (Z×Value)}(r:KV XM vs)(k:Z):Tv (G9 XM k) (valueAt vs k):=by
 unfold KV at r
 induction r with
 | nil=>exact True.intro
 | @cons p q ps qs h t ih =>
  obtain⟨h1,h2⟩:=h;by_cases e:p.1=k
  .have e':q.1=k:=h1.symm.trans e;have b:valueAt (q::qs) k=some q.2:=by simp[valueAt,List.find?_cons,e']
   rw[Jr e,b];exact h2
  .have e':¬ q.1=k:=λz=>e (h1.trans z);have b:valueAt (q::qs) k=valueAt qs k:=by simp[valueAt,List.find?_cons,e']
   rw[Js e,b];exact ih
theorem KV.any{XM:List (Z×V)}{vs:List (Z×Value)}(r:KV XM vs)(k:Z):(XM.any λkv=>decide (kv.1=k))=vs.any λkv=>decide (kv.1=k):=by
 unfold KV at r
 induction r with
 | nil=>rfl
 | cons h t ih=>rw[List.any_cons,List.any_cons,ih,h.1]
theorem KV.repl{XM:List (Z×V)}{vs:List (Z×Value)}(r:KV XM vs)(k:Z){y:V}{u:Value}(ry:RelV y u) :
  KV (XM.map λkv=>if kv.1=k then (kv.1,y) else kv) (vs.map λkv=>if kv.1=k then (kv.1,u) else kv):=by
 unfold KV at r ⊢
 induction r with
 | nil=>exact .nil
 | @cons p q ps qs h t ih =>
  rw[C9,C9];refine .cons ?_ ih;obtain⟨h1,h2⟩:=h;by_cases e:p.1=k
  .rw[if_pos e,if_pos (h1.symm.trans e)];exact⟨h1,ry⟩
  .rw[if_neg e,if_neg (λz=>e (h1.trans z))];exact⟨h1,h2⟩
theorem KV.put{XM:List (Z×V)}{vs:List (Z×Value)}(r:KV XM vs)(k:Z){y:V}{u:Value}(ry:RelV y u):KV (putK XM k y) (stored vs k u):=by
 unfold putK stored;rw[r.any k];by_cases e:(vs.any λkv=>decide (kv.1=k))=true
 .rw[if_pos e,if_pos e];exact r.repl k ry
 .rw[if_neg e,if_neg e];exact Paired.snoc r ⟨rfl,ry⟩
theorem KV.drop{XM:List (Z×V)}{vs:List (Z×Value)}(r:KV XM vs)(k:Z):KV (Zwl XM k) (without vs k):=by
 unfold KV at r ⊢;unfold Zwl without
 induction r with
 | nil=>exact .nil
 | @cons p q ps qs h t ih =>
  obtain⟨h1,h2⟩:=h;rw[List.filter_cons,List.filter_cons];by_cases e:p.1=k
  .have a:¬ decide (p.1≠k)=true:=by simp[e]
   have b:¬ decide (q.1≠k)=true:=by simp[h1.symm.trans e]
   rw[if_neg a,if_neg b];exact ih
  .have e':¬ q.1=k:=λz=>e (h1.trans z);have a:decide (p.1≠k)=true:=by simp[e]
   have b:decide (q.1≠k)=true:=by simp[e']
   rw[if_pos a,if_pos b];exact .cons ⟨h1,h2⟩ ih
theorem KV.keys{XM:List (Z×V)}{vs:List (Z×Value)}(r:KV XM vs):XM.map (·.1)=vs.map (·.1):=by
 unfold KV at r
 induction r with
 | nil=>rfl
 | cons h t ih=>rw[C9,C9,ih,h.1]
theorem KV.length{XM:List (Z×V)}{vs:List (Z×Value)}(r:KV XM vs):XM.length=vs.length:=Paired.length r
end
theorem Np{P:Program}{w:World}{k:Key}{u:Value}(r:RelV (kV k) u):(Zh P w).is k u=true:=by
 cases k with
 | inl i=>obtain⟨t,e⟩:=(show ∃t,u=Value.int i t from r);subst e;exact Ss P w i t
 | inr x=>obtain⟨t,e⟩:=(show ∃t,u=Value.str x t from r);subst e;exact Sr P w x t
theorem Fv{P:Program}{w:World}:∀{ks:List Key} {us:ZM},Zd (ks.map kV) us->ItemsAre (Zh P w) ks us
 | [],_,r=>by rw[List.map_nil]at r;cases r;exact .nil
 | k::ks,_,r=>by
  rw[C9]at r;cases r with
  | cons h t=>exact .cons (Np h) (Fv t)
abbrev KT(H:Hp):List (List Key×V)->List (List Key×Addr×Value)->Prop:=Paired λp q=>p.1=q.1/\H q.2.1=some (.tup (p.1.map kV))/\RelV p.2 q.2.2
theorem KT.val{H:Hp}{XM:List (List Key×V)}{xs:List (List Key×Addr×Value)}(r:KT H XM xs)(k:List Key):Tv (G9 XM k) ((atKey xs k).map (·.2)):=by
 induction r with
 | nil=>exact True.intro
 | @cons p q ps qs h t ih =>
  obtain⟨h1,_,h2⟩:=h;by_cases e:p.1=k
  .have e':q.1=k:=h1.symm.trans e;have b:atKey (q::qs) k=some q.2:=by simp[atKey,List.find?_cons,e']
   rw[Jr e,b];exact h2
  .have e':¬ q.1=k:=λz=>e (h1.trans z);have b:atKey (q::qs) k=atKey qs k:=by simp[atKey,List.find?_cons,e']
   rw[Js e,b];exact ih
theorem KT.repl{H:Hp}{XM:List (List Key×V)}{xs:List (List Key×Addr×Value)}(r:KT H XM xs)(k:List Key){y:V}{u:Value}(ry:RelV y u) :
  KT H (XM.map λkv=>if kv.1=k then (kv.1,y) else kv) (xs.map (putAt k u)):=by
 induction r with
 | nil=>exact .nil
 | @cons p q ps qs h t ih =>
  rw[C9,C9];refine .cons ?_ ih;obtain⟨h1,h2,h3⟩:=h;unfold putAt;by_cases e:p.1=k
  .rw[if_pos e,if_pos (h1.symm.trans e)];exact⟨h1,h2,ry⟩
  .rw[if_neg e,if_neg (λz=>e (h1.trans z))];exact⟨h1,h2,h3⟩
theorem KT.put{H:Hp}{XM:List (List Key×V)}{xs:List (List Key×Addr×Value)}(r:KT H XM xs)(k:List Key){b:Addr}{y:V}{u:Value}(hb:H b=some (.tup (k.map kV)))(ry:RelV y u) :
  KT H (putK XM k y) (storedH xs k b u):=by
 have e:(XM.any λkv=>decide (kv.1=k))=(atKey xs k).isSome:=by
  rw[Od,(r.val k).isSome_eq,Option.isSome_map]
 unfold putK storedH;rw[e];by_cases q:(atKey xs k).isSome=true
 .rw[if_pos q,if_pos q];exact r.repl k ry
 .rw[if_neg q,if_neg q];exact Paired.snoc r ⟨rfl,hb,ry⟩
theorem KT.keeps{H H':Hp}{XM:List (List Key×V)}{xs:List (List Key×Addr×Value)}(r:KT H XM xs)(ht:∀b ys,H b=some (.tup ys)->H' b=some (.tup ys)):KT H' XM xs :=
 Paired.mapP r λ_ _ z=>⟨z.1,ht _ _ z.2.1,z.2.2⟩
section
variable{P:Program}{w:World}{H:Hp}{h:Heap}{a:Addr}
theorem rd_of{u:HO}(ok:Nx P w H h)(e:Rd H a u):Z4 P w H h a u:=e.ok ok
theorem Gi{XM:List (Key×V)}(ok:Nx P w H h)(e:Rd H a (.dK XM)):XM.length<=sizeLine/\(a==sysModules)=false/\∃vs,KV XM vs/\h.DictOf (Zh P w) a vs :=
 show Z4 P w H h a (.dK XM) from rd_of ok e
theorem Zwr{XM:List (Key×V)}(ok:Nx P w H h)(e:H a=some (.dK XM)):XM.length<=sizeLine/\(a==sysModules)=false/\∃vs,KV XM vs/\h.DictOf (Zh P w) a vs:=Gi ok (.inl e)
theorem M4{ks:List Key}(ok:Nx P w H h)(e:H a=some (.tup (ks.map kV))):(tupleKind (Zh P w)).is h ks a:=by
 obtain⟨_,XD,r,o,h1,h2,⟨n,h3⟩,_⟩:=(show Z4 P w H h a (.tup (ks.map kV)) from ok a _ e);exact⟨o,XD.toArray,n,h1,h2,h3,by simpa using Fv r⟩
theorem T1{XM:List (List Key×V)}(ok:Nx P w H h)(e:Rd H a (.dT XM)):XM.length<=sizeLine/\(a==sysModules)=false /\
  ∃xs,KT H XM xs/\h.DictOfH (tupleKind (Zh P w)) a xs:=by
 obtain⟨z,y,xs,r,o,es,ep,h1,h2,h3,h4,h5⟩:=(show Z4 P w H h a (.dT XM) from rd_of ok e);refine⟨z,y,xs,r,o,es,ep,h1,h2,h3,h4,λx hx=>?_,h5⟩
 have all:∀{l:List (List Key×V)} {m:List (List Key×Addr×Value)},KT H l m->∀x∈m,(tupleKind (Zh P w)).is h x.1 x.2.1:=by
  intro l m q
  induction q with
  | nil=>intro x hx;exact nomatch hx
  | @cons p q ps qs hq t ih =>
   intro x hx;rcases Y8.mp hx with e | hx
   .subst e;exact M4 ok (by rw[<-hq.1];exact hq.2.1)
   .exact ih x hx
 exact all r x hx
theorem dt_of{XM:List (List Key×V)}(ok:Nx P w H h)(e:H a=some (.dT XM)):XM.length<=sizeLine/\(a==sysModules)=false /\
  ∃xs,KT H XM xs/\h.DictOfH (tupleKind (Zh P w)) a xs:=T1 ok (.inl e)
end
def Nq(H:Hp)(a:Addr)(y:V)(r:Option V):Prop :=
 (∃XM k,Rd H a (.dK XM)/\y=kV k/\r=G9 XM k)\/∃XM k b,Rd H a (.dT XM)/\y=.ref b/\H b=some (.tup (k.map kV))/\r=G9 XM k
def I0(H:Hp)(a:Addr)(y v:V)(H':Hp):Prop :=
 (∃XM k,H a=some (.dK XM)/\y=kV k/\XM.length<sizeLine/\H'=upd H a (.dK (putK XM k v))) \/
 ∃XM k b,H a=some (.dT XM)/\y=.ref b/\H b=some (.tup (k.map kV))/\XM.length<sizeLine/\H'=upd H a (.dT (putK XM k v))
theorem Nq.k{H:Hp}{a:Addr}{XM:List (Key×V)}{k:Key}(e:H a=some (.dK XM)):Nq H a (kV k) (G9 XM k):=.inl ⟨XM,k,.inl e,rfl,rfl⟩
theorem Nq.t{H:Hp}{a b:Addr}{XM:List (List Key×V)}{k:List Key}(e:H a=some (.dT XM))(eb:H b=some (.tup (k.map kV))):Nq H a (.ref b) (G9 XM k):=.inr ⟨XM,k,b,.inl e,rfl,eb,rfl⟩
theorem I0.k{H:Hp}{a:Addr}{XM:List (Key×V)}{k:Key}{v:V}(e:H a=some (.dK XM))(hl:XM.length<sizeLine):I0 H a (kV k) v (upd H a (.dK (putK XM k v))):=.inl ⟨XM,k,e,rfl,hl,rfl⟩
theorem I0.t{H:Hp}{a b:Addr}{XM:List (List Key×V)}{k:List Key}{v:V}(e:H a=some (.dT XM))(eb:H b=some (.tup (k.map kV)))(hl:XM.length<sizeLine) :
  I0 H a (.ref b) v (upd H a (.dT (putK XM k v))):=.inr ⟨XM,k,b,e,rfl,eb,hl,rfl⟩
section
variable{X:Cx}{XB:ZY}{Z:St}{H:Hp}{s:Shared}{a:Addr}{y v:V}{u r:Value}{o:Option V}{A:Around}{E:ZW}
theorem Inv.big(I:Inv X XB Z H s):sysModules<s.heap.objs.size:=by
 have h:mainGlobals<s.heap.objs.size:=(I.mod.glob.keeps I.bk).lt;exact Nat.lt_trans XU h
theorem vg{Q:ZW}(hu:A.units+1<cLine)(I:Inv X XB Z H s)(g:Nq H a y (some v))(ry:RelV y u)(h:∀w' s',Inv X XB Z H s'->RelV v w'->Q w' s') :
  wpAny (model X.prog X.w) A (getItem (.ref a) u) Q E s:=by
 rcases g with ⟨XM,k,e,ey,l⟩ | ⟨XM,k,b,e,ey,eb,l⟩
 .subst ey;obtain⟨z,hd,vs,rel,dd⟩:=Gi I.hok e;obtain⟨w',hw,Qc⟩:=Tv.some_of (v:=v) (o:=valueAt vs k) (by rw[l];exact rel.val k);exact wpAny_getItem_of (Np ry) dd.mapOf hw (h w' _ (I.tok _) Qc)
 .subst ey;cases(show u=Value.ref b from ry);obtain⟨z,hd,xs,rel,dd⟩:=T1 I.hok e;obtain⟨w',hw,Qc⟩:=Tv.some_of (v:=v) (o:=(atKey xs k).map (·.2)) (by rw[l];exact rel.val k);obtain⟨p,hp,hp2⟩:=Yr.mp hw;refine wpAny_getItem_heap (tupleKind_room_in1 hu) (M4 I.hok eb) dd hp ?_;rw[hp2];exact h w' _ (I.tok _) Qc
theorem d_in{Q:ZW}(hu:A.units+1<cLine)(I:Inv X XB Z H s)(g:Nq H a y o)(ry:RelV y u)(h:∀s',Inv X XB Z H s'->Q (.bool o.isSome) s') :
  wpAny (model X.prog X.w) A (compareOp .In u (.ref a)) Q E s:=by
 rcases g with ⟨XM,k,e,ey,l⟩ | ⟨XM,k,b,e,ey,eb,l⟩
 .subst ey;obtain⟨z,hd,vs,rel,dd⟩:=Gi I.hok e;refine wpAny_in_of (Np ry) hd dd.mapOf ?_;rw[<-(rel.val k).isSome_eq, <-l];exact h _ (I.tok _)
 .subst ey;cases(show u=Value.ref b from ry);obtain⟨z,hd,xs,rel,dd⟩:=T1 I.hok e;refine wpAny_in_heap (tupleKind_room_in1 hu) (M4 I.hok eb) hd dd ?_;have q:=(rel.val k).isSome_eq;rw[Option.isSome_map]at q;rw[<-q, <-l];exact h _ (I.tok _)
theorem Zjj{Q:ZW}(hu:A.units+1<cLine)(I:Inv X XB Z H s)(g:Nq H a y o)(ry:RelV y u)(h:∀s',Inv X XB Z H s'->Q (.bool (!o.isSome)) s') :
  wpAny (model X.prog X.w) A (compareOp .NotIn u (.ref a)) Q E s:=by
 rcases g with ⟨XM,k,e,ey,l⟩ | ⟨XM,k,b,e,ey,eb,l⟩
 .subst ey;obtain⟨z,hd,vs,rel,dd⟩:=Gi I.hok e;refine wpAny_notIn_of (Np ry) hd dd.mapOf ?_;rw[<-(rel.val k).isSome_eq, <-l];exact h _ (I.tok _)
 .subst ey;cases(show u=Value.ref b from ry);obtain⟨z,hd,xs,rel,dd⟩:=T1 I.hok e;refine wpAny_notIn_heap (tupleKind_room_in1 hu) (M4 I.hok eb) hd dd ?_;have q:=(rel.val k).isSome_eq;rw[Option.isSome_map]at q;rw[<-q, <-l];exact h _ (I.tok _)
theorem Pe{h':Heap}{t':Nat}{ob:HO}(I:Inv X XB Z H s)(mu:Mut (H a))(hs:Heap.SameBut a s.heap h')(he:∃q,h'.get? a=some q)(new:Z4 X.prog X.w (upd H a ob) h' a ob) :
  Inv X XB Z (upd H a ob) { s with heap:=h',toks:=t' } :=
 I.write (x:=a) (e:=a) mu (.inl rfl) (λb q hb z=>(hs.2 b hb).trans z) he new
theorem Po{P:Program}{w:World}{H':Hp}{h':Heap}{XM:List (Key×V)}{vs:List (Key×Value)}(z:XM.length<=sizeLine)(hd:(a==sysModules)=false)(rel:KV XM vs)(dd:h'.DictOf (Zh P w) a vs) :
  Z4 P w H' h' a (.dK XM):=⟨z,hd,vs,rel,dd⟩
theorem vy{H':Hp}{Q:ZA}(hu:A.units+1<cLine)(I:Inv X XB Z H s)(g:I0 H a y v H')(ry:RelV y u)(rv:RelV v r)(h:∀s',Inv X XB Z H' s'->Q () s') :
  wpAny (model X.prog X.w) A (setItem (.ref a) u r) Q E s:=by
 rcases g with ⟨XM,k,e,ey,l,eH⟩ | ⟨XM,k,b,e,ey,eb,l,eH⟩
 .subst ey eH;obtain⟨z,hd,vs,rel,dd⟩:=Zwr I.hok e;have hz:vs.length<=sizeLine:=by rw[<-rel.length];exact z
  have hl:(putK XM k v).length<=sizeLine:=by have:=V3 XM k v;omega
  refine wpAny_setItem_pairs (hsz:=hz) (Np ry) dd λh' uz hs=>h _ ?_;have he:∃q,h'.get? a=some q:=let ⟨q,_,_,hq,_⟩:=uz;⟨q,hq⟩;exact Pe I (by rw[e];exact True.intro) hs he (Po hl hd (rel.put k rv) uz)
 .subst ey eH;cases(show u=Value.ref b from ry);obtain⟨z,hd,xs,rel,dd⟩:=dt_of I.hok e;have hz:xs.length<=sizeLine:=by rw[<-Paired.length rel];exact z
  have hl:(putK XM k v).length<=sizeLine:=by have:=V3 XM k v;omega
  refine wpAny_setItem_heap (hsz:=hz) (tupleKind_room_in1 hu) (M4 I.hok eb) dd λh' uz hs=>h _ ?_;obtain⟨q,es,ep,hq,h2,h3,h4,_,h5⟩:=uz;refine Pe I (by rw[e];exact True.intro) hs ⟨q,hq⟩ ⟨hl,hd,_,(rel.put k eb rv).keeps λc ys ec=>?_,q,es,ep,hq,h2,h3,h4,h5⟩;rw[Zz (ne_of ec e (λz=>nomatch z))];exact ec
end
section
variable{X:Cx}{XB:ZY}{Z:St}{H:Hp}{s:Shared}{a:Addr}{XM:List (Key×V)}{k:Key}{u:Value}{A:Around}{E:ZW}
theorem d_len{Q:ZW}(I:Inv X XB Z H s)(e:Rd H a (.dK XM))(h:∀t s',Inv X XB Z H s'->Q (.int XM.length t) s'):wpAny (model X.prog X.w) A (call (.builtin "len") [.ref a]) Q E s:=by
 obtain⟨z,hd,vs,rel,dd⟩:=Gi I.hok e;refine call_len_dict hd dd (by rw[<-rel.length];rw[sizeLine_eq]at z;omega) ?_;rw[<-rel.length];exact h _ _ (I.tok _)
end
theorem Eu{X:Cx}{XB:ZY}{Z:St}{H:Hp}{s:Shared}{a:Addr}{y:V}{o:Option V}(I:Inv X XB Z H s)(g:Nq H a y o):s.TypeIs (.ref a) "dict" := by
 rcases g with ⟨XM,k,e,_,_⟩ | ⟨XM,k,b,e,_,_,_⟩
 .obtain⟨_,_,vs,_,dd⟩:=Gi I.hok e;exact dd.typeIs
 .obtain⟨_,_,xs,_,dd⟩:=T1 I.hok e;exact dd.typeIs
inductive Xu(D:Ends)(Z:St)(v:V)(x:V)(y:V)(H3:Hp):Prop
 | mk(a H4)(Vd:x=.ref a)(Vm:I0 H3 a y v H4)(U0:D.nx Z H4):Xu D Z v x y H3
def sDPut(td ty tv:TE):TS:=λD Z H=>tv Z H λv H1=>td Z H1 λx H2=>ty Z H2 λy H3=>Xu D Z v x y H3
section
variable{X:Cx}{o i e value:Expr}{pos pos' tpos:Pos}{td ty tv:TE}
theorem Zz7(hu:X.A.units+1<cLine)(ho:PE X o td)(hi:PE X i ty)(hv:PE X value tv)(hs:swapsWith value (some (.Subscript o i pos')) pos.line X.env=pure false) :
  PS X (.Assign [.Subscript o i pos'] value pos) (sDPut td ty tv):=by
 intro XB s Z H D I h;refine wpAny_Assign_Subscript (Yj (hv XB s Z H _ I h) λr s1 ⟨v,H1,I1,rv,q1⟩=>Yj (ho XB s1 Z H1 _ I1 q1) λu s2 ⟨x,H2,I2,rx,q2⟩=>Yj (hi XB s2 Z H2 _ I2 q2) λiv s3 ⟨y,H3,I3,ry,a,H4,ex,g,q3⟩=>?_) hs;subst ex;obtain rfl:u=Value.ref a:=rx;exact vy hu I3 g ry rv λs4 I4=>⟨Z,H4,I4,q3⟩
end
theorem Ep{P:Program}{w:World}{H:Hp}(h:Heap)(hb:sysModules<h.objs.size):Z4 P w H (h.push { cls:=.type "dict",data:=.dict #[] }) h.objs.size (.dK []) :=
 ⟨Io _,B0n.mpr (Ne.symm (Tf hb)),[],.nil,Heap.DictOf.new h⟩
def tDNewK:TE:=λ_ H Q=>∀p,H p=none->Q (.ref p) (upd H p (.dK []))
section
variable{X:Cx}{pos:Pos}
theorem cw:PE X (.Dict [] [] pos) tDNewK:=λXB s Z H Q I h =>
 wpAny_Dict_empty ⟨.ref s.heap.objs.size,_,I.laid (a:=s.heap.objs.size) (o:=.dK []) (t':=s.toks) (λ_ _ q=>Vp _ q) (Vy _) (Ep s.heap I.big),rfl,h _ (I.hok.fresh (Vy _))⟩
end
def Hf:List (TE×TE)->St->Hp->(List (V×V)->Hp->Prop)->Prop
 | [],_,H,Q=>Q [] H
 | (tk,tv)::r,Z,H,Q=>tk Z H λx H1=>tv Z H1 λy H2=>Hf r Z H2 λps H3=>Q ((x,y)::ps) H3
abbrev VV:List (V×V)->List (Value×Value)->Prop:=Paired λp q=>RelV p.1 q.1/\RelV p.2 q.2
def PPs(X:Cx)(pos:Pos)(keys:List (Option Expr))(values:ZC)(trs:List (TE×TE)):Prop :=
 ∀(XB:ZY) (s:Shared) (Z:St) (H:Hp) (Q:List (V×V)->Hp->Prop),Inv X XB Z H s->Hf trs Z H Q ->
  wpAny (model X.prog X.w) X.A (evalPairs (pairTrees keys values X.env pos)) (λvs s'=>∃ps H',Inv X XB Z H' s'/\VV ps vs/\Q ps H') X.xe s
theorem Zz9{X:Cx}{pos:Pos}:PPs X pos [] [] []:=λXB s Z H Q I h=>pairTrees_nil_walk ⟨[],H,I,.nil,h⟩
theorem Sj{X:Cx}{pos:Pos}{k v:Expr}{ks:List (Option Expr)}{vs:ZC}{tk tv:TE}{trs:List (TE×TE)}(hk:PE X k tk)(hv:PE X v tv)(hr:PPs X pos ks vs trs) :
  PPs X pos (some k::ks) (v::vs) ((tk,tv)::trs):=λXB s Z H Q I h =>
 pairTrees_cons_walk (Yj (hk XB s Z H _ I h) λu s1 ⟨x,H1,I1,rx,q1⟩=>Yj (hv XB s1 Z H1 _ I1 q1) λw2 s2 ⟨y,H2,I2,ry,q2⟩ =>
  Yj (hr XB s2 Z H2 _ I2 q2) λws s3 ⟨ps,H3,I3,rel,q3⟩=>⟨(x,y)::ps,H3,I3,.cons ⟨rx,ry⟩ rel,q3⟩)
noncomputable def V8(XM more:List (Key×V)):List (Key×V):=more.foldl (λacc kv=>putK acc kv.1 kv.2) XM
theorem KV.merge:∀{more:List (Key×V)} {rs:List (Key×Value)} {XM:List (Key×V)} {vs:List (Key×Value)},KV more rs->KV XM vs->KV (V8 XM more) (merged vs rs):=by
 intro more rs XM vs r;unfold KV at r
 induction r generalizing XM vs with
 | nil=>intro q;exact q
 | @cons p q ps qs h t ih =>
  intro r0
  have e:KV (putK XM p.1 p.2) (stored vs q.1 q.2):=by
   have:=r0.put p.1 h.2;rw[<-h.1];exact this
  exact ih e
theorem Mn:∀(more XM:List (Key×V)),(V8 XM more).length<=XM.length+more.length
 | [],XM=>by show XM.length<=XM.length+0;omega
 | p::r,XM=>by
  have h1:=Mn r (putK XM p.1 p.2);have h2:=V3 XM p.1 p.2;show (V8 (putK XM p.1 p.2) r).length<=_;rw[Rz];omega
theorem Wk{P:Program}{w:World}:∀{XM:List (Key×V)} {ws:List (Value×Value)},VV (XM.map λkv=>(kV kv.1,kv.2)) ws->∃rs,Carries (Zh P w) ws rs/\KV XM rs
 | [],_,r=>by rw[List.map_nil]at r;cases r;exact⟨[],True.intro,.nil⟩
 | p::XM,_,r=>by
  rw[C9]at r;cases r with
  | @cons a b as bs h t =>
   obtain⟨rs,c,q⟩:=Wk (P:=P) (w:=w) t;obtain⟨b1,b2⟩:=b;exact⟨(p.1,b2)::rs,⟨Np h.1,rfl,c⟩,.cons ⟨rfl,h.2⟩ q⟩
def tDisp(trs:List (TE×TE)):TE:=λZ H Q=>∀p,H p=none->Hf trs Z (upd H p (.dK [])) λps H2=>H2 p=some (.dK [])/\∃XM:List (Key×V),ps=XM.map (λkv=>(kV kv.1,kv.2))/\XM.length<=15/\Q (.ref p) (upd H2 p (.dK (V8 [] XM)))
theorem Zxv{X:Cx}{pos:Pos}{keys:List (Option Expr)}{values:ZC}{trs:List (TE×TE)}(h:PPs X pos keys values trs)(hall:keys.all (·.isSome)=true)(hl:keys.length=values.length)(h0:keys≠[])
  (h15:keys.length<=15):PE X (.Dict keys values pos) (tDisp trs):=by
 intro XB s Z H Q I q;have hn:=I.hok.fresh (Vy s.heap.objs.size);have I1:=I.laid (a:=s.heap.objs.size) (o:=.dK []) (h':=s.heap.push { cls:=.type "dict",data:=.dict #[] }) (t':=s.toks) (λ_ _ q=>Vp _ q) (Vy _) (Ep s.heap I.big);refine wpAny_Dict_walk (knd:=Zh X.prog X.w) hall hl h0 h15 (Yj (h XB _ Z _ _ I1 (q _ hn)) λws s2 ⟨ps,H2,I2,rel,e,XM,ep,lk,q2⟩=>?_);subst ep;obtain⟨rs,c,rk⟩:=Wk (P:=X.prog) (w:=X.w) rel;obtain⟨z,hd,vs0,r0,dd⟩:=Zwr I2.hok e;cases r0;refine⟨rs,c,dd,λh' uz hs=>⟨.ref s.heap.objs.size,_,?_,rfl,q2⟩⟩
 have hz:(V8 [] XM).length<=sizeLine:=by
  have h1:=Mn XM [];rw[List.length_nil]at h1;rw[sizeLine_eq];omega
 have he:∃q,h'.get? s.heap.objs.size=some q:=let ⟨q,_,_,hq,_⟩:=uz;⟨q,hq⟩;exact Pe I2 (by rw[e];exact True.intro) hs he (Po hz hd (rk.merge .nil) uz)
structure M1(X:Cx)(o:Expr)(m:Str)(apos:Pos)(e:Expr)(cpos:Pos):Prop where
 base:attributeBase o m X.env (eval o X.env)=eval o X.env
 few:((backTo cpos (starEach [e] X.env)).all (λx=>!x.1)&&(backToKw cpos (keywordEach [] X.env)).all (λx=>x.1.isSome)
  && decide (([e]:ZC).length+([]:List Keyword).length+(if ([]:List Keyword).isEmpty then 0 else 1)<30))=true
 line:(apos.endLine==cpos.line)=true
 trees:backTo cpos (starEach [e] X.env)=[(false,eval e X.env)]
structure M2(X:Cx)(o:Expr)(m:Str)(apos:Pos)(e f:Expr)(cpos:Pos):Prop where
 base:attributeBase o m X.env (eval o X.env)=eval o X.env
 few:((backTo cpos (starEach [e,f] X.env)).all (λx=>!x.1)&&(backToKw cpos (keywordEach [] X.env)).all (λx=>x.1.isSome)
  && decide (([e,f]:ZC).length+([]:List Keyword).length+(if ([]:List Keyword).isEmpty then 0 else 1)<30))=true
 line:(apos.endLine==cpos.line)=true
 trees:backTo cpos (starEach [e,f] X.env)=[(false,eval e X.env),(false,eval f X.env)]
def ag(H:Hp)(a:Addr):Prop:=(∃XM,Rd H a (.dK XM))\/∃XM,Rd H a (.dT XM)
theorem R6{X:Cx}{XB:ZY}{Z:St}{H:Hp}{s:Shared}{a:Addr}(I:Inv X XB Z H s)(d:ag H a) :
  s.TypeIs (.ref a) "dict" /\ (∀b,Value.ref a=.ref b->∃ob,s.heap.get? b=some ob/\ob.dict=none)/\(a==sysModules)=false:=by
 rcases d with ⟨XM,e⟩ | ⟨XM,e⟩
 .obtain⟨_,hd,vs,_,dd⟩:=Gi I.hok e;refine⟨dd.typeIs,λb q=>?_,hd⟩;cases q;obtain⟨ob,_,_,h1,h2,_⟩:=dd;exact⟨ob,h1,h2.2.1⟩
 .obtain⟨_,hd,xs,_,dd⟩:=T1 I.hok e;refine⟨dd.typeIs,λb q=>?_,hd⟩;cases q;obtain⟨ob,_,_,h1,h2,_⟩:=dd;exact⟨ob,h1,h2.2.1⟩
section
variable{X:Cx}{XB:ZY}{Z:St}{H:Hp}{s:Shared}{a:Addr}{y d:V}{u r:Value}{o:Option V}{A:Around}{E:ZW}
theorem d_get1{Q:ZW}(hu:A.units+1<cLine)(I:Inv X XB Z H s)(g:Nq H a y o)(ry:RelV y u)(h:∀w' s',Inv X XB Z H s'->RelV (o.getD .non) w'->Q w' s') :
  wpAny (model X.prog X.w) A (call (.builtin "dict.get") [.ref a,u]) Q E s:=by
 rcases g with ⟨XM,k,e,ey,l⟩ | ⟨XM,k,b,e,ey,eb,l⟩
 .subst ey;obtain⟨z,hd,vs,rel,dd⟩:=Gi I.hok e;refine call_meetsIn PySem.F.slot_dict_get dd.typeIs PySem.F.entry_dict_get (PySem.F.args_dict_get_2 _ _) (meets_dict_get (Zh X.prog X.w) a (Np ry) hd) ⟨_,dd.mapOf,h _ _ (I.tok _) ?_⟩;rw[l];exact(rel.val k).getD rfl
 .subst ey;cases(show u=Value.ref b from ry);obtain⟨z,hd,xs,rel,dd⟩:=T1 I.hok e;refine call_meetsIn PySem.F.slot_dict_get dd.typeIs PySem.F.entry_dict_get (PySem.F.args_dict_get_2 _ _) (meetsH_dict_get (tupleKind (Zh X.prog X.w)) a b hd) ⟨tupleKind_room_in1 hu,k,xs,M4 I.hok eb,dd,h _ _ (I.tok _) ?_⟩;rw[l];exact(rel.val k).getD rfl
theorem d_get2{Q:ZW}(hu:A.units+1<cLine)(I:Inv X XB Z H s)(g:Nq H a y o)(ry:RelV y u)(rd:RelV d r)(h:∀w' s',Inv X XB Z H s'->RelV (o.getD d) w'->Q w' s') :
  wpAny (model X.prog X.w) A (call (.builtin "dict.get") [.ref a,u,r]) Q E s:=by
 rcases g with ⟨XM,k,e,ey,l⟩ | ⟨XM,k,b,e,ey,eb,l⟩
 .subst ey;obtain⟨z,hd,vs,rel,dd⟩:=Gi I.hok e;refine call_meetsIn PySem.F.slot_dict_get dd.typeIs PySem.F.entry_dict_get (PySem.F.args_dict_get_3 _ _ _) (meets_dict_get_default (Zh X.prog X.w) a (Np ry) hd r) ⟨_,dd.mapOf,h _ _ (I.tok _) ?_⟩;rw[l];exact(rel.val k).getD rd
 .subst ey;cases(show u=Value.ref b from ry);obtain⟨z,hd,xs,rel,dd⟩:=T1 I.hok e;refine call_meetsIn PySem.F.slot_dict_get dd.typeIs PySem.F.entry_dict_get (PySem.F.args_dict_get_3 _ _ _) (meetsH_dict_get_default (tupleKind (Zh X.prog X.w)) a b hd r) ⟨tupleKind_room_in1 hu,k,xs,M4 I.hok eb,dd,h _ _ (I.tok _) ?_⟩;rw[l];exact(rel.val k).getD rd
end
inductive Ou(ty:TE)(Z:St)(Q:VK)(x:V)(H1:Hp):Prop
 | mk(a)(Vd:x=.ref a)(Vm:ag H1 a)(U0:ty Z H1 λy H2=>∃o,Nq H2 a y o/\Q (o.getD .non) H2):Ou ty Z Q x H1
def tDGet1(td ty:TE):TE:=λZ H Q=>td Z H λx H1=>Ou ty Z Q x H1
inductive Oh(ty:TE)(tx:TE)(Z:St)(Q:VK)(x:V)(H1:Hp):Prop
 | mk(a)(Vd:x=.ref a)(Vm:ag H1 a)(U0:ty Z H1 λy H2=>tx Z H2 λz H3=>∃o,Nq H3 a y o/\Q (o.getD z) H3):Oh ty tx Z Q x H1
def tDGet2(td ty tx:TE):TE:=λZ H Q=>td Z H λx H1=>Oh ty tx Z Q x H1
section
variable{X:Cx}{o e f:Expr}{apos cpos:Pos}{td ty tx:TE}
theorem cv(hu:X.A.units+1<cLine)(ho:PE X o td)(he:PE X e ty)(m:M1 X o "get" apos e cpos):PE X (.Call (.Attribute o "get" apos) [e] [] cpos) (tDGet1 td ty):=by
 intro XB s Z H Q I h;refine wpAny_Call_method m.base m.few m.line PySem.F.plainAttrs_dict PySem.F.slot_dict_get PySem.F.type_dict_get (Yj (ho XB s Z H _ I h) λu s1 ⟨x,H1,I1,rx,a,ex,d,q1⟩=>?_);subst ex;obtain rfl:u=Value.ref a:=rx;obtain⟨t1,t2,_⟩:=R6 I1 d;refine⟨t1,t2,?_⟩;rw[m.trees];refine Calls.callWith_builtin rfl (Calls.evalArgs_plain (Calls.spliced_cons (Yj (he XB s1 Z H1 _ I1 q1) λiv s2 ⟨y,H2,I2,ry,ov,g,q2⟩=>Calls.spliced_nil ?_)));exact d_get1 hu I2 g ry λw' s3 I3 Qc=>⟨_,H2,I3,Qc,q2⟩
theorem Sv(hu:X.A.units+1<cLine)(ho:PE X o td)(he:PE X e ty)(hf:PE X f tx)(m:M2 X o "get" apos e f cpos):PE X (.Call (.Attribute o "get" apos) [e,f] [] cpos) (tDGet2 td ty tx):=by
 intro XB s Z H Q I h;refine wpAny_Call_method m.base m.few m.line PySem.F.plainAttrs_dict PySem.F.slot_dict_get PySem.F.type_dict_get (Yj (ho XB s Z H _ I h) λu s1 ⟨x,H1,I1,rx,a,ex,d,q1⟩=>?_);subst ex;obtain rfl:u=Value.ref a:=rx;obtain⟨t1,t2,_⟩:=R6 I1 d;refine⟨t1,t2,?_⟩;rw[m.trees]
 refine Calls.callWith_builtin rfl (Calls.evalArgs_plain (Calls.spliced_cons (Yj (he XB s1 Z H1 _ I1 q1) λiv s2 ⟨y,H2,I2,ry,q2⟩ =>
  Calls.spliced_cons (Yj (hf XB s2 Z H2 _ I2 q2) λfv s3 ⟨z,H3,I3,rz,ov,g,q3⟩=>Calls.spliced_nil ?_))))
 exact d_get2 hu I3 g ry rz λw' s4 I4 Qc=>⟨_,H3,I4,Qc,q3⟩
end
section
variable{X:Cx}{XB:ZY}{Z:St}{H:Hp}{s:Shared}{a:Addr}{XM:List (Key×V)}{A:Around}{E:ZW}
theorem ux{Q:ZW}(I:Inv X XB Z H s)(e:Rd H a (.dK XM))(h:∀p s',H p=none->Inv X XB Z (upd H p (.dK XM)) s'->Q (.ref p) s'):wpAny (model X.prog X.w) A (call (.type "dict") [.ref a]) Q E s:=by
 obtain⟨z,hd,vs,rel,dd⟩:=Gi I.hok e;refine kt_call_dict hd dd (by rw[<-rel.length];exact z) λh' uz hs=>?_;refine h _ _ (I.hok.fresh (Vy _)) (I.laid (a:=s.heap.objs.size) (o:=.dK XM) (t':=s.toks) (λb q hq=>?_) (Vy _) (Po z (B0n.mpr (Ne.symm (Tf I.big))) rel uz));exact(hs.2 b (Tf (V5 hq))).trans (Vp _ hq)
end
section
variable{X:Cx}{XB:ZY}{Z:St}{H:Hp}{s:Shared}{a:Addr}{y:V}{u:Value}{A:Around}{E:ZW}
end
section
variable{X:Cx}
end
section
variable{Z:Type}[DecidableEq Z]
end
section
variable{X:Cx}{XB:ZY}{Z:St}{H:Hp}{s:Shared}
theorem Inv.freeze{d:Addr}{XM:List (Key×V)}(I:Inv X XB Z H s)(e:H d=some (.dK XM)):∃o,s.heap.get? d=some o/\Inv X XB Z (upd H d (.frz o (.dK XM))) s:=by
 obtain⟨z,y,vs,r,o,es,ep,ho,c⟩:=(show Z4 X.prog X.w H s.heap d (.dK XM) from I.hok d _ e)
 have ne:∀{b:Addr} {u:HO},H b=some u->(∀k,u≠.dK k)->b≠d:=λh n z=>by
  rw[z,e]at h;cases h;exact n _ rfl
 refine⟨o,ho,?_⟩;refine I.step (g':=s.gens) (d':=s.drawn) (t':=s.toks) (h':=s.heap) (ch:=[]) (λ_ z=>nomatch z) (λ_ _ _ _ _ h _=>h) (λ_ o _ _ _ h _=>⟨o.slots,h⟩) (λb _ _ _ n=>?_) (λ_ o _ h=>⟨o,h⟩) (λb xs h=>?_) (λb o u h=>?_) (λb ps h=>⟨#[],?_⟩) (λ_ h=>h) (λb u h=>?_) I.bare
 .rw[Zz (λz=>by rw[z,e]at n;cases n)];exact n
 .rw[Zz (ne h λ_ z=>nomatch z)];exact h
 .rw[Zz (ne h λ_ z=>nomatch z)];exact h
 .rw[Zz (ne h λ_ z=>nomatch z),h];simp
 .by_cases q:b=d
  .subst q;rw[Zq]at h;cases h;exact⟨ho,z,y,vs,r,o,es,ep,ho,c⟩
  .rw[Zz q]at h;refine(I.hok b u h).stay (λc v hc q=>q) (λc q=>?_) λc xs q=>?_
   .rw[Zz (ne q λ_ z=>nomatch z)];exact q
   .rw[Zz (ne q λ_ z=>nomatch z)];exact q
noncomputable def Itd(d:Addr)(o:Obj)(XM:List (Key×V)):It :=
 ⟨λi H=>i<XM.length/\H d=some (.frz o (.dK XM)),λi H v H'=>H'=H/\∃k x,XM[i]?=some (k,x)/\v=kV k,λi H=>XM.length<=i/\H d=some (.frz o (.dK XM))⟩
theorem at_of{d:Addr}{o:Obj}{XM:List (Key×V)}(I:Inv X XB Z H s)(e:H d=some (.frz o (.dK XM))):∃vs es ep,(d==sysModules)=false/\KV XM vs/\o.data=.dict es ep/\s.heap.DictAt (Zh X.prog X.w) d vs ep:=by
 obtain⟨ho,z,y,vs,r,o',es,ep,B1,c⟩:=(show Z4 X.prog X.w H s.heap d (.frz o (.dK XM)) from I.hok d _ e);rw[ho]at B1;cases B1;exact⟨vs,es,ep,y,r,c.2.1,o,es,ho,c⟩
theorem KV.at{Z:Type}:∀{XM:List (Z×V)} {vs:List (Z×Value)} {i:Nat} {k:Z} {x:V},KV XM vs->XM[i]?=some (k,x)->∃v,vs[i]?=some (k,v)
 | [],_,i,k,x,_,e=>by simp at e
 | a::XM,_,0,k,x,.cons h t,e=>by
  rename_i b bs
  simp at e;subst e;exact⟨b.2,by rw[show k=b.1 from h.1];rfl⟩
 | a::XM,_,i+1,k,x,.cons h t,e=>by
  obtain⟨v,e'⟩:=KV.at (i:=i) t (by simpa using e);exact⟨v,by simpa using e'⟩
theorem kV_rel{P:Program}{w:World}{k:Key}{u:Value}(h:(Zh P w).is k u=true):RelV (kV k) u:=by
 rcases Z5 (show Te k u=true from h) with ⟨j,t,rfl,rfl⟩ | ⟨x,t,rfl,rfl⟩
 .exact⟨t,rfl⟩
 .exact⟨t,rfl⟩
theorem qc{P:Program}{w:World}{K:W.Frag}{tg:Expr}(d it:Addr)(o:Obj)(XM:List (Key×V))(es:Array DictEntry)(ep:Nat)(ho:o.data=.dict es ep) :
  Turn P w K tg (Itd d o XM) [it] it (λi h=>h.IsKeyIter it d i XM.length ep) where
 mem:=by simp
 obj:=λi h st b hb=>by
  have e:b=it:=by simpa using hb
  subst e;obtain⟨o,e,c,d⟩:=st;exact⟨o,e,λv z=>by rw[d]at z;cases z⟩
 keep:=λi h h' st k=>by
  obtain⟨o,e,c,d⟩:=st;exact⟨o,k it XA o e,c,d⟩
 item:=by
  intro X hP hw hK hc i XB s Z H E I hf st hg;subst hP hw hK;obtain⟨hi,hd⟩:=hg;obtain⟨vs,ph,ep',y,r,e',m⟩:=at_of I hd;rw[ho]at e';cases e';obtain⟨f0,f1,f2,f3,f4,f5⟩:=hf it XA;obtain⟨v,hv⟩:=KV.at (i:=i) (k:=XM[i].1) (x:=XM[i].2) r (Tc hi);have ln:=r.length;refine wpAny_pyNext_dict_item (by rw[<-ln];exact st) m hv λkey h' hk Ko sb=>?_;have I1:Inv X XB Z H { s with heap:=h' }:=I.turned (t':=s.toks) (λb o hb e=>(sb.2 b hb).trans e) f0 f1 f3 f4 f5;obtain⟨oo,e,c,dd⟩:=id Ko;exact⟨key,rfl,Ew (s:={ s with heap:=h' }) e c dd XU ⟨kV XM[i].1,H,I1,kV_rel hk,⟨rfl,_,_,Tc hi,rfl⟩,by rw[ln];exact Ko,λb hb=>(hf b hb).1⟩⟩
 done:=by
  intro X hP hw hK hc i XB s Z H E I hf st hg;subst hP hw hK;obtain⟨hi,hd⟩:=hg;obtain⟨vs,ph,ep',y,r,e',m⟩:=at_of I hd;rw[ho]at e';cases e';obtain⟨f0,f1,f2,f3,f4,f5⟩:=hf it XA;have ln:=r.length;exact wpAny_pyNext_dict_end (I.ok.hd hc) (by rw[<-ln];exact st) m (List.getElem?_eq_none XS) λh' eb=>⟨rfl,I.turned (t':=s.toks) (λb o hb e=>eb b o hb e) f0 f1 f3 f4 f5⟩
 self:=λ_ _ _ _ _ st h=>wpAny_pyIter_keyiter st h
inductive Ms(xs:ZQ)(H:Hp)(Q:VK):Prop
 | mk(a:Addr)(XM:List (Key×V))(Vd:xs=[.ref a])(Vm:Rd H a (.dK XM))(U0:∀p,H p=none->Q (.ref p) (upd H p (.dK XM))):Ms xs H Q
theorem E1:Y0 X (.type "dict") (λxs H Q=>Ms xs H Q):=by
 intro XB s Z H xs us Q I r h;obtain⟨a,XM,rfl,e,q⟩:=h;obtain⟨u,rfl,rx⟩:=vals1 r;cases rx;exact ux I e λp s' hp I'=>⟨.ref p,_,I',rfl,q p hp⟩
end
noncomputable def cellOf(H:Hp)(l:Addr):Option V:=match H l with
 | some (.lst (x::_))=>some x
 | _=>none
end L2
namespace ZipT
open PySem
theorem Uo{h h':Heap}{b i t:Addr}{k:Nat}(st:h.IsTupleIter i t k)(e:Heap.ExtBut b h h')(n:i≠b):h'.IsTupleIter i t k:=let ⟨o,ho,r⟩:=st;⟨o,e _ _ n ho,r⟩
theorem tupK{h h':Heap}{b t:Addr}{xs:ZN}(st:h.IsTuple t xs)(e:Heap.ExtBut b h h')(n:t≠b):h'.IsTuple t xs:=let ⟨o,ho,r⟩:=st;⟨o,e _ _ n ho,r⟩
section
variable{prog:Program}{w:World}{A:Around}{E:ZW}{s:Shared}{z TI TO i1 i2 t1 t2:Addr}{k:Nat}{xs ys:ZN}{x y a b:Value}
theorem itemT{Q:ZW}(D:ZipApart z TI TO i1 i2 t1 t2)(hz:IsZip s.heap z TI TO .none)(hI:IsPair s.heap TI (.ref i1) (.ref i2))(hO:IsPair s.heap TO a b)(j1:s.heap.IsTupleIter i1 t1 k)(j2:s.heap.IsTupleIter i2 t2 k)(p1:s.heap.IsTuple t1 xs)(p2:s.heap.IsTuple t2 ys)(hx:xs[k]?=some x)(hy:ys[k]?=some y)
  (q:∀h',IsZip h' z TI TO (rawInt s.heap.objs.size)->IsPair h' TO x y->h'.IsTupleIter i1 t1 (k+1)->h'.IsTupleIter i2 t2 (k+1)->IsPair h' s.heap.objs.size x y->h'.objs.size=s.heap.objs.size+1->(∀c o,c≠z->c≠TO->c≠i1->c≠i2->s.heap.get? c=some o->h'.get? c=some o)->Q (.ref s.heap.objs.size) { s with heap:=h' }) :
  wpAny (model prog w) A (Builtin.«zip.__next__» ⟨[.ref z],[]⟩) (λfin s'=>∃v,fin=.done (.ret v)/\Q v s') E s:=by
 show wpAny _ _ (field (.ref z) 2 >>= _) _ _ _;refine Zt (wpAny_field hz rfl (x:=.bool false) rfl ?_);show wpAny _ _ (field (.ref z) 3 >>= _) _ _ _;refine Zt (wpAny_field hz rfl (x:=.ref TI) rfl (Zt (wpAny_seqItems hI rfl ?_)));show wpAny _ _ (Builtin.SmallTypes.ownedTupleIsFree (.ref z) >>= _) _ _ _;refine Zt ?_;unfold Builtin.SmallTypes.ownedTupleIsFree;refine Zt (wpAny_field hz rfl (x:=.none) rfl (Yl ?_));simp only[if_true];refine Zt (wpAny_rule (Zt (wpAny_field hz rfl (x:=.ref TO) rfl ?_)));refine Zt (wpAny_setField_rec hz XA λg1 hz1 e1=>?_);replace hz1:IsZip g1 z TI TO .ellipsis:=hz1;refine Zt ?_;simp only[List.zipIdx_cons,List.zipIdx_nil,List.forIn_cons,List.forIn_nil];refine Zt (Zt (wpAny_onRaise ?_));show wpAny _ _ (Builtin.SmallTypes.nextOf (.ref i1) >>= _) _ _ _;refine Zt (EnuT.nextT (Uo j1 e1.extBut D.i1z) (tupK p1 e1.extBut D.l1z) hx λg2 j12 e2=>Yl ?_);have hO2:IsPair g2 TO a b:=e2.extBut _ _ D.TOi1 (e1.extBut _ _ D.TOz hO);refine Zt (wpAny_seqItems hO2 rfl (Zt (wpAny_updateSeq_pair hO2 λg3 hO3 e3=>?_)));replace hO3:IsPair g3 TO x b:=hO3;refine Zt (wpAny_letGo (Yl (Zt (Zt (wpAny_onRaise ?_)))));show wpAny _ _ (Builtin.SmallTypes.nextOf (.ref i2) >>= _) _ _ _;refine Zt (EnuT.nextT (Uo (Uo (Uo j2 e1.extBut D.i2z) e2.extBut D.i12.symm) e3.extBut D.TOi2.symm) (tupK (tupK (tupK p2 e1.extBut D.l2z) e2.extBut D.l2i1) e3.extBut D.l2TO) hy λg4 j24 e4=>Yl ?_);have hO4:IsPair g4 TO x b:=e4.extBut _ _ D.TOi2 hO3;refine Zt (wpAny_seqItems hO4 rfl (Zt (wpAny_updateSeq_pair hO4 λg5 hO5 e5=>?_)));replace hO5:IsPair g5 TO x y:=hO5;refine Zt (wpAny_letGo (Yl (Yl (Zt (wpAny_seqItems hO5 rfl (Zt (wpAny_newTuple ?_)))))));have sz:g5.objs.size=s.heap.objs.size:=by rw[e5.1,e4.1,e3.1,e2.1,e1.1]
 have hz5:IsZip g5 z TI TO .ellipsis:=e5.extBut _ _ D.TOz.symm (e4.extBut _ _ D.i2z.symm (e3.extBut _ _ D.TOz.symm (e2.extBut _ _ D.i1z.symm hz1)));have kp:∀c o,c≠z->c≠TO->c≠i1->c≠i2->s.heap.get? c=some o->g5.get? c=some o:=λc o c1 c2 c3 c4 e=>e5.extBut _ _ c2 (e4.extBut _ _ c4 (e3.extBut _ _ c2 (e2.extBut _ _ c3 (e1.extBut _ _ c1 e))));have j15:g5.IsTupleIter i1 t1 (k+1):=Uo (Uo (Uo j12 e3.extBut D.TOi1.symm) e4.extBut D.i12) e5.extBut D.TOi1.symm;have j25:g5.IsTupleIter i2 t2 (k+1):=Uo j24 e5.extBut D.TOi2.symm;have zl:z<g5.objs.size:=V5 hz5;show wpAny _ _ (Builtin.SmallTypes.ownedTupleHandOut (.ref z) (.ref g5.objs.size) >>= _) _ _ _;refine Zt ?_;unfold Builtin.SmallTypes.ownedTupleHandOut;have hz6:IsZip (g5.push { cls:=.type "tuple",data:=.seq #[x,y] }) z TI TO .ellipsis:=Vp _ hz5;refine Zt (wpAny_setField_rec hz6 XA λg7 hz7 e7=>?_);replace hz7:IsZip g7 z TI TO (rawInt g5.objs.size):=hz7;refine wpAny_setField_rec hz7 XA λg8 hz8 e8=>?_;replace hz8:IsZip g8 z TI TO (rawInt g5.objs.size):=hz8;have up:∀c o,c≠z->g5.get? c=some o->g8.get? c=some o:=λc o c1 e=>e8.extBut _ _ c1 (e7.extBut _ _ c1 (Vp _ e));have hT8:IsPair g8 g5.objs.size x y:=e8.extBut _ _ (Nat.ne_of_gt zl) (e7.extBut _ _ (Nat.ne_of_gt zl) (Mp _ rfl));have sz8:g8.objs.size=g5.objs.size+1:=by rw[e8.1,e7.1,Heap.size_push]
 rw[sz]at hz8 hT8 sz8;refine Yl ⟨_,rfl,?_⟩;show Q (.ref g5.objs.size) _;rw[sz];exact q g8 hz8 (up _ _ D.TOz hO5) (let ⟨o,ho,r⟩:=j15;⟨o,up _ _ D.i1z ho,r⟩) (let ⟨o,ho,r⟩:=j25;⟨o,up _ _ D.i2z ho,r⟩) hT8 sz8 λc o c1 c2 c3 c4 e=>up c o c1 (kp c o c1 c2 c3 c4 e)
theorem endT{Q:Fin->Shared->Prop}(hh:A.handled=none)(D:ZipApart z TI TO i1 i2 t1 t2)(hz:IsZip s.heap z TI TO .none)(hI:IsPair s.heap TI (.ref i1) (.ref i2))(hO:IsPair s.heap TO a b)(j1:s.heap.IsTupleIter i1 t1 k)(j2:s.heap.IsTupleIter i2 t2 k)(p1:s.heap.IsTuple t1 xs)(p2:s.heap.IsTuple t2 ys)(sg:xs[k]?=none\/ys[k]?=none)
  (q:∀h' e,(∀c o,c≠z->c≠TO->c≠i1->c≠i2->s.heap.get? c=some o->h'.get? c=some o)->(∃o,h'.get? e=some o/\o.cls=.type "StopIteration")->E (.ref e) { s with heap:=h' }) :
  wpAny (model prog w) A (Builtin.«zip.__next__» ⟨[.ref z],[]⟩) Q E s:=by
 show wpAny _ _ (field (.ref z) 2 >>= _) _ _ _;refine Zt (wpAny_field hz rfl (x:=.bool false) rfl ?_);show wpAny _ _ (field (.ref z) 3 >>= _) _ _ _;refine Zt (wpAny_field hz rfl (x:=.ref TI) rfl (Zt (wpAny_seqItems hI rfl ?_)));show wpAny _ _ (Builtin.SmallTypes.ownedTupleIsFree (.ref z) >>= _) _ _ _;refine Zt ?_;unfold Builtin.SmallTypes.ownedTupleIsFree;refine Zt (wpAny_field hz rfl (x:=.none) rfl (Yl ?_));simp only[if_true];refine Zt (wpAny_rule (Zt (wpAny_field hz rfl (x:=.ref TO) rfl ?_)));refine Zt (wpAny_setField_rec hz XA λg1 hz1 e1=>?_);replace hz1:IsZip g1 z TI TO .ellipsis:=hz1;refine Zt ?_;simp only[List.zipIdx_cons,List.zipIdx_nil,List.forIn_cons,List.forIn_nil];refine Zt (Zt (wpAny_onRaise ?_));show wpAny _ _ (Builtin.SmallTypes.nextOf (.ref i1) >>= _) _ _ _;cases hx:xs[k]? with
 | none =>
  refine Zt (EnuT.endT hh (Uo j1 e1.extBut D.i1z) (tupK p1 e1.extBut D.l1z) hx λg2 e e2 he=>?_);obtain⟨oe,hoe,hce⟩:=he;have hz2:IsZip g2 z TI TO .ellipsis:=e2 _ _ D.i1z.symm hz1;have ez:e≠z:=λv=>by subst v;rw[hz2]at hoe;cases hoe;simp at hce
  exact wpAny_setField_rec hz2 XA λg3 _ e3=>q g3 e (λc o c1 _ c3 _ v=>e3.extBut _ _ c1 (e2 _ _ c3 (e1.extBut _ _ c1 v))) ⟨oe,e3.extBut _ _ ez hoe,hce⟩
 | some x =>
  have hy:ys[k]?=none:=by rcases sg with h | h;rw[hx]at h;cases h;exact h
  refine Zt (EnuT.nextT (Uo j1 e1.extBut D.i1z) (tupK p1 e1.extBut D.l1z) hx λg2 j12 e2=>Yl ?_);have hO2:IsPair g2 TO a b:=e2.extBut _ _ D.TOi1 (e1.extBut _ _ D.TOz hO);refine Zt (wpAny_seqItems hO2 rfl (Zt (wpAny_updateSeq_pair hO2 λg3 hO3 e3=>?_)));refine Zt (wpAny_letGo (Yl (Zt (Zt (wpAny_onRaise ?_)))));show wpAny _ _ (Builtin.SmallTypes.nextOf (.ref i2) >>= _) _ _ _;refine Zt (EnuT.endT hh (Uo (Uo (Uo j2 e1.extBut D.i2z) e2.extBut D.i12.symm) e3.extBut D.TOi2.symm) (tupK (tupK (tupK p2 e1.extBut D.l2z) e2.extBut D.l2i1) e3.extBut D.l2TO) hy λg4 e e4 he=>?_);obtain⟨oe,hoe,hce⟩:=he;have hz4:IsZip g4 z TI TO .ellipsis:=e4 _ _ D.i2z.symm (e3.extBut _ _ D.TOz.symm (e2.extBut _ _ D.i1z.symm hz1));have ez:e≠z:=λv=>by subst v;rw[hz4]at hoe;cases hoe;simp at hce
  exact wpAny_setField_rec hz4 XA λg5 _ e5=>q g5 e (λc o c1 c2 c3 c4 v=>e5.extBut _ _ c1 (e4 _ _ c4 (e3.extBut _ _ c2 (e2.extBut _ _ c3 (e1.extBut _ _ c1 v))))) ⟨oe,e5.extBut _ _ ez hoe,hce⟩
theorem lg{Q:ZT->Shared->Prop}(D:ZipApart z TI TO i1 i2 t1 t2)(hz:IsZip s.heap z TI TO .none)(hI:IsPair s.heap TI (.ref i1) (.ref i2))(hO:IsPair s.heap TO a b)(j1:s.heap.IsTupleIter i1 t1 k)(j2:s.heap.IsTupleIter i2 t2 k)(p1:s.heap.IsTuple t1 xs)(p2:s.heap.IsTuple t2 ys)(hx:xs[k]?=some x)(hy:ys[k]?=some y)
  (q:∀h',IsZip h' z TI TO (rawInt s.heap.objs.size)->IsPair h' TO x y->h'.IsTupleIter i1 t1 (k+1)->h'.IsTupleIter i2 t2 (k+1)->IsPair h' s.heap.objs.size x y->h'.objs.size=s.heap.objs.size+1->(∀c o,c≠z->c≠TO->c≠i1->c≠i2->s.heap.get? c=some o->h'.get? c=some o)->Q (some (.ref s.heap.objs.size)) { s with heap:=h' }) :
  wpAny (model prog w) A (pyNext (.ref z)) Q E s:=by
 have T:s.TypeIs (.ref z) "zip" := ⟨_,hz,rfl⟩;unfold pyNext;exact Zt (wpAny_attempt (wpAny_callSpecial?_slot (name:=Str.ofString "__next__") T F.slot_zip_next (wpAny_call_entry F.slot_zip_next T F.entry_zip_next (itemT D hz hI hO j1 j2 p1 p2 hx hy λh' a1 a2 a3 a4 a5 a6 a7=>Yl (q h' a1 a2 a3 a4 a5 a6 a7)) (F.args_zip_next_1 _))))
theorem Zx3{Q:ZT->Shared->Prop}(hh:A.handled=none)(D:ZipApart z TI TO i1 i2 t1 t2)(hz:IsZip s.heap z TI TO .none)(hI:IsPair s.heap TI (.ref i1) (.ref i2))(hO:IsPair s.heap TO a b)(j1:s.heap.IsTupleIter i1 t1 k)(j2:s.heap.IsTupleIter i2 t2 k)(p1:s.heap.IsTuple t1 xs)(p2:s.heap.IsTuple t2 ys)(sg:xs[k]?=none\/ys[k]?=none)
  (q:∀h',(∀c o,c≠z->c≠TO->c≠i1->c≠i2->s.heap.get? c=some o->h'.get? c=some o)->Q none { s with heap:=h' }):wpAny (model prog w) A (pyNext (.ref z)) Q E s:=by
 have T:s.TypeIs (.ref z) "zip" := ⟨_,hz,rfl⟩;unfold pyNext;refine Zt (wpAny_attempt (wpAny_callSpecial?_slot (name:=Str.ofString "__next__") T F.slot_zip_next (wpAny_call_entry F.slot_zip_next T F.entry_zip_next (endT hh D hz hI hO j1 j2 p1 p2 sg λh' e hk he=>?_) (F.args_zip_next_1 _))));obtain⟨o,ho,hc⟩:=he;exact Zt (wpAny_isInstance (T:="StopIteration") (b:=true) ⟨o,ho,hc⟩ isSubtype_stop (Yl (q _ hk)))
end
noncomputable abbrev H1(h:Heap)(l1:Addr):Heap:=h.push { cls:=.type "tuple_iterator",data:=.fields #[.ref l1,.int 0 0] }
noncomputable abbrev H2(h:Heap)(l1 l2:Addr):Heap:=(H1 h l1).push { cls:=.type "tuple_iterator",data:=.fields #[.ref l2,.int 0 0] }
noncomputable abbrev H3(h:Heap)(l1 l2:Addr):Heap:=(H2 h l1 l2).push { cls:=.type "tuple",data:=.seq #[.ref h.objs.size,.ref (H1 h l1).objs.size] }
noncomputable abbrev H4(h:Heap)(l1 l2:Addr):Heap:=(H3 h l1 l2).push { cls:=.type "tuple",data:=.seq #[.none,.none] }
noncomputable abbrev H5(h:Heap)(l1 l2:Addr):Heap:=(H4 h l1 l2).push { cls:=.type "zip",data:=.fields #[.none,.bool false,.bool false,.ref (H2 h l1 l2).objs.size,.ref (H3 h l1 l2).objs.size] }
theorem meets(l1 l2:Addr)(xs ys:ZN) :
  Meets (Builtin.«zip.__new__» ⟨[.type "zip",.ref l1,.ref l2],[]⟩) (λ_ R s=>s.heap.IsTuple l1 xs/\s.heap.IsTuple l2 ys /\
   R (.ok (.ret (.ref (H4 s.heap l1 l2).objs.size))) { s with heap:=H5 s.heap l1 l2 }) :=
 .of_wp λprog w A R s h=>by
  obtain⟨hp,g,d,tk,os⟩:=s;obtain⟨hl1,hl2,h⟩:=h;have hsub:=sub_zip;have hL1:Heap.IsTuple (Shared.heap ⟨hp,g,d,tk,os⟩) l1 xs:=hl1;have hL2:Heap.IsTuple (Shared.heap ⟨hp.push { cls:=.type "tuple_iterator",data:=.fields #[.ref l1,.int 0 0] },g,d,tk,os⟩) l2 ys:=let ⟨o,ho,r⟩:=hl2;⟨o,Vp _ ho,r⟩
  wp_walk using wpAny_pyIter_tuple hL1,wpAny_pyIter_tuple hL2
  exact⟨_,rfl,h⟩
theorem call2{prog:Program}{w:World}{A:Around}{E:ZW}{s:Shared}{l1 l2:Addr}{xs ys:ZN}{Q:ZW}(hl1:s.heap.IsTuple l1 xs)(hl2:s.heap.IsTuple l2 ys)
  (h:∀h',IsZip h' (s.heap.objs.size+4) (s.heap.objs.size+2) (s.heap.objs.size+3) .none->IsPair h' (s.heap.objs.size+2) (.ref s.heap.objs.size) (.ref (s.heap.objs.size+1)) ->
   IsPair h' (s.heap.objs.size+3) .none .none->h'.IsTupleIter s.heap.objs.size l1 0->h'.IsTupleIter (s.heap.objs.size+1) l2 0->h'.objs.size=s.heap.objs.size+5 ->
   (∀c o,s.heap.get? c=some o->h'.get? c=some o)->Q (.ref (s.heap.objs.size+4)) { s with heap:=h' }) :
  wpAny (model prog w) A (call (.type "zip") [.ref l1,.ref l2]) Q E s:=by
 refine callType_new F.called_zip XU (F.typeCall_zip_2 _ _) (F.newCall_zip_2 _ _) (λobj=>F.args_object_init_3 obj _ _) F.entry_zip_new (meets l1 l2 xs ys) ⟨hl1,hl2,?_⟩;have z1:(H1 s.heap l1).objs.size=s.heap.objs.size+1:=Heap.size_push ..;have z2:(H2 s.heap l1 l2).objs.size=s.heap.objs.size+2:=by rw[Heap.size_push,z1]
 have z3:(H3 s.heap l1 l2).objs.size=s.heap.objs.size+3:=by rw[Heap.size_push,z2]
 have z4:(H4 s.heap l1 l2).objs.size=s.heap.objs.size+4:=by rw[Heap.size_push,z3]
 have z5:(H5 s.heap l1 l2).objs.size=s.heap.objs.size+5:=by rw[Heap.size_push,z4]
 have g5:(H5 s.heap l1 l2).get? (H4 s.heap l1 l2).objs.size=some _:=Mp _ rfl;have g4:(H5 s.heap l1 l2).get? (H3 s.heap l1 l2).objs.size=some _:=Vp _ (Mp _ rfl);have g3:(H5 s.heap l1 l2).get? (H2 s.heap l1 l2).objs.size=some _:=Vp _ (Vp _ (Mp _ rfl));have g2:(H5 s.heap l1 l2).get? (H1 s.heap l1).objs.size=some _:=Vp _ (Vp _ (Vp _ (Mp _ rfl)));have g1:(H5 s.heap l1 l2).get? s.heap.objs.size=some _:=Vp _ (Vp _ (Vp _ (Vp _ (Mp _ rfl))));show _/\_;rw[z2,z3,z4]at g5;rw[z1,z2]at g3;rw[z3]at g4;rw[z1]at g2;rw[z4]
 exact⟨⟨_,g5,rfl⟩,h _ g5 g3 g4 ⟨_,g1,rfl,rfl⟩ ⟨_,g2,rfl,rfl⟩ z5 λc o x =>
  Vp _ (Vp _ (Vp _ (Vp _ (Vp _ x))))⟩
end ZipT
namespace L2
open PySem PySem.Spec PyProof.Rows
def Itzt(K:W.Frag)(l1 l2:Addr):It :=
  ⟨λi H=>∃xs ys x y,Vn K H l1 xs/\Vn K H l2 ys/\xs[i]?=some x/\ys[i]?=some y,
   λi H v H'=>∃p x y,v=.ref p/\H p=none/\H'=upd H p (.tup [x,y])/\(∀xs,Vn K H l1 xs->xs[i]?=some x)/\∀ys,Vn K H l2 ys->ys[i]?=some y,
   λi H=>∃xs ys,Vn K H l1 xs/\Vn K H l2 ys/\(xs.length<=i\/ys.length<=i)⟩
theorem qd{P:Program}{w:World}{K:W.Frag}{es:ZC}{k:Nat}{pos:Pos}(z TI TO i1 i2 l1 l2:Addr)(D:ZipApart z TI TO i1 i2 l1 l2) :
  Turn P w K (.Tuple es k pos) (Itzt K l1 l2) [z,TI,TO,i1,i2] z (λi h=>IsZip h z TI TO .none/\IsPair h TI (.ref i1) (.ref i2)/\(∃a b,IsPair h TO a b)/\h.IsTupleIter i1 l1 i/\h.IsTupleIter i2 l2 i) where
 mem:=by simp
 obj:=λi h st b hb=>by
  obtain⟨hz,Px,⟨a,c,Ej⟩,⟨o1,e1,_,d1⟩,⟨o2,e2,_,d2⟩⟩:=st;simp only[Y8,U2,or_false]at hb;rcases hb with rfl | rfl | rfl | rfl | rfl
  .exact⟨_,hz,λv q=>nomatch q⟩
  .exact⟨_,Px,λv q=>nomatch q⟩
  .exact⟨_,Ej,λv q=>nomatch q⟩
  .exact⟨_,e1,λv q=>by rw[d1]at q;cases q⟩
  .exact⟨_,e2,λv q=>by rw[d2]at q;cases q⟩
 keep:=λi h h' st hk=>by
  obtain⟨hz,Px,⟨a,b,Ej⟩,h1,h2⟩:=st;exact⟨hk z XA _ hz,hk TI XA _ Px,⟨a,b,hk TO XA _ Ej⟩,(let ⟨o,ho,r⟩:=h1;⟨o,hk i1 XA o ho,r⟩),(let ⟨o,ho,r⟩:=h2;⟨o,hk i2 XA o ho,r⟩)⟩
 item:=by
  intro X hP hw hK hc i XB s Z H E I hf st hg;subst hP hw hK;obtain⟨xs,ys,x,y,q1,q2,g1,g2⟩:=hg;obtain⟨hz,Px,⟨a,b,Ej⟩,h1,h2⟩:=st;obtain⟨ao,v1,ju,z1⟩:=I.tuple q1;obtain⟨is2,v2,jh,z2⟩:=I.tuple q2;obtain⟨u1,e1,r1⟩:=v1.get g1;obtain⟨u2,e2,r2⟩:=v2.get g2;refine ZipT.lg D hz Px Ej h1 h2 (show s.heap.IsTuple l1 ao.toArray from ju) (show s.heap.IsTuple l2 is2.toArray from jh) (x:=u1) (y:=u2) (by simpa using e1) (by simpa using e2) λh' a1 a2 a3 a4 a5 a6 hk=>?_;refine⟨_,rfl,wpAny_letOwnedTupleGo_zip (s:={ s with heap:=h' }) a1 λh'' hz' Jt=>?_⟩;have lt:∀{c o},s.heap.get? c=some o->s.heap.objs.size≠c:=λe=>Nat.ne_of_gt (V5 e);have nz:s.heap.objs.size≠z:=lt hz
  have kk:∀c u,c∉[z,TI,TO,i1,i2]->s.heap.get? c=some u->h''.get? c=some u:=λc u m e=>by
   simp only[Y8,U2,or_false,not_or]at m;exact Jt.extBut _ _ m.1 (hk c u m.1 m.2.2.1 m.2.2.2.1 m.2.2.2.2 e)
  have fresh:=I.hok.fresh (Vy s.heap.objs.size);have J:Inv X XB Z (upd H s.heap.objs.size (.tup [x,y])) { s with heap:=h'',toks:=s.toks }:=I.turnLay kk hf (Vy _) ⟨by show 2<=sizeLine;decide,[u1,u2],.cons r1 (.cons r2 .nil),⟨_,Jt.extBut _ _ nz a5,rfl,⟨_,rfl⟩,rfl⟩⟩;refine⟨.ref s.heap.objs.size,_,J,rfl,⟨_,x,y,rfl,fresh,rfl,λws hw=>by rw[I.tuple_inj hw q1];exact g1,λws hw=>by rw[I.tuple_inj hw q2];exact g2⟩,⟨hz',Jt.extBut _ _ D.TIz (hk _ _ D.TIz D.TITO D.TIi1 D.TIi2 Px),⟨_,_,Jt.extBut _ _ D.TOz a2⟩,ZipT.Uo a3 Jt.extBut D.i1z,ZipT.Uo a4 Jt.extBut D.i2z⟩,λc hc=>?_⟩
  have nc:c≠s.heap.objs.size:=λq=>by
   subst q;simp only[Y8,U2,or_false]at hc;rcases hc with q | q | q | q | q
   .exact lt hz q
   .exact lt Px q
   .exact lt Ej q
   .obtain⟨_,e,_⟩:=h1;exact lt e q
   .obtain⟨_,e,_⟩:=h2;exact lt e q
  rw[Zz nc];exact(hf c hc).1
 done:=by
  intro X hP hw hK hc i XB s Z H E I hf st hg;subst hP hw hK;obtain⟨xs,ys,q1,q2,g⟩:=hg;obtain⟨hz,Px,⟨a,b,Ej⟩,h1,h2⟩:=st;obtain⟨ao,v1,ju,z1⟩:=I.tuple q1;obtain⟨is2,v2,jh,z2⟩:=I.tuple q2;have hl1:=v1.length;have hl2:=v2.length;refine ZipT.Zx3 (I.ok.hd hc) D hz Px Ej h1 h2 (show s.heap.IsTuple l1 ao.toArray from ju) (show s.heap.IsTuple l2 is2.toArray from jh) (by rcases g with g | g;exact .inl (by simp;omega);exact .inr (by simp;omega)) λh' hk=>⟨rfl,I.turnL (t':=s.toks) (fp:=[z,TI,TO,i1,i2]) (λc u m e=>?_) hf⟩;simp only[Y8,U2,or_false,not_or]at m;exact hk c u m.1 m.2.2.1 m.2.2.2.1 m.2.2.2.2 e
 self:=λA i s Q E st h=>wpAny_pyIter_zip st.1 h
inductive xq(K:W.Frag)(R:(It->Hp->Prop))(vs:ZQ)(H1:Hp):Prop
 | mk(p q)(Vd:vs=[.ref p,.ref q])(Vm:(∃xs,Vn K H1 p xs))(U0:(∃ys,Vn K H1 q ys))(Lg:R (Itzt K p q) H1):xq K R vs H1
def iZipT(K:W.Frag)(t:TA):TI:=λZ H R=>t Z H λvs H1=>xq K R vs H1
section
variable{X:Cx}{es:ZC}{k:Nat}{p2 pos Jp:Pos}{a b:Expr}{t:TA}
theorem Zxz(hgz:Gl X "zip")(hmz:X.mg "zip"=none)(ha:PA X [a,b] t)
  (he2:starEach [a,b] X.env=(false,eval a X.env)::starEach [b] X.env:=by rfl) (xy:(backTo Jp (starEach [b] X.env)).any (·.1)=false:=by rfl) :
  PI X (.Tuple es k pos) (.Call (.Name "zip" p2) [a,b] [] Jp) (iZipT X.K t):=by
 intro XB s Z H R I h;refine wpAny_Call_Name_kw (M3 I hgz hmz (by decide +kernel:bootBuiltins "zip"=some (.type "zip")) ?_ XU XU);refine callWith_type1 (Yj (ha Jp XB s Z H _ I h) λus s1 ⟨vs,H1,I1,r1,q1⟩=>?_) he2 xy;obtain⟨l1,l2,rfl,⟨xs,hx⟩,⟨ys,hy⟩,q⟩:=q1;obtain⟨u1,u2,rfl,e1,e2⟩:=vals2 r1;cases e1;cases e2;obtain⟨ao,v1,ju,z1⟩:=I1.tuple hx;obtain⟨is2,v2,jh,z2⟩:=I1.tuple hy;have n1:l1<s1.heap.objs.size:=by obtain⟨_,e,_⟩:=(show s1.heap.IsTuple l1 ao.toArray from ju);exact V5 e
 have n2:l2<s1.heap.objs.size:=by obtain⟨_,e,_⟩:=(show s1.heap.IsTuple l2 is2.toArray from jh);exact V5 e
 refine ZipT.call2 (show s1.heap.IsTuple l1 ao.toArray from ju) (show s1.heap.IsTuple l2 is2.toArray from jh) λh2 b1 b2 b3 b4 b5 b6 k2=>?_;refine wpAny_pyIter_zip (s:={ s1 with heap:=h2 }) b1 ?_;have J:Inv X XB Z H1 { s1 with heap:=h2,toks:=s1.toks }:=I1.kept k2;refine⟨_,[s1.heap.objs.size+4,s1.heap.objs.size+2,s1.heap.objs.size+3,s1.heap.objs.size,s1.heap.objs.size+1],_,_,H1,rfl,J,qd _ _ _ _ _ l1 l2 (zipApart_new n1 n2),⟨b1,b2,⟨_,_,b3⟩,b4,b5⟩,λc hc=>?_,q⟩
 have ge:s1.heap.objs.size<=c:=by
  simp only[Y8,U2,or_false]at hc;rcases hc with q | q | q | q | q<;>rw[q]<;>first | exact Vy _ | exact Nat.le_add_right _ _
 exact I1.fpOk ge (I1.hok.fresh ge)
end
section
variable{X:Cx}
end
section
variable{X:Cx}{es:ZC}{k:Nat}{p2 pos Jp:Pos}{a:Expr}{t:TA}
end
section
variable{X:Cx}{XB:ZY}{Z:St}{H:Hp}{s:Shared}
end
section
variable{X:Cx}
end
def We(c:Addr)(q:Str):HO:=.ext λh=>h.CodeRec (.ref c) q
def u9(H:Hp)(lp:Pos)(q:Str)(ps:ZN):Prop:=TriplesOk ps.toList/\(codeAmong lp ps.toList=none\/∃c',codeAmong lp ps.toList=some (.ref c')/\H c'=some (We c' q))
structure LamAt(X:Cx)(P:Addr):Prop where
 c:∃c,X.env.code=.ref c/\∀h,X.K.In h->W.CodeHd h c P
 bi:∀h,X.K.In h->h.BuiltinsAt X.mg P
 ne:mainGlobals≠P
section
variable{X:Cx}{XB:ZY}{Z:St}{H:Hp}{s:Shared}
theorem Zx2{h h':Heap}{L:Addr}{m:ZV}(n:h.Ns L m)(k:∀o,h.get? L=some o->h'.get? L=some o):h'.Ns L m :=
 let ⟨o,es,ep,e,r⟩:=n
 ⟨o,es,ep,k o e,r⟩
theorem We.ok{P:Program}{w:World}{H':Hp}{h:Heap}{c:Addr}{q:Str}(k:h.CodeRec (.ref c) q):Z4 P w H' h c (We c q):=by
 refine⟨k,?_,λh1 h2 k1 e=>?_⟩
 .obtain⟨c1,o,vs,t,e,ho,_⟩:=k;cases e;exact⟨o,ho⟩
 .obtain⟨c1,o,vs,t,ec,ho,r⟩:=k1;cases ec;exact⟨c,o,vs,t,rfl,e o ho,r⟩
theorem We.code{P:Program}{w:World}{H':Hp}{h:Heap}{c:Addr}{q:Str}(x:Nx P w H' h)(e:H' c=some (We c q)):h.CodeRec (.ref c) q:=(x c _ e).1
end
noncomputable def Lw(h:Heap)(L:Addr):Heap:={ h with objs:=h.objs.extract 0 L }
theorem zr{h:Heap}{L b:Nat}:(Lw h L).objs[b]?=if b<L then h.objs[b]? else none:=by
 show (h.objs.extract 0 L)[b]?=_;rw[Array.getElem?_extract];simp only[Nat.zero_add,Nat.sub_zero];by_cases hb:b<L
 .rw[if_pos hb];by_cases hc:b<h.objs.size
  .rw[if_pos XS]
  .rw[if_neg XS,Array.getElem?_eq_none XS]
 .rw[if_neg hb,if_neg XS]
theorem Su{h:Heap}{L b:Addr}{o:Obj}(e:h.get? b=some o)(hb:b<L):(Lw h L).get? b=some o:=by
 unfold Heap.get? at e ⊢;rw[zr,if_pos hb];exact e
theorem zc{h:Heap}{L b:Addr}{o:Obj}(e:(Lw h L).get? b=some o):h.get? b=some o/\b<L:=by
 unfold Heap.get? at e;rw[zr]at e;by_cases hb:b<L
 .rw[if_pos hb]at e;exact⟨e,hb⟩
 .rw[if_neg hb]at e;cases e
noncomputable def Fz(h:Heap)(L:Addr):ZY:=(List.range h.objs.size).filterMap λb=>if b<=L then none else (h.get? b).map λo=>(b,o)
theorem Bo{h:Heap}{L b:Addr}{o:Obj}:(b,o)∈Fz h L↔L<b/\h.get? b=some o:=by
 unfold Fz;rw[List.mem_filterMap];constructor
 .rintro⟨x,hx,e⟩;by_cases z:x<=L
  .rw[if_pos z]at e;cases e
  .rw[if_neg z]at e;obtain⟨o',e1,e2⟩:=Yr.mp e;cases e2;exact⟨Nat.lt_of_not_le z,e1⟩
 .rintro⟨hb,e⟩;refine⟨b,List.mem_range.mpr (V5 e),?_⟩;rw[if_neg (Nat.not_le.mpr hb),e];rfl
theorem Z4.has{P:Program}{w:World}{H:Hp}{h:Heap}{a:Addr}{o:HO}(x:Z4 P w H h a o):∃u,h.get? a=some u:=by
 cases o with
 | lst xs=>obtain⟨_,_,_,_,e⟩:=x;exact⟨_,e⟩
 | tup xs=>obtain⟨_,_,_,o,e,_⟩:=x;exact⟨_,e⟩
 | dK XM=>obtain⟨_,_,_,_,o,_,_,e,_⟩:=x;exact⟨_,e⟩
 | dT XM=>obtain⟨_,_,_,_,o,_,_,e,_⟩:=x;exact⟨_,e⟩
 | set S n=>obtain⟨o,_,_,_,e,_⟩:=x;exact⟨_,e⟩
 | ins C dx fs=>obtain⟨_,_,_,e,_⟩:=x;exact⟨_,e⟩
 | own y=>exact x
 | xd fs=>obtain⟨_,⟨_,_,_,e,_⟩,_⟩:=x;exact⟨_,e⟩
 | rng lo hi=>obtain⟨_,_,_,e⟩:=x;exact⟨_,e⟩
 | frz ob u=>obtain⟨e,_⟩:=x;exact⟨_,e⟩
 | tbl ps=>exact⟨_,(show h.get? a=some _ from x)⟩
 | met f y=>exact⟨_,(show h.get? a=some _ from x)⟩
 | ext φ=>obtain⟨_,e,_⟩:=x;exact e
theorem Q4{h h':Heap}{L:Addr}{m:ZV}{own:ZY}(f:Fr (Lw h L) L h' m)(n:News (Lw h L) L h' own)(hs:∀p∈Fz h L,p∈own):∀b o,b≠L->h.get? b=some o->h'.get? b=some o:=λb o nb e=>by
 rcases Nat.lt_trichotomy b L with z | z | z
 .exact f.keep b o (Su e z)
 .exact absurd z nb
 .exact(n (b,o) (hs _ (Bo.mpr ⟨z,e⟩))).1
section
variable{X:Cx}{e:Expr}{te:TA}{p pos lp kp p0 p1 p2 p3:Pos}
end
end L2
namespace PySem.Heap
end PySem.Heap
namespace L2
open PySem PySem.Spec PyProof.Rows
section
variable{X:Cx}{x y:Str}{p p2 pos Jp:Pos}{a b:Expr}{t:TA}
end
end L2
namespace DicP2
open PySem PySem.Spec PyProof.Rows
noncomputable def Zwa(t:Value):Obj:={ cls:=.type "AttributeError",data:=.fields #[t,.none,.none,.none,.bool false,.none,unsetMember,unsetMember] }
theorem nst:((Manifest.find? "AttributeError").elim false λt=>t.mro.contains "StopIteration" || t.mro.contains "SystemExit")=false:=by decide +kernel
theorem newAE{prog:Program}{w:World}{A:Around}{E:ZW}{s:Shared}{v:Value}{Q:ZW}
  (hq:∀h' e t,(∀b u,s.heap.get? b=some u->h'.get? b=some u)->h'.get? e=some (Zwa t)->s.heap.get? e=none->Q (.ref e) { s with heap:=h' }):wpAny (model prog w) A (newExc (.type "AttributeError") [v]) Q E s:=by
 obtain⟨h,g,d,t,os⟩:=s;simp only[newExc,newTuple]
 wp_walk
 have e:(#[Value.ref h.objs.size,Value.none,Value.none,Value.none,Value.bool false,if ((Manifest.find? "AttributeError").elim false λt=>t.mro.contains "StopIteration" || t.mro.contains "SystemExit")=true then [v].headD Value.none else Value.none]++ownMembersOf (Value.type "AttributeError") [v])=#[.ref h.objs.size,.none,.none,.none,.bool false,.none,unsetMember,unsetMember]:=by
  rw[nst];rfl
 rw[e];refine hq _ _ (.ref h.objs.size) (λb u q=>Vp _ (Vp _ q)) (Mp _ rfl) ?_;cases z:h.get? (h.push { cls:=Value.type "tuple",data:=Data.seq #[v] }).objs.size with
 | none=>rfl
 | some o =>
  have:=V5 z;rw[Heap.size_push]at this;exact absurd this (Nat.not_lt.mpr (Nat.le_succ _))
theorem note{prog:Program}{w:World}{A:Around}{E:ZW}{s:Shared}{e:Addr}{t o nm:Value}{Q:ZA}(he:s.heap.get? e=some (Zwa t))
  (hq:∀h' d,Heap.SameBut e s.heap h'->h'.get? e=some { cls:=.type "AttributeError",data:=d }->Q () { s with heap:=h' }):wpAny (model prog w) A (noteAttr (.ref e) o nm) Q E s:=by
 unfold noteAttr;simp only[];unfold lacksNameAndObj;simp only[];refine Zt (Zt (wpAny_isInstance (T:="AttributeError") (b:=true) ⟨_,he,rfl⟩ (by rw[isSubtype_type];kernel_rfl) ?_));simp only[Bool.not_true,B0f,if_false];refine Zt (wpAny_load he ?_);show wpAny _ _ (pure true) _ _ _;refine Yl ?_;simp only[if_true];refine Zt (wpAny_rule (Zt (wpAny_typeOf (T:="AttributeError") ⟨_,he,rfl⟩ ?_)));refine wpAny_layMembers he rfl ?_;refine hq _ _ ⟨Heap.size_update _ _ _,λb hb=>Heap.get?_update_other _ _ (Ne.symm hb)⟩ (Heap.get?_update_self _ he rfl)
theorem tl1:typeLookup (.type "tuple") (Str.ofString "__getattribute__")=pure (some (.builtin "tuple.__getattribute__")):=by rw[typeLookup_type,builtinLookup_eq_fast];kernel_rfl
theorem tl2:typeLookup (.type "tuple") (Str.ofString "keys")=pure none:=by rw[typeLookup_type,builtinLookup_eq_fast];kernel_rfl
theorem tl3:typeLookup (.type "tuple") (Str.ofString "__getattr__")=pure none:=by rw[typeLookup_type,builtinLookup_eq_fast];kernel_rfl
theorem slot_ga:Slot "tuple" (Str.ofString "__getattribute__") "tuple.__getattribute__" := Slot.of (owner:="tuple") (n:="__getattribute__") tl1 XH XH XH (.inl XH) (by rw[isSubtype_type];kernel_rfl)
theorem hb0:hookBefore (.type "tuple")=pure none:=rfl
theorem Ri:entryFor table "dict.update.loop"=some Builtin.«dict.update.loop»:=entryFor_of_tree (by kernel_rfl)
theorem Gy:plainId "dict.update.loop"=true:=by decide +kernel
section
variable{prog:Program}{w:World}{K:Type}[DecidableEq K]{knd:PySem.KeyKind prog w K}
def Prs(knd:PySem.KeyKind prog w K)(h:Heap)(XD:ZN)(rs:List (K×Value)):Prop :=
 XD.size=rs.length/\∀(j:Nat) (k:K) (v:Value),rs[j]?=some (k,v)->∃p u,XD[j]?=some (.ref p)/\IsTup h p #[u,v]/\knd.is k u=true
noncomputable def stK(rs:List (K×Value))(i:Nat):List (K×Value):=(rs.take i).foldl (λacc kv=>stored acc kv.1 kv.2) []
theorem Ht(XM:List (K×Value))(k:K)(v:Value):(stored XM k v).length<=XM.length+1:=by
 unfold stored
 split
 .rw[Vq];omega
 .rw[W7];simp
theorem Oe{rs:List (K×Value)}{i:Nat}{k:K}{v:Value}(h:rs[i]?=some (k,v)):stK rs (i+1)=stored (stK rs i) k v:=by
 unfold stK;rw[List.take_succ,h];simp
theorem Qg(rs:List (K×Value)):∀i,(stK rs i).length<=i
 | 0=>by simp[stK]
 | i+1=>by
  cases h:rs[i]? with
  | none =>
   have:=Qg rs i;unfold stK at this ⊢;rw[List.take_succ,h];simp only[Option.toList_none,XQ];omega
  | some p =>
   obtain⟨k,v⟩:=p;rw[Oe h];have:=Qg rs i;have:=Ht (stK rs i) k v;omega
variable{A:Around}{R:Result->Shared->Prop}{E:ZW}{s:Shared}{d it t:Addr}{XD:ZN}{rs:List (K×Value)}
end
end DicP2
namespace L2
open PySem PySem.Spec PyProof.Rows
section
variable{X:Cx}{XB:ZY}{Z:St}{H:Hp}{s:Shared}
theorem Inv.lay2{h':Heap}{D:Addr}{u:HO}{t':Nat}(I:Inv X XB Z H s){m:ZV}(hn:s.heap.Ns X.env.locals m)(hn':h'.Ns X.env.locals m)(ka:∀b o,b≠X.env.locals->s.heap.get? b=some o->h'.get? b=some o)(nD:s.heap.get? D=none)
  (new:Z4 X.prog X.w (upd H D u) h' D u):Inv X XB Z (upd H D u) { s with heap:=h',toks:=t' }/\H D=none:=by
 have fD:H D=none:=by
  cases eo:H D with
  | none=>rfl
  | some u =>
   obtain⟨o,e⟩:=(I.hok D u eo).has;rw[e]at nD;cases nD
 refine⟨?_,fD⟩;have ne:∀{b:Addr} {o:Obj},s.heap.get? b=some o->b≠D:=λ{b o} e z=>by rw[z,nD]at e;cases e
 have neH:∀{b:Addr} {u:HO},H b=some u->b≠D:=λ{b u} e z=>by rw[z,fD]at e;cases e
 refine I.step (h':=h') (g':=s.gens) (d':=s.drawn) (t':=t') (ch:=[]) (H':=upd H D u) (λ_ z=>nomatch z)
  (λb o nl _ _ e _=>ka b o nl e) (λb o nl _ _ e _=>⟨o.slots,ka b o nl e⟩) (λb o _ e n=>by rw[Zz (ne e)];exact n) (λb o _ e=>?_) (λb xs e=>by rw[Zz (neH e)];exact e) (λb o u e=>by rw[Zz (neH e)];exact e) (λb qs e=>⟨#[],by rw[Zz (neH e),e];simp⟩) (λm' hm=>?_) (λb v e=>?_) I.bare
 .by_cases z:b=X.env.locals
  .obtain⟨o2,_,_,e2,_⟩:=hn';exact⟨o2,by rw[z];exact e2⟩
  .exact⟨o,ka b o z e⟩
 .have em:m'=m:=by
   obtain⟨o2,es,ep,e2,d2,_,r2⟩:=hm;obtain⟨o3,es3,ep3,e3,d3,_,r3⟩:=hn;rw[e2]at e3;cases e3;rw[d2]at d3;cases d3;exact funext λx=>(r2 x).symm.trans (r3 x)
  rw[em];exact hn'
 .by_cases z:b=D
  .subst z;rw[Zq]at e;cases e;exact new
  .rw[Zz z]at e;refine(I.hok b v e).stay (λd v hd q=>ka d v ?_ q) (λd q=>by rw[Zz (neH q)];exact q) λd xs q=>by rw[Zz (neH q)];exact q
   rcases hd with rfl | hd
   .exact λzz=>by rw[zz,I.free]at e;cases e
   .exact λzz=>by rw[zz,I.free]at hd;cases hd
theorem Inv.frame(I:Inv X XB Z H s):∃m,s.heap.Ns X.env.locals m/\Fr (Lw s.heap X.env.locals) X.env.locals s.heap m/\News (Lw s.heap X.env.locals) X.env.locals s.heap (Fz s.heap X.env.locals):=by
 obtain⟨m,hn,_⟩:=id I.loc
 have lsz:(Lw s.heap X.env.locals).objs.size<=X.env.locals:=by
  show (s.heap.objs.extract 0 X.env.locals).size<=_;rw[Array.size_extract];omega
 refine⟨m,hn,⟨hn,λb o e=>(zc e).1,lsz⟩,λp hp=>?_⟩;obtain⟨b,o⟩:=p;obtain⟨h1,h2⟩:=Bo.mp hp;refine⟨h2,Nat.ne_of_gt h1,?_⟩;cases z:(Lw s.heap X.env.locals).get? b with
 | none=>rfl
 | some o'=>exact absurd (zc z).2 (Nat.lt_asymm h1)
theorem Inv.newAt{h':Heap}{D:Addr}{o:Obj}{m:ZV}(n':News (Lw s.heap X.env.locals) X.env.locals h' ((D,o)::Fz s.heap X.env.locals))(hD:∀q∈Fz s.heap X.env.locals,q.1<D):s.heap.get? D=none:=by
 obtain⟨_,nDL,lD⟩:=n' (D,o) V4;cases eo:s.heap.get? D with
 | none=>rfl
 | some o =>
  exfalso
  rcases Nat.lt_trichotomy D X.env.locals with y | y | y
  .rw[Su eo y]at lD;cases lD
  .exact nDL y
  .exact absurd (hD (D,o) (Bo.mpr ⟨y,eo⟩)) (Nat.lt_irrefl _)
end
theorem Sa{P:Nat->Key->Value->Prop}:∀{XM:List (Key×V)} (o:Nat),(∀j k v,XM[j]?=some (k,v)->∃w,RelV v w/\P (o+j) k w)->∃rs,KV XM rs/\∀j k w,rs[j]?=some (k,w)->P (o+j) k w
 | [],o,_=>⟨[],.nil,λj k w e=>by simp at e⟩
 | (k,v)::XM,o,h=>by
  obtain⟨w,Qc,pw⟩:=h 0 k v rfl
  obtain⟨rs,kv,pr⟩:=Sa (P:=P) (XM:=XM) (o+1) λj k' v' e=>by
   obtain⟨w',a,b⟩:=h (j+1) k' v' e;exact⟨w',a,by rw[Nat.add_assoc,Nat.add_comm 1 j];exact b⟩
  refine⟨(k,w)::rs,.cons ⟨rfl,Qc⟩ kv,λj k' w' e=>?_⟩;cases j with
  | zero =>
   have e':(k,w)=(k',w'):=by simpa using e
   cases e';exact pw
  | succ j =>
   have:=pr j k' w' (by simpa using e);rw[Nat.add_assoc,Nat.add_comm 1 j]at this;exact this
def Ff(XM:List (Key×V)):List (Key×V):=XM.foldl (λacc kv=>putK acc kv.1 kv.2) []
theorem zu:∀{XM:List (Key×V)} {rs:List (Key×Value)} {a:List (Key×V)} {b:List (Key×Value)},KV XM rs->KV a b->KV (XM.foldl (λacc kv=>putK acc kv.1 kv.2) a) (rs.foldl (λacc kv=>stored acc kv.1 kv.2) b)
 | _,_,_,_,.nil,h=>h
 | (k,v)::XM,(k',v')::rs,_,_,.cons r t,h=>by
  have e:k=k':=r.1;subst e;rw[List.foldl_cons,List.foldl_cons];exact zu (XM:=XM) (rs:=rs) t (h.put k r.2)
theorem B3:∀(XM a:List (Key×V)),(XM.foldl (λacc kv=>putK acc kv.1 kv.2) a).length<=a.length+XM.length
 | [],a=>by simp
 | p::XM,a=>by
  have:=B3 XM (putK a p.1 p.2);have:=V3 a p.1 p.2;rw[List.foldl_cons,Rz];omega
section
variable{X:Cx}
end
section
variable{X:Cx}{XB:ZY}{Z:St}{H:Hp}{s:Shared}
end
end L2
namespace DctT
open PySem PySem.SeqAt PySem.MeetsSeq
open PySem.AutoSeq1 (wpAny_loadPart')
end DctT
namespace L2
open PySem PySem.Spec PyProof.Rows
section
variable{X:Cx}
end
section
variable{X:Cx}
end
end L2
namespace EX
open PySem
section
variable{M:Model}{A:Around}{E:ZW}{s:Shared}{env:Env}{outer:List Env}{base:Heap}{L e T:Addr}{oe oT:Obj}{vs ts:ZN}{x:Value}{Q:ZA}
end
end EX
namespace L2
open PySem PySem.Spec PyProof.Rows
section
variable(prog:Program)(w:World)(A:Around)(tg elt:Expr)(ifs:ZC)(env:Env)(it acc:Value)(E:ZW)
end
section
variable{X:Cx}{scope:Scope}{N:ZD}{fr:ZG}{tg elt iter:Expr}{ifs:ZC}{pos:Pos}{wi:TI}{g:DG}{tt:DT}{te:DE}
end
section
variable{X:Cx}{XB:ZY}{Z:St}{H:Hp}{s s':Shared}
end
section
variable{X:Cx}{scope:Scope}{N:ZD}{fr:ZG}{tg elt iter:Expr}{ifs:ZC}{pos:Pos}{wi:TI}{g:St->DG}{tt:St->DT}{te:St->DE}{W:XWT}
end
section
variable{X:Cx}
end
section
variable{X:Cx}
end
section
variable{X:Cx}
inductive Sz(K:W.Frag)(A:Around)(x:V)(y:V)(H:Hp)(Q:VK):Prop
 | mk(a b xs)(Vd:x=.ref a)(Vm:y=.ref b)(U0:Uq K H a xs)(Lg:Uq K H b [])(xg:A.units<cLine)(h5_:Q (.bl (!xs.isEmpty)) H):Sz K A x y H Q
def rNeNil(K:W.Frag)(A:Around):R2:=λx y H Q=>Sz K A x y H Q
theorem n4:Mh X (compareOp .NotEq) (rNeNil X.K X.A):=by
 intro XB s Z H x y v u Q I rx ry h;obtain⟨a,b,xs,rfl,rfl,ha,hb,hu,q⟩:=h;cases rx;cases ry;obtain⟨i1,r1,p1,z1⟩:=I.list ha;obtain⟨i2,r2,p2,z2⟩:=I.list hb;have e2:i2=[]:=by cases r2;rfl
 subst e2;cases xs with
 | nil =>
  have e1:i1=[]:=by cases r1;rfl
  subst e1;have:=SeqAt.RcNeAt.lists (A:=X.A) (e:=λ_=>true) p1.isList p2.isList rfl hu (λj h1 h2=>absurd h1 XA);exact this X.prog X.w X.xe _ ⟨.bl _,H,I,rfl,q⟩
 | cons x xs =>
  have hl:=r1.length;exact SeqAt.RcNeAt.lists_lengths (A:=X.A) p1.isList p2.isList (by rw[Ul, <-hl];rfl) hu X.prog X.w X.xe _ ⟨.bl _,H,I,rfl,q⟩
end
end L2
namespace SRT
open PySem PySem.Spec PyProof.Rows L2
noncomputable def insI(x:Int):ZL->ZL
 | []=>[x]
 | y::r=>if x<=y then x::y::r else y::insI x r
def Hn:ZL->ZL
 | []=>[]
 | x::r=>insI x (Hn r)
theorem insI_perm(x:Int):∀r:ZL,(insI x r).Perm (x::r)
 | []=>.refl _
 | y::r=>by
  unfold insI
  split
  .exact .refl _
  .exact((insI_perm x r).cons y).trans (.swap x y r)
theorem D0:∀r:ZL,(Hn r).Perm r
 | []=>.refl _
 | x::r=>(insI_perm x _).trans ((D0 r).cons x)
theorem S2(x:Int):∀r:ZL,r.Pairwise (·<=·)->(insI x r).Pairwise (·<=·)
 | [],_=>List.pairwise_singleton _ _
 | y::r,h=>by
  rw[ZE]at h;unfold insI
  split
  .rename_i hx
   rw[ZE,ZE];exact⟨λz m=>by rcases Y8.mp m with rfl | m;exact hx;exact Int.le_trans hx (h.1 z m),h.1,h.2⟩
  .rename_i hx
   rw[ZE];refine⟨λz m=>?_,S2 x r h.2⟩;rcases Y8.mp ((insI_perm x r).mem_iff.mp m) with rfl | m
   .omega
   .exact h.1 z m
theorem O1:∀r:ZL,(Hn r).Pairwise (·<=·)
 | []=>List.Pairwise.nil
 | x::r=>S2 x _ (O1 r)
theorem ip{a b:ZL}(h:a.Perm b)(s:a.Pairwise (·<=·)):a=Hn b :=
 List.Perm.eq_of_pairwise (λ_ _ _ _ h1 h2=>Int.le_antisymm h1 h2) s (O1 b) (h.trans (D0 b).symm)
noncomputable def K0(a b:Str):Bool:=!decide (b.cps.toList<a.cps.toList)
noncomputable def wo(x:Str):ZD->ZD
 | []=>[x]
 | y::r=>if K0 x y=true then x::y::r else y::wo x r
def Us:ZD->ZD
 | []=>[]
 | x::r=>wo x (Us r)
theorem Be(x:Str):∀r:ZD,(wo x r).Perm (x::r)
 | []=>.refl _
 | y::r=>by
  unfold wo
  split
  .exact .refl _
  .exact((Be x r).cons y).trans (.swap x y r)
theorem Yn:∀r:ZD,(Us r).Perm r
 | []=>.refl _
 | x::r=>(Be x _).trans ((Yn r).cons x)
theorem Q1{a b:Str}:K0 a b=true↔¬ b.cps.toList<a.cps.toList:=by unfold K0;simp
theorem Fj{a b c:Str}(h1:K0 a b=true)(h2:K0 b c=true):K0 a c=true:=by
 rw[Q1]at *;exact List.not_lt.mpr (List.le_trans (List.not_lt.mp h1) (List.not_lt.mp h2))
theorem wj{a b:Str}(h:¬ K0 a b=true):K0 b a=true:=by
 rw[Q1]at *;exactλz=>List.lt_asymm (Decidable.not_not.mp h) z
theorem l9{a b:Str}(h1:K0 a b=true)(h2:K0 b a=true):a=b:=by
 rw[Q1]at *;have e:a.cps.toList=b.cps.toList:=List.le_antisymm (List.not_lt.mp h1) (List.not_lt.mp h2);cases a;cases b
 congr
 exact Array.toList_inj.mp e
theorem S0(x:Str):∀r:ZD,r.Pairwise (λa b=>K0 a b=true)->(wo x r).Pairwise (λa b=>K0 a b=true)
 | [],_=>List.pairwise_singleton _ _
 | y::r,h=>by
  rw[ZE]at h;unfold wo
  split
  .rename_i hx
   rw[ZE,ZE];exact⟨λz m=>by rcases Y8.mp m with rfl | m;exact hx;exact Fj hx (h.1 z m),h.1,h.2⟩
  .rename_i hx
   rw[ZE];refine⟨λz m=>?_,S0 x r h.2⟩;rcases Y8.mp ((Be x r).mem_iff.mp m) with rfl | m
   .exact wj hx
   .exact h.1 z m
theorem O0:∀r:ZD,(Us r).Pairwise (λa b=>K0 a b=true)
 | []=>List.Pairwise.nil
 | x::r=>S0 x _ (O0 r)
theorem Nd:∀(l:ZD) (p:Str),risingS p l=true->(p::l).Pairwise (λa b=>K0 a b=true)
 | [],p,_=>List.pairwise_singleton _ _
 | q::l,p,h=>by
  unfold risingS at h;rw[Vl]at h;have r:=Nd l q h.2
  have h1:K0 p q=true:=by
   have:=h.1;rw[ltCps_eq]at this;exact this
  rw[ZE];refine⟨λz m=>?_,r⟩;rcases Y8.mp m with rfl | m
  .exact h1
  .exact Fj h1 ((ZE.mp r).1 z m)
theorem Qm:∀l:ZD,sortedS l=true->l.Pairwise (λa b=>K0 a b=true)
 | [],_=>List.Pairwise.nil
 | p::l,h=>Nd l p h
theorem ic{a b:ZD}(h:a.Perm b)(s:sortedS a=true):a=Us b :=
 List.Perm.eq_of_pairwise (λ_ _ _ _ h1 h2=>l9 h1 h2) (Qm a s) (O0 b) (h.trans (Yn b).symm)
section
variable{prog:Program}{w:World}{A:Around}{E:ZW}{s:Shared}
theorem Ei{l:Addr}{o:Obj}{vs:ZM}{n:Nat}{T:String}{Q:ZM->Shared->Prop}(ho:s.heap.get? l=some o)(hc:o.cls=.type T)(hT:T="list" \/ T="tuple")(hd:o.data=.seq vs.toArray n)
  (h:Q vs { s with heap:=(s.heap.push (seqObj "list" #[] 0)).update s.heap.objs.size (Obj.mapSeq (·++vs.toArray)) }) (hsz:vs.length<=sizeLine) :
  wpAny (model prog w) A (collect (.ref l)) Q E s:=by
 unfold collect;refine Zt (wpAny_runValue (codeAny_builtin entry_proto_collect' ?_));show wpAny _ _ (do again (.builtin "list.__iadd__" ⟨[<-newList [],.ref l],[]⟩)) _ _ s;refine Zt (wpAny_newList (Yl ⟨Code.quiet_builtin _ XH,codeAny_builtin entry_list_iadd' ?_⟩));show wpAny _ _ (Builtin.List.listExtendWith (.ref s.heap.objs.size) (.ref l) (.ref s.heap.objs.size)) _ _ { s with heap:=s.heap.push (seqObj "list" #[] 0) };unfold Builtin.List.listExtendWith;have B1:(s.heap.push (seqObj "list" #[] 0)).get? l=some o:=Vp _ ho;refine Zt (wpAny_typeOf (T:=T) ⟨o,B1,hc⟩ ?_)
 have ht:(Value.type T==Value.type "list" || Value.type T==Value.type "tuple")=true:=by
  rcases hT with rfl | rfl<;>rfl
 rw[if_pos (by rw[Bool.or_assoc,ht];simp)];refine Zt (listItems_at B1 hd ?_);refine Zt (listItems_at (xs:=#[]) (n:=0) (Mp _ rfl) rfl ?_);rw[if_neg XA];refine Zt (listUpdate_at (xs:=#[]) (n:=0) (Mp _ rfl) rfl ?_ (Io _) (by show (#[]++vs.toArray).size<=sizeLine+1;simp only[Array.size_append,Ul,List.length_nil];omega));refine Yl ?_
 show wpAny (model prog w) A (do
   let o <-load s.heap.objs.size
   match o.data with
   | .seq xs _=>pure xs.toList
   | _=>unsupported "internal:collect") Q E { s with heap:=(s.heap.push (seqObj "list" #[] 0)).update s.heap.objs.size (Obj.mapSeq (·++vs.toArray)) }
 refine Zt (wpAny_load (get?_update_seq (Mp _ rfl) _) ?_);show wpAny _ _ (pure ((#[]:ZN)++vs.toArray).toList) Q E _;rw[show ((#[]:ZN)++vs.toArray).toList=vs by simp];exact Yl h
theorem O3{l:Addr}{o:Obj}{vs:ZM}{n:Nat}{T:String}{Q:ZW}(ho:s.heap.get? l=some o)(hc:o.cls=.type T)(hT:T="list" \/ T="tuple")(hd:o.data=.seq vs.toArray n)(hsz:vs.length<=sizeLine)
  (h:∀(h1:Heap) (D:Addr),(∀b ob,s.heap.get? b=some ob->h1.get? b=some ob)->s.heap.objs.size<=D->h1.get? D=some (seqObj "list" vs.toArray 0) ->
   wpAny (model prog w) A.in1 (call (.builtin "list.sort") [.ref D]) (λ_ s'=>Q (.ref D) s') E { s with heap:=h1 }) :
  wpAny (model prog w) A (call (.builtin "sorted") [.ref l]) Q E s:=by
 refine Calls.call_function_entry kind_sorted plain_sorted entry_sorted (args_sorted1 _) ?_;unfold Builtin.«sorted»;refine Zt (m:=checkCount "sorted" 1 1 _) (Yl ?_);refine Zt (Ei ho hc hT hd ?_ hsz);refine Zt (wpAny_newList ?_ hsz)
 have hs1:((s.heap.push (seqObj "list" #[] 0)).update s.heap.objs.size (Obj.mapSeq (·++vs.toArray))).objs.size=s.heap.objs.size+1:=by
  rw[Heap.size_update,size_push']
 have k1:∀b ob,s.heap.get? b=some ob->((s.heap.push (seqObj "list" #[] 0)).update s.heap.objs.size (Obj.mapSeq (·++vs.toArray))).get? b=some ob:=λb ob e=>by
  rw[Heap.get?_update_ne _ _ _ _ (Tf (V5 e))];exact Vp _ e
 have hg:=h ((((s.heap.push (seqObj "list" #[] 0)).update s.heap.objs.size (Obj.mapSeq (·++vs.toArray)))).push (seqObj "list" vs.toArray 0)) _ (λb ob e=>Vp _ (k1 b ob e)) (by rw[hs1];exact Nat.le_succ _) (Mp _ rfl);refine Zt (wpAny_holding (wpAny_mono hg (λ_ s' x=>?_) λ_ _ e=>e));exact Yl ⟨_,rfl,x⟩
def Srt(prog:Program)(w:World)(Ok:Heap->Prop)(vs:ZM)(R:ZM->Prop):Prop:=∀(A:Around) (E:ZW) (s:Shared) (D:Addr) (Q:Shared->Prop),Ok s.heap->s.heap.get? D=some (seqObj "list" vs.toArray 0) ->
 (∀(h1:Heap) (out:ZN) (n:Nat),(∀b ob,b≠D->s.heap.get? b=some ob->h1.get? b=some ob)->h1.get? D=some (seqObj "list" out n)->R out.toList->Q { s with heap:=h1 }) ->
 wpAny (model prog w) A (call (.builtin "list.sort") [.ref D]) (λ_ s'=>Q s') E s
theorem fg{Ok:Heap->Prop}{vs:ZM}{zs:ZL}(hI:IntsAre vs zs)(h64:vs.length<64):Srt prog w Ok vs λo=>IntsAre o (Hn zs):=by
 intro A E s D Q _ Cz h;refine wpAny_call_entry slot_list_sort ⟨_,Cz,rfl⟩ entry_list_sort ?_ (args_list_sort _);refine list_sort_tree Cz hI h64 λout ns q1 q2 q3=>⟨_,rfl,?_⟩;obtain⟨n,e⟩:=sortedHeap_at (h:=s.heap) (a:=D) (vs:=vs) (n:=0) (out:=out) Cz;exact h _ out n (λb ob nb e0=>SetM.V6 nb e0) e (by rw[<-ip q2 q3];exact q1)
theorem srt_strs{Ok:Heap->Prop}{vs:ZM}{ss:ZD}(hI:StrsAre vs ss)(h64:vs.length<64):Srt prog w Ok vs λo=>StrsAre o (Us ss):=by
 intro A E s D Q _ Cz h;refine wpAny_call_entry slot_list_sort ⟨_,Cz,rfl⟩ entry_list_sort ?_ (args_list_sort _);refine list_sort_treeK strKind_oneLt Cz hI.keysOf (λv1 v2 rest e=>keyKind_strs (by rw[<-e];exact hI)) h64 λst hp hs=>⟨_,rfl,?_⟩;obtain⟨ns,q1,q2,q3⟩:=sorted_out_str hI hp hs;obtain⟨n,e⟩:=sortedHeap_at (h:=s.heap) (a:=D) (vs:=vs) (n:=0) (out:=(arrOf st).map (·.2)) Cz;exact h _ _ n (λb ob nb e0=>SetM.V6 nb e0) e (by rw[<-ic q2 q3];exact q1)
end
theorem Fy:∀{zs:ZL} {vs:ZM},Zd (zs.map V.int) vs->IntsAre vs zs
 | [],_,h=>by cases h;exact .nil
 | z::zs,_,h=>by
  cases h with | cons a b =>
  obtain⟨t,rfl⟩:=(show ∃t,_=Value.int z t from a);exact .cons _ _ (Fy b)
theorem L3:∀{zs:ZD} {vs:ZM},Zd (zs.map V.str) vs->StrsAre vs zs
 | [],_,h=>by cases h;exact .nil
 | z::zs,_,h=>by
  cases h with | cons a b =>
  obtain⟨t,rfl⟩:=(show ∃t,_=Value.str z t from a);exact .cons _ _ (L3 b)
theorem L0{P:Program}{w:World}:∀{XM:List (Key×Value)} {vs:ZM},vs.length=XM.length->(∀(j:Nat) (v:Value),vs[j]?=some v->∃k x,XM[j]?=some (k,x)/\(Zh P w).is k v=true)->Zd (XM.map λp=>kV p.1) vs
 | [],vs,l,_=>by
  cases vs with
  | nil=>exact .nil
  | cons _ _=>simp at l
 | (k,x)::r,vs,l,h=>by
  cases vs with
  | nil=>simp at l
  | cons v vs =>
   obtain⟨k',x',ek,iv⟩:=h 0 v rfl;cases(show some (k,x)=some (k',x') from ek);refine .cons ?_ (L0 (by simpa using l) λj v hv=>h (j+1) v hv);rcases Z5 (show Te k v=true from iv) with ⟨j,t,rfl,rfl⟩ | ⟨y,t,rfl,rfl⟩
   .exact⟨t,rfl⟩
   .exact⟨t,rfl⟩
section
variable{X:Cx}
def v8(X:Cx)(H:Hp)(zs ys:ZQ):Prop:=ys.length=zs.length/\∀XB Z s,Inv X XB Z H s->∀vs,Zd zs vs->∃Ok:Heap->Prop,(∀h1:Heap,(∀b o,b≠X.env.locals->s.heap.get? b=some o->h1.get? b=some o)->Ok h1)/\Srt X.prog X.w Ok vs λo=>Zd ys o
theorem qi{H:Hp}{zs:ZL}(h:zs.length<64):v8 X H (zs.map V.int) ((Hn zs).map V.int):=by
 refine⟨by rw[Vq,Vq,(D0 zs).length_eq],λXB Z s I vs r=>⟨λ_=>True,λ_ _=>trivial,?_⟩⟩;have:=fg (prog:=X.prog) (w:=X.w) (Ok:=λ_=>True) (Fy r) (by rw[<-r.length,Vq];exact h);intro A E s D Q o e q;exact this A E s D Q o e λh1 out n k e1 r1=>q h1 out n k e1 (Bm r1)
theorem qo{H:Hp}{zs:ZD}(h:zs.length<64):v8 X H (zs.map V.str) ((Us zs).map V.str):=by
 refine⟨by rw[Vq,Vq,(Yn zs).length_eq],λXB Z s I vs r=>⟨λ_=>True,λ_ _=>trivial,?_⟩⟩;have:=srt_strs (prog:=X.prog) (w:=X.w) (Ok:=λ_=>True) (L3 r) (by rw[<-r.length,Vq];exact h);intro A E s D Q o e q;exact this A E s D Q o e λh1 out n k e1 r1=>q h1 out n k e1 (Lo r1)
theorem Bz:Y0 X (.builtin "sorted") (λxs H Q=>∃(a:Addr) (zs ys:ZQ),xs=[.ref a]/\(Uq X.K H a zs\/Vn X.K H a zs)/\v8 X H zs ys/\∀l:Addr,H l=none->Q (.ref l) (upd H l (.lst ys))):=by
 intro XB s Z H xs us Q I r h;obtain⟨a,zs,ys,rfl,hq,hv,q⟩:=h;obtain⟨u,rfl,rx⟩:=vals1 r;cases rx
 obtain⟨XD,o,T,n,rv,e0,hc,hT,hd,z⟩:∃(XD:ZM) (o:Obj) (T:String) (n:Nat),Zd zs XD/\s.heap.get? a=some o/\o.cls=.type T/\(T="list" \/ T="tuple")/\o.data=.seq XD.toArray n/\zs.length<=sizeLine:=by
  rcases hq with hq | hq
  .obtain⟨XD,rv,⟨o,n,e,hc,_,hd⟩,z⟩:=I.list hq;exact⟨XD,o,_,n,rv,e,hc,.inl rfl,hd,z⟩
  .obtain⟨XD,rv,⟨o,e,hc,n,hd⟩,z⟩:=I.tuple hq;exact⟨XD,o,_,n,rv,e,hc,.inr rfl,hd,z⟩
 obtain⟨lv,hv⟩:=hv;obtain⟨Ok,ok,st⟩:=hv XB Z s I XD rv;refine O3 e0 hc hT hd (by rw[<-rv.length];exact z) λh1 D k1 sz Cz=>?_;refine st _ _ { s with heap:=h1 } D _ (ok h1 λb o _ e=>k1 b o e) Cz λh2 out n k2 at2 r2=>?_;refine⟨.ref D,_,I.put (o:=.lst ys) (t':=s.toks) (d':=s.drawn) (λb o e=>k2 b o (Tf (F7 (V5 e) sz)) (k1 b o e)) sz ⟨by rw[lv];exact z,out.toList,n,r2,by simpa using at2⟩,rfl,q D (I.hok.fresh sz)⟩
theorem P4(hc:X.calm=true):Y0 X (.builtin "sorted") (λxs H Q=>∃(a:Addr) (XM:List (Key×V)) (ys:ZQ),xs=[.ref a]/\Rd H a (.dK XM)/\v8 X H (XM.map λp=>kV p.1) ys/\∀l:Addr,H l=none->Q (.ref l) (upd H l (.lst ys))):=by
 intro XB s Z H xs us Q I r h;obtain⟨a,XM,ys,rfl,hq,⟨lv,hv⟩,q⟩:=h;obtain⟨u,rfl,rx⟩:=vals1 r;cases rx;obtain⟨z,hd,ws,rel,dd⟩:=Gi I.hok hq;obtain⟨ep,da⟩:=dd.dictAt;obtain⟨m,hn,fr,nw⟩:=I.frame;refine W.kdu_sorted (W.kdl_dict (knd:=Zh X.prog X.w) (ep:=ep) hd) (I.ok.hd hc) fr nw da (by rw[<-rel.length];exact z) λD h' tk vs f' n' hD vl hv'=>?_
 have rv:Zd (XM.map λp=>kV p.1) vs:=by
  have:=L0 vl hv';have e:=congrArg (List.map kV) rel.keys;rw[List.map_map,List.map_map]at e;have e:(XM.map λp=>kV p.1)=ws.map λp=>kV p.1:=e;rw[e];exact this
 obtain⟨Ok,ok,st⟩:=hv XB Z s I vs rv;have ka:=Q4 f' n' λp hp=>Uz _ hp;have nD:=Inv.newAt (X:=X) (m:=m) n' hD;obtain⟨eD,nDL,_⟩:=n' _ V4;have Cz:h'.get? D=some (seqObj "list" vs.toArray 0):=eD;refine st _ _ { s with heap:=h',toks:=tk } D _ (ok h' λb o nb e=>ka b o nb e) Cz λh2 out n k2 at2 r2=>?_;have neD:∀{b:Addr} {o:Obj},s.heap.get? b=some o->b≠D:=λ{b o} e z=>by rw[z,nD]at e;cases e
 obtain⟨J,fD⟩:=I.lay2 (h':=h2) (D:=D) (u:=.lst ys) (t':=tk) hn (Zx2 f'.ns λo e=>k2 _ o (λz=>nDL z.symm) e) (λb o nb eb=>k2 b o (neD eb) (ka b o nb eb)) nD ⟨by rw[lv,Vq];exact z,out.toList,n,r2,by simpa using at2⟩;exact⟨.ref D,_,J,rfl,q D fD⟩
end
end SRT
namespace DicL
open PySem PySem.Spec PyProof.Rows
open DicP2
theorem tl1:typeLookup (.type "list") (Str.ofString "__getattribute__")=pure (some (.builtin "list.__getattribute__")):=by rw[typeLookup_type,builtinLookup_eq_fast];kernel_rfl
theorem tl2:typeLookup (.type "list") (Str.ofString "keys")=pure none:=by rw[typeLookup_type,builtinLookup_eq_fast];kernel_rfl
theorem tl3:typeLookup (.type "list") (Str.ofString "__getattr__")=pure none:=by rw[typeLookup_type,builtinLookup_eq_fast];kernel_rfl
theorem slot_ga:Slot "list" (Str.ofString "__getattribute__") "list.__getattribute__" := Slot.of (owner:="list") (n:="__getattribute__") tl1 XH XH XH (.inl XH) (by rw[isSubtype_type];kernel_rfl)
theorem p7:entryFor table "list.__getattribute__"=some Builtin.«object.__getattribute__»:=entryFor_alias (id':="object.__getattribute__") (by kernel_rfl) rfl XH (by kernel_rfl)
theorem Zjs(a b:Value):argsOk "list.__getattribute__" ⟨[a,b],[]⟩:=by unfold argsOk;kernel_rfl
theorem Zqa{prog:Program}{w:World}{A:Around}{E:ZW}{s:Shared}{u:Nat}{a:Addr}{XD:ZN}{n:Nat}{sl:ZF}{Q:PySem.Fin->Shared->Prop}(hh:A.handled=none)(ho:s.heap.get? a=some ⟨.type "list",none,.seq XD n,sl⟩)
  (hq:∀e h' t',(∃o,h'.get? e=some o/\o.cls=.type "AttributeError")->(∀b u,s.heap.get? b=some u->h'.get? b=some u)->E (.ref e) { s with heap:=h',toks:=t' }):wpAny (model prog w) A (Builtin.«object.__getattribute__» ⟨[.ref a,.str (Str.ofString "keys") u],[]⟩) Q E s:=by
 obtain⟨h,g,d,t,os⟩:=s;have ho:h.get? a=some ⟨.type "list",none,.seq XD n,sl⟩:=ho;unfold Builtin.«object.__getattribute__»
 wp_walk
 show wpAny _ _ (typeLookup (.type "list") _) _ _ _;rw[tl2]
 wp_walk
 have hl:(Str.ofString (toString "'" ++ toString ((Manifest.find? "list").elim "list" λx=>x.tpName)++toString "' object has no attribute '")++Str.ofString "keys" ++ Str.ofString "'").length<=sizeLine:=XH
 generalize (Str.ofString (toString "'" ++ toString ((Manifest.find? "list").elim "list" λx=>x.tpName)++toString "' object has no attribute '")++Str.ofString "keys" ++ Str.ofString "'")=msg at hl ⊢;unfold raiseAttrError;refine Zt (wpAny_mkStr ?_ hl);refine Zt (newAE λh1 e t1 k1 e1 n1=>?_);refine Zt (wpAny_mkText ?_);refine Zt (note e1 λh2 d2 sb e2=>?_);refine wpAny_raiseNew_none hh (hq e h2 _ ⟨_,e2,rfl⟩ λb u q=>?_);refine(sb.2 b λz=>?_).trans (k1 b u q);rw[z]at q;rw[show h.get? e=none from n1]at q;cases q
theorem hb0:hookBefore (.type "list")=pure none:=rfl
theorem wg{prog:Program}{w:World}{A:Around}{E:ZW}{s:Shared}{a:Addr}{XD:ZN}{n:Nat}{sl:ZF}{Q:ZT->Shared->Prop}(hh:A.handled=none)(ho:s.heap.get? a=some ⟨.type "list",none,.seq XD n,sl⟩)
  (hq:∀h' t',(∀b u,s.heap.get? b=some u->h'.get? b=some u)->Q none { s with heap:=h',toks:=t' }):wpAny (model prog w) A (getAttr? (.ref a) (Str.ofString "keys")) Q E s:=by
 obtain⟨h,g,d,t,os⟩:=s;have ho:h.get? a=some ⟨.type "list",none,.seq XD n,sl⟩:=ho;unfold getAttr?;refine Zt (wpAny_mkText ?_);unfold getAttrBy?;refine Zt (wpAny_attempt ?_);unfold getAttrBy;refine wpAny_holding ?_;have ht:Shared.TypeIs ⟨h,g,d,t+1,os⟩ (.ref a) "list" := ⟨_,ho,rfl⟩;refine Zt (wpAny_typeOf ht ?_);rw[tl1];refine Zt (Yl ?_);simp only[];refine wpAny_ite_split (λz=>absurd z XU) λ_=>?_;unfold getAttrByItsOwn;rw[hb0];refine Zt (Yl ?_);refine Zt (wpAny_attempt (wpAny_holding ?_));show wpAny _ _ (boundAndCalled (.builtin "list.__getattribute__") (.ref a) _) _ _ _;unfold boundAndCalled;rw[slot_ga.toG.bind];refine Zt (Yl ?_);show wpAny _ _ (call (.builtin "list.__getattribute__") [.ref a,.str (Str.ofString "keys") t]) _ _ _;refine wpAny_call_entry slot_ga ht p7 ?_ (Zjs _ _);refine Zqa (s:=⟨h,g,d,t+1,os⟩) hh ho λe h' t' he kp=>?_;obtain⟨o,e1,e2⟩:=he;have ae:∀t'',Shared.TypeIs ⟨h',g,d,t'',os⟩ (.ref e) "AttributeError" := λ_=>⟨o,e1,e2⟩;show wpAny _ _ (getattributeRaised _ _ _ _ _ _ _) _ _ _;unfold getattributeRaised;refine Zt (wpAny_isInstance (T:="AttributeError") (b:=true) (ae _) (by rw[isSubtype_type];kernel_rfl) ?_);simp only[if_true];rw[show hookBehind (Value.type "list") none=typeLookup (.type "list") (Str.ofString "__getattr__") from rfl,tl3];refine Zt (Yl ?_);unfold hookOrError;simp only[];unfold attributeErrorLeaves;simp only[Bool.not_false,if_true];refine Zt (wpAny_throw ?_);refine Zt (wpAny_isInstance (T:="AttributeError") (b:=true) (ae _) (by rw[isSubtype_type];kernel_rfl) ?_);simp only[if_true];exact Yl (hq h' t' kp)
end DicL
namespace DicL
open PySem PySem.Spec PyProof.Rows DicP2
section
variable{prog:Program}{w:World}{K:Type}[DecidableEq K]{knd:PySem.KeyKind prog w K}
variable{A:Around}{R:Result->Shared->Prop}{E:ZW}{s:Shared}{d it t:Addr}{XD:ZN}{rs:List (K×Value)}
theorem loop(hh:A.handled=none)(hdi:d≠it)(htd:t≠d)(hti:t≠it)(hz:rs.length<=sizeLine){h₁:Heap}(ht:h₁.IsList t XD)(hp:Prs knd h₁ XD rs)(hpd:∀(p:Addr),.ref p∈XD.toList->p≠d/\p≠it)
  (fin:∀h' tk,(∀b o,b≠d->b≠it->h₁.get? b=some o->h'.get? b=some o)->h'.DictOf knd d (stK rs rs.length)->R (.ok (.ret .none)) { s with heap:=h',toks:=tk }) :
  ∀(k i:Nat) (h:Heap) (tk:Nat),rs.length-i=k->i<=rs.length->(∀b o,b≠d->b≠it->h₁.get? b=some o->h.get? b=some o)->h.IsListIter it t i->h.DictOf knd d (stK rs i) ->
   codeAny (model prog w) A (.builtin "dict.update.loop" ⟨[.ref d,.ref it,rawInt i,.none],[]⟩) R { s with heap:=h,toks:=tk }:=by
 intro k
 induction k with
 | zero =>
  intro i h tk hk hi kp st dd;have ei:i=rs.length:=XS
  subst ei;refine codeAny_builtin Ri ?_;rw[Around.under_plainId Gy _]
  change wpAny _ A.in1 (pyNext (.ref it) >>= _) _ _ _
  refine Zt (wpAny_pyNext_list_end (s:={ s with heap:=h,toks:=tk }) (A:=A.in1) hh st (ht.at λo e=>kp _ o htd hti e) (Array.getElem?_eq_none (by rw[hp.1];exact Vy _)) λh' ext=>?_)
  change wpAny _ A.in1 (Builtin.Dict.addKeywords d [] >>= _) _ _ _
  refine Zt (m:=Builtin.Dict.addKeywords d []) ?_;unfold Builtin.Dict.addKeywords;simp only[List.forIn_nil];refine Zt (Yl (Yl (Yl ?_)));refine fin h' tk (λb o n1 n2 e=>ext b o n2 (kp b o n1 n2 e)) ?_;obtain⟨o,es,ep,e1,r⟩:=dd;exact⟨o,es,ep,ext d o hdi e1,r⟩
 | succ k ih =>
  intro i h tk hk hi kp st dd;have xk:i<rs.length:=XS
  obtain⟨⟨kk,vv⟩,hkv⟩:∃p,rs[i]?=some p:=⟨rs[i],Tc xk⟩;obtain⟨p,u,ep,tp,ku⟩:=hp.2 i kk vv hkv;have np:=hpd p (by rw[<-Array.mem_def];exact Array.mem_of_getElem? ep);refine codeAny_builtin Ri ?_;rw[Around.under_plainId Gy _]
  change wpAny _ A.in1 (pyNext (.ref it) >>= _) _ _ _
  refine Zt (wpAny_pyNext_list_item (s:={ s with heap:=h,toks:=tk }) (A:=A.in1) st (ht.at λo e=>kp _ o htd hti e) ep λh' Ko sb=>?_);have ql:IsTup h' p #[u,vv]:=let ⟨o,e1,e2⟩:=tp;⟨o,sb.extBut _ _ np.2 (kp _ _ np.1 np.2 e1),e2⟩;have uz:h'.DictOf knd d (stK rs i):=let ⟨o,es,ep,e1,r⟩:=dd;⟨o,es,ep,sb.extBut _ _ hdi e1,r⟩;simp only[];refine Zt (wpAny_holding (Zt (wpAny_tryCatch ?_)));unfold Builtin.Dict.pairItems;refine Zt (wpAny_typeOf (T:="tuple") ql.typeIs ?_);simp only[show (Value.type "tuple" == Value.type "list" || Value.type "tuple" == Value.type "tuple")=true from by decide,if_true];obtain⟨o,e1,e2,n,e3⟩:=id ql;refine Zt (m:=seqItems? (.ref p)) ?_;unfold seqItems?;simp only[];refine Zt (wpAny_load e1 ?_);rw[e3];refine Yl (Yl ?_);show wpAny _ _ (holding [u,vv] (dictSet d u vv)) _ _ _;refine wpAny_holding ?_;refine wpAny_dictSet_pairs (hsz:=Tg (Qg rs i) (Tg hi hz)) ku uz λh2 dd2 sb2=>?_;refine Yl ⟨plainId_quiet Gy _,?_⟩;refine ih (i+1) h2 _ XS xk (λb o n1 n2 e=>sb2.extBut _ _ n1 (sb.extBut _ _ n2 (kp b o n1 n2 e))) (Ko.extBut sb2.extBut hdi.symm) ?_;rw[Oe hkv];exact dd2
theorem A6{Q:ZW}(hh:A.handled=none){n:Nat}{sl:ZF}(ho:s.heap.get? t=some ⟨.type "list",none,.seq XD n,sl⟩)(hp:Prs knd s.heap XD rs)(hz:rs.length<=sizeLine)
  (hl:∀(p:Addr),.ref p∈XD.toList->p<s.heap.objs.size)
  (fin:∀h' tk,(∀b o,s.heap.get? b=some o->h'.get? b=some o)->h'.DictOf knd s.heap.objs.size (stK rs rs.length)->Q (.ref s.heap.objs.size) { s with heap:=h',toks:=tk }) :
  wpAny (model prog w) A (call (.type "dict") [.ref t]) Q E s:=by
 have lt:∀{c o},s.heap.get? c=some o->c≠s.heap.objs.size:=λe=>Tf (V5 e);have pu:∀{c o},s.heap.get? c=some o->(s.heap.push { cls:=.type "dict",data:=.dict #[] }).get? c=some o:=λe=>Vp _ e
 refine callType_codes (Q₁:=λobj s₁=>obj=.ref s.heap.objs.size/\s₁={ s with heap:=s.heap.push { cls:=.type "dict",data:=.dict #[] } }) F.kt_called_dict (F.kt_typeCall_dict_1 _) F.entry_dict_init
  (kt_code_dict_new _ ⟨rfl,rfl⟩) λobj s₁ q=>?_
 obtain⟨rfl,rfl⟩:=q;have Cz:(s.heap.push { cls:=.type "dict",data:=.dict #[] }).get? s.heap.objs.size=some { cls:=.type "dict",data:=.dict #[] }:=Mp _ rfl;refine⟨⟨_,Cz,rfl⟩,F.args_dict_init_2 _ _,?_⟩;have ty:Shared.TypeIs { s with heap:=s.heap.push { cls:=.type "dict",data:=.dict #[] } } (.ref s.heap.objs.size) "dict" := ⟨_,Cz,rfl⟩;unfold Builtin.«dict.__init__»;unfold Builtin.Dict.selfAndRest;refine Zt (Zt (wpAny_notOrdered_dict ty ?_));refine Zt (m:=Builtin.Dict.addrOf (.ref s.heap.objs.size)) (Yl (Yl ?_));show wpAny _ _ (Builtin.Dict.updateFrom "dict.__init__" s.heap.objs.size (.ref t) [] .none) _ _ _;unfold Builtin.Dict.updateFrom;refine Zt (wpAny_typeOf (T:="list") ⟨_,pu ho,rfl⟩ ?_);simp only[show (Value.type "list" != Value.type "dict")=true from by decide,if_true];refine Zt (wg (s:={ s with heap:=s.heap.push { cls:=.type "dict",data:=.dict #[] } }) (A:=A.in1.in1) hh (pu ho) λh2 t2 k2=>?_);simp only[Option.isNone_none,if_true];refine Zt (wpAny_rule ?_);have tu:Heap.IsList h2 t XD:=⟨_,k2 _ _ (pu ho),rfl,n,rfl⟩;refine Zt (wpAny_pyIter_list (s:={ s with heap:=h2,toks:=t2 }) tu ?_);have lt2:∀{c o},h2.get? c=some o->c≠h2.objs.size:=λe=>Tf (V5 e);have at2:=k2 _ _ Cz;have sz2:s.heap.objs.size<h2.objs.size:=V5 at2;refine Yl ⟨plainId_quiet Gy _,?_⟩;have kp3:∀b o,h2.get? b=some o->(h2.push { cls:=.type "list_iterator",data:=.fields #[.ref t,.int 0 0] }).get? b=some o:=λb o e=>Vp _ e;refine loop (knd:=knd) (s:=s) (A:=A.in1) (d:=s.heap.objs.size) (it:=h2.objs.size) (t:=t) hh (Tf sz2) (lt ho) (lt2 (k2 _ _ (pu ho))) hz (h₁:=h2.push { cls:=.type "list_iterator",data:=.fields #[.ref t,.int 0 0] }) (tu.at λo e=>kp3 _ o e) ⟨hp.1,λj k v e=>?_⟩ (λp hm=>⟨Tf (hl p hm),Tf (Nat.lt_trans (hl p hm) sz2)⟩) (λh' tk kp dd=>?_) _ 0 _ t2 rfl (Io _) (λb o _ _ e=>e) ⟨_,Mp _ rfl,rfl,rfl⟩ ?_
 .obtain⟨p,u,e1,tp,ku⟩:=hp.2 j k v e;exact⟨p,u,e1,let ⟨o,a1,a2⟩:=tp;⟨o,kp3 _ _ (k2 _ _ (pu a1)),a2⟩,ku⟩
 .refine⟨rfl,fin h' tk (λb o e=>kp b o (lt e) (lt2 (k2 _ _ (pu e))) (kp3 _ _ (k2 _ _ (pu e)))) dd⟩
 .exact⟨_, #[],_,kp3 _ _ at2,⟨rfl,rfl,rfl⟩,rfl,λe he=>by simp at he,.nil,List.nodup_nil⟩
end
end DicL
namespace SetM
open PySem PySem.Spec PyProof.Rows
section
variable{prog:Program}{w:World}{A:Around}{E:ZW}{s:Shared}
variable{K:Type}[DecidableEq K]{knd:KeyKind prog w K}
end
end SetM
namespace L2
open PySem PySem.Spec PyProof.Rows
section
variable{X:Cx}
theorem Cr(hc:X.calm=true):Y0 X (.type "dict") (λxs H Q=>∃(a:Addr) (ys:ZQ) (XM:List (Key×V)),xs=[.ref a]/\Uq X.K H a ys/\ys.length=XM.length/\(∀(j:Nat) (k:Key) (v:V),XM[j]?=some (k,v)->∃p,ys[j]?=some (.ref p)/\Vn X.K H p [kV k,v]) /\
  ∀D,H D=none->Q (.ref D) (upd H D (.dK (Ff XM)))):=by
 intro XB s Z H xs us Q I r h;obtain⟨a,ys,XM,rfl,sq,hl,hp,q⟩:=h;obtain⟨u,rfl,rx⟩:=vals1 r;cases rx;obtain⟨XD,rv,⟨o,n,e1,e2,e4,e3⟩,hz⟩:=I.list sq;obtain⟨oc,od,dt,sl⟩:=o;obtain rfl:oc=_:=e2;obtain rfl:dt=_:=e3;obtain rfl:od=none:=e4
 obtain⟨rs,kv,pr⟩:=Sa (P:=λj k w=>∃p u,XD.toArray[j]?=some (.ref p)/\IsTup s.heap p #[u,w]/\(Zh X.prog X.w).is k u=true) (XM:=XM) 0 λj k v e=>by
  obtain⟨p,ep,sp⟩:=hp j k v e;obtain⟨jts,jr,tp,_⟩:=I.tuple sp;cases jr with
  | cons j1 j2=>cases j2 with
   | cons j2 j3 =>
    cases j3;obtain⟨w,ew,Qc⟩:=rv.get ep;cases(show w=Value.ref p from Qc);exact⟨_,j2,p,_,by simpa using ew,tp,Np j1⟩
 have lr:XD.toArray.size=rs.length:=by rw[Ul, <-rv.length,hl,kv.length]
 have pr':∀(j:Nat) (k:Key) (w:Value),rs[j]?=some (k,w)->∃p u,XD.toArray[j]?=some (.ref p)/\IsTup s.heap p #[u,w]/\(Zh X.prog X.w).is k u=true:=λj k w e=>by
  have:=pr j k w e;rw[Nat.zero_add]at this;exact this
 have kz:XM.length<=sizeLine:=by rw[<-hl];exact hz
 refine DicL.A6 (knd:=Zh X.prog X.w) (rs:=rs) (I.ok.hd hc) e1 ⟨lr,pr'⟩ (by rw[<-kv.length];exact kz) (λp hm=>?_) λh' tk kp dd=>?_
 .obtain⟨j,hj⟩:=List.mem_iff_getElem?.mp hm
  have hjl:j<rs.length:=by
   rw[<-lr];have:=(W8.mp hj).1;simpa using this
  obtain⟨p',u,a1,tp,_⟩:=pr' j _ _ (Tc hjl);have:Value.ref p=Value.ref p':=D8 ((show XD.toArray[j]?=some (.ref p) by simpa using hj).symm.trans a1);cases this;exact tp.lt
 .refine⟨.ref s.heap.objs.size,_,I.laid (o:=.dK (Ff XM)) (t':=tk) kp (Vy _) (Po ?_ (B0n.mpr (Ne.symm (Tf I.big))) (vs:=DicP2.stK rs rs.length) ?_ dd),rfl,q _ (I.hok.fresh (Vy _))⟩
  .have:=B3 XM [];unfold Ff;simp only[List.length_nil,Nat.zero_add]at this;omega
  .unfold DicP2.stK Ff;rw[T0g];exact zu kv .nil
end
end L2
namespace PySem.SeqAt
open PySem PySem.Spec PyProof.Rows PySem.Calls
section
variable{A:Around}{s:Shared}
end
end PySem.SeqAt
namespace SRT
open PySem PySem.Spec PyProof.Rows PySem.W
section
variable{n:Nat}{z:Nat->Int}{s:Shared}{cmp:Nat->Nat->(Bool->Shared->Prop)->Shared->Prop}
def Pm(n:Nat)(p:ZS):Prop:=p.toList.Perm (List.range n)
noncomputable def ky(z:Nat->Int)(p:ZS)(k:Nat):Int:=z (p[k]?.getD 0)
def Ih(z:Nat->Int)(p:ZS)(k:Nat):Prop:=∀i j,i<j->j<k->ky z p i<ky z p j
def Dn(z:Nat->Int)(p:ZS)(k:Nat):Prop:=∀i j,i<j->j<k->ky z p j<ky z p i
theorem getD_eq(p:ZS)(k:Nat):p.getD k 0=p[k]?.getD 0:=by
 unfold Array.getD
 split
 .rename_i h;rw[ou h];rfl
 .rename_i h;rw[Array.getElem?_eq_none XS];rfl
theorem Pm.size{p:ZS}(h:Pm n p):p.size=n:=by rw[<-yf,h.length_eq,XJ]
theorem Pm.lt{p:ZS}(h:Pm n p){k:Nat}(hk:k<n):p[k]?.getD 0<n:=by
 have hs:k<p.size:=by rw[h.size];exact hk
 rw[ou hs];exact List.mem_range.mp (h.mem_iff.mp (Array.mem_def.mp (Array.getElem_mem hs)))
theorem Pm.inj{p:ZS}(h:Pm n p){k l:Nat}(hk:k<n)(hl:l<n)(e:p[k]?.getD 0=p[l]?.getD 0):k=l:=by
 have hs:k<p.size:=by rw[h.size];exact hk
 have ht:l<p.size:=by rw[h.size];exact hl
 rw[ou hs,ou ht]at e;have nd:p.toList.Nodup:=h.nodup_iff.mpr List.nodup_range;have e:p[k]=p[l]:=e;rw[<-Array.getElem_toList (h:=hs), <-Array.getElem_toList (h:=ht)]at e;rcases Nat.lt_trichotomy k l with q | q | q
 .exact absurd e (List.pairwise_iff_getElem.mp nd k l _ _ q)
 .exact q
 .exact absurd e.symm (List.pairwise_iff_getElem.mp nd l k _ _ q)
theorem Pm.perm{p q:ZS}(h:Pm n p)(e:q.Perm p):Pm n q:=(Array.perm_iff_toList_perm.mp e).trans h
variable(hz:∀i j,i<n->j<n->z i=z j->i=j)(hc:∀i j,i<n->j<n->i≠j->∀C:Bool->Shared->Prop,C (decide (z i<z j)) s->cmp i j C s)
include hz in
theorem Pm.ne{p:ZS}(h:Pm n p){k l:Nat}(hk:k<n)(hl:l<n)(e:ky z p k=ky z p l):k=l:=h.inj hk hl (hz _ _ (h.lt hk) (h.lt hl) e)
include hc in
theorem Wr{Z:Type}{p:ZS}(h:Pm n p){i j:Nat}(hi:i<n)(hj:j<n)(w6:i≠j){k:Bool->KasT Z}{Q:Z->Shared->Prop}(g:(k (decide (ky z p i<ky z p j))).kasWp cmp Q s):(KasT.ask (p.getD i 0) (p.getD j 0) k).kasWp cmp Q s:=by
 rw[getD_eq,getD_eq];exact hc _ _ (h.lt hi) (h.lt hj) (λe=>w6 (h.inj hi hj e)) _ g
theorem Ih.succ{p:ZS}{m:Nat}(h:Ih z p m)(h1:1<=m)(e:ky z p (m-1)<ky z p m):Ih z p (m+1):=λi j w6 hj=>by
 rcases Nat.lt_or_ge j m with hjm | hjm
 .exact h i j w6 hjm
 .obtain rfl:j=m:=by omega
  rcases Nat.lt_or_ge i (j-1) with hi | hi
  .exact Int.lt_trans (h i (j-1) hi XS) e
  .obtain rfl:i=j-1:=by omega
   exact e
theorem Dn.succ{p:ZS}{m:Nat}(h:Dn z p m)(h1:1<=m)(e:ky z p m<ky z p (m-1)):Dn z p (m+1):=λi j w6 hj=>by
 rcases Nat.lt_or_ge j m with hjm | hjm
 .exact h i j w6 hjm
 .obtain rfl:j=m:=by omega
  rcases Nat.lt_or_ge i (j-1) with hi | hi
  .exact Int.lt_trans e (h i (j-1) hi XS)
  .obtain rfl:i=j-1:=by omega
   exact e
include hz hc in
theorem Ic{p:ZS}(h:Pm n p){Q:Nat->Shared->Prop}:∀(f m:Nat),1<=m->m+f=n->Ih z p m->(∀m',m<=m'->m'<=n->Ih z p m'->(m'=n\/(m'<n/\ky z p m'<ky z p (m'-1)))->Q m' s)->(kas_asc p f m).kasWp cmp Q s
 | 0,m,h1,hm,hu,g=>g m (Vy _) XS hu (.inl XS)
 | f+1,m,h1,hm,hu,g=>by
  unfold kas_asc;refine Wr hc h XS XS XS ?_;by_cases hl:ky z p m<ky z p (m-1)
  .rw[Mz hl,if_pos rfl];exact g m (Vy _) XS hu (.inr ⟨by omega,hl⟩)
  .rw[Bf hl,if_neg XA];have ne:ky z p (m-1)≠ky z p m:=λe=>by have:=h.ne hz XS XS e;omega
   exact Ic h f (m+1) XS XS (hu.succ h1 XS) λm' a b c d=>g m' XS b c d
include hz hc in
theorem xu{p:ZS}(h:Pm n p){Q:ZS×Nat×Nat->Shared->Prop}:∀(f m:Nat),1<=m->m+f=n->Dn z p m->(∀m',m<=m'->m'<=n->Dn z p m'->Q (p,m',0) s)->(kas_desc f p m 0).kasWp cmp Q s
 | 0,m,h1,hm,hu,g=>g m (Vy _) XS hu
 | f+1,m,h1,hm,hu,g=>by
  unfold kas_desc;refine Wr hc h XS XS XS ?_;by_cases hl:ky z p m<ky z p (m-1)
  .rw[Mz hl,if_pos rfl,if_neg XS];exact xu h f (m+1) XS XS (hu.succ h1 hl) λm' a b c=>g m' XS b c
  .rw[Bf hl,if_neg XA];have ne:ky z p (m-1)≠ky z p m:=λe=>by have:=h.ne hz XS XS e;omega
   refine Wr hc h XS XS XS ?_;rw[Mz (show ky z p (m-1)<ky z p m by omega),if_pos rfl];exact g m (Vy _) XS hu
theorem rev_up{p:ZS}{m:Nat}(hm:m<=p.size)(h:Dn z p m):Ih z (kas_rev p 0 m) m:=λi j w6 hj=>by
 unfold ky kas_rev;rw[getElem?_mirror_all hm,getElem?_mirror_all hm,if_pos XS,if_pos XS];exact h _ _ XS XS
include hz hc in
theorem gp{p:ZS}(h:Pm n p){m:Nat}(h1:1<=m)(hm:m<=n)(hd:Dn z p m){Q:Nat×ZS->Shared->Prop}(g:∀m' p',1<=m'->m'<=n->Pm n p'->Ih z p' m'->Q (m',p') s):(kas_tail3 m n p).kasWp cmp Q s:=by
 unfold kas_tail3;rw[KasT.kasWp_bind];have h':Pm n (kas_rev p 0 m):=h.perm (mirror_perm _ _ _ _);exact Ic hz hc h' (n-m) m h1 XS (rev_up (by rw[h.size];exact hm) hd) λm' a b c _=>g m' _ XS b h' c
include hz hc in
theorem uq{p:ZS}(h:Pm n p)(h2:2<=n){Q:Nat×ZS->Shared->Prop}(g:∀m' p',1<=m'->m'<=n->Pm n p'->Ih z p' m'->Q (m',p') s):(kas_count n p).kasWp cmp Q s:=by
 unfold kas_count;rw[KasT.kasWp_bind];refine Ic hz hc h (n-1) 1 (Vy _) XS (λi j _ _=>by omega) λm a b c d=>?_;by_cases hm:m=n
 .subst hm;rw[if_pos XA];exact g m p a b h c
 .rw[if_neg (by simpa using hm)];by_cases hm1:m>1
  .rw[if_pos hm1];refine Wr hc h XS XS XS ?_;rw[Mz (c 0 (m-1) XS XS),if_pos rfl];exact g m p a b h c
  .rw[if_neg hm1];obtain rfl:m=1:=by omega
   rcases d with d | ⟨_,d⟩
   .omega
   unfold kas_descPart;rw[KasT.kasWp_bind];refine xu hz hc h (n-(1+1)) (1+1) XS XS (λi j w6 hj=>?_) λm' a' b' c'=>?_
   .obtain rfl:j=1:=by omega
    obtain rfl:i=0:=by omega
    exact d
   .rw[if_neg (by show ¬ (0>0);omega)];exact gp hz hc h XS b' c' g
include hz hc in
theorem Rc{p:ZS}(h:Pm n p){k:Nat}(hk:k<n){Q:Nat->Shared->Prop}(g:∀l,l<=k->(∀i,i<l->ky z p i<ky z p k)->(∀i,l<=i->i<k->ky z p k<ky z p i)->Q l s)(hs:Ih z p k):∀(f l r:Nat),l<=r->r<=k->r-l<=f->(∀i,i<l->ky z p i<ky z p k)->(∀i,r<=i->i<k->ky z p k<ky z p i)->(kas_place p k f l r).kasWp cmp Q s
 | 0,l,r,h1,h2,h3,h4,h5=>by
  obtain rfl:l=r:=by omega
  exact g l h2 h4 h5
 | f+1,l,r,h1,h2,h3,h4,h5=>by
  unfold kas_place;by_cases hlr:l ≥ r
  .rw[if_pos hlr];obtain rfl:l=r:=by omega
   exact g l h2 h4 h5
  .rw[if_neg hlr];refine Wr hc h hk XS XS ?_;by_cases hl:ky z p k<ky z p ((l+r) / 2)
   .rw[Mz hl,if_pos rfl];refine Rc h hk g hs f l ((l+r) / 2) XS XS XS h4 λi a b=>?_;rcases Nat.lt_or_ge ((l+r) / 2) i with c | c
    .exact Int.lt_trans hl (hs _ _ c b)
    .obtain rfl:i=(l+r) / 2:=by omega
     exact hl
   .rw[Bf hl,if_neg XA];have ne:ky z p k≠ky z p ((l+r) / 2):=λe=>by have:=h.ne hz XS XS e;omega
    refine Rc h hk g hs f ((l+r) / 2+1) r XS h2 XS (λi a=>?_) h5;rcases Nat.lt_or_ge i ((l+r) / 2) with c | c
    .exact Int.lt_trans (hs _ _ c XS) XS
    .obtain rfl:i=(l+r) / 2:=by omega
     omega
theorem va{p:ZS}{k l:Nat}(hk:k<p.size)(hl:l<=k)(h:Ih z p k)(h1:∀i,i<l->ky z p i<ky z p k)(h2:∀i,l<=i->i<k->ky z p k<ky z p i):Ih z (bubble p k (k-l)) (k+1):=λi j w6 hj=>by
 have e:∀x,x<=k->ky z (bubble p k (k-l)) x=if x=l then ky z p k else if l<x then ky z p (x-1) else ky z p x:=λx hx=>by
  unfold ky;rw[getElem?_bubble hk (k-l) XS,show k-(k-l)=l by omega];by_cases a:x=l
  .rw[if_pos a,if_pos a]
  .rw[if_neg a,if_neg a];by_cases b:l<x
   .rw[if_pos ⟨b,hx⟩,if_pos b]
   .rw[if_neg (λq=>b q.1),if_neg b]
 rw[e i XS,e j XS];by_cases a:i=l
 .rw[if_pos a,if_neg XS,if_pos XS];exact h2 _ XS XS
 .rw[if_neg a];by_cases b:l<i
  .rw[if_pos b,if_neg XS,if_pos XS];exact h _ _ XS XS
  .rw[if_neg b];by_cases c:j=l
   .rw[if_pos c];exact h1 i XS
   .rw[if_neg c];by_cases d:l<j
    .rw[if_pos d];rcases Nat.lt_or_ge i (j-1) with q | q
     .exact h _ _ q XS
     .omega
    .rw[if_neg d];exact h _ _ w6 XS
include hz hc in
theorem uc{Q:ZS->Shared->Prop}(g:∀p',Pm n p'->Ih z p' n->Q p' s):∀(f:Nat) (p:ZS) (k:Nat),Pm n p->k+f=n->Ih z p k->(kas_bin f p k).kasWp cmp Q s
 | 0,p,k,h,hk,hu=>g p h (by rw[<-(by omega:k=n)];exact hu)
 | f+1,p,k,h,hk,hu=>by
  unfold kas_bin;rw[KasT.kasWp_bind];refine Rc hz hc h XS (λl a b c=>?_) hu k 0 k (Io _) (Vy _) XS (λi q=>absurd q XS) (λi q r=>absurd q XS);exact uc g f _ (k+1) (h.perm (bubble_perm _ _ _)) XS (va (by rw[h.size];omega) a hu b c)
include hz hc in
theorem ie(h2:2<=n){Q:ZS->Shared->Prop}(g:∀p',Pm n p'->Ih z p' n->Q p' s):(kas_sort n).kasWp cmp Q s:=by
 unfold kas_sort;rw[KasT.kasWp_bind];have h0:Pm n (List.toArray (List.range n)):=by unfold Pm;rw[List.toList_toArray]
 refine uq hz hc h0 h2 λm p a b h c=>?_;show (if m<n then kas_bin (n-max m 1) p (max m 1) else KasT.ret p).kasWp cmp Q s;rw[show max m 1=m by omega]
 split
 .exact uc hz hc g _ p m h XS c
 .exact g p h (by rw[<-(by omega:m=n)];exact c)
end
end SRT
namespace SRT
open PySem PySem.Spec PyProof.Rows L2 PySem.W
def Hd(h:Heap)(v:Value)(i:Int):Prop:=∃a o xs n t,v=.ref a/\h.get? a=some o/\o.cls=.type "tuple" /\ o.data=.seq xs n/\xs[0]?=some (.int i t)
def Hds(h:Heap)(vs:ZM)(zs:ZL):Prop:=vs.length=zs.length/\∀i,i<vs.length->Hd h (vs.getD i .none) (zs.getD i 0)
theorem Hds.tups{h:Heap}:∀{vs:ZM} {zs:ZL},Hds h vs zs->∃fs,KatTups h vs fs/\fs.length=vs.length/\∀v∈fs,∃i t,v=.int i t
 | [],zs,g=>⟨[],trivial,rfl,λ_ m=>absurd m U2⟩
 | v::vs,[],g=>absurd g.1 XA
 | v::vs,z::zs,g=>by
  obtain⟨fs,k1,k2,k3⟩:=Hds.tups (vs:=vs) (zs:=zs) ⟨by simpa using g.1,λi hi=>by simpa using g.2 (i+1) (by simpa using hi)⟩;obtain⟨a,o,xs,n,t,e,h1,h2,h3,h4⟩:=g.2 0 XA;have e:v=.ref a:=e;subst e
  exact⟨.int z t::fs,⟨⟨a,o,xs,n,rfl,h1,h2,h3,h4⟩,k1⟩,by simp[k2],λv m=>by
   rcases Y8.mp m with rfl | m
   .exact⟨_,_,rfl⟩
   .exact k3 v m⟩
section
variable{prog:Program}{w:World}{A:Around}{E:ZW}{s:Shared}
theorem lu{x y:Value}{i j:Int}{Q:Bool->Shared->Prop}(hx:Hd s.heap x i)(hy:Hd s.heap y j)(ne:i≠j)(h:Q (decide (i<j)) s):wpAny (model prog w) A (keyLt' (tuples' true) x y) Q E s:=by
 obtain⟨a,o,xs,n,t,rfl,h1,_,h3,h4⟩:=hx;obtain⟨b,o',ys,m,u,rfl,g1,_,g3,g4⟩:=hy
 obtain⟨x0,xr,ex⟩:∃x0 xr,xs.toList=x0::xr:=by
  cases e:xs.toList with
  | nil=>rw[<-Array.getElem?_toList,e]at h4;simp at h4
  | cons p q=>exact⟨p,q,rfl⟩
 obtain⟨y0,yr,ey⟩:∃y0 yr,ys.toList=y0::yr:=by
  cases e:ys.toList with
  | nil=>rw[<-Array.getElem?_toList,e]at g4;simp at g4
  | cons p q=>exact⟨p,q,rfl⟩
 have e0:x0=.int i t:=by rw[<-Array.getElem?_toList,ex]at h4;exact D8 h4
 have f0:y0=.int j u:=by rw[<-Array.getElem?_toList,ey]at g4;exact D8 g4
 subst e0 f0;refine kat_lt h1 h3 g1 g3 ?_;rw[ex,ey,List.zip_cons_cons];refine kat_cons (SeqAt.EqAt.int_int i t j u prog w _ _ ?_);have hb:(i==j)=false:=B0n.mpr ne;rw[hb];refine kat_no ?_;exact oneLt_int h
theorem wa{i:Int}{t:Tok}{M:Model}{h:Heap}:Looks M h (typeOf (.int i t)) (.type "int"):=Looks.of_pure rfl
def Ord(zs:ZL)(p:ZS):Prop:=Pm zs.length p/\Ih (λi=>zs.getD i 0) p zs.length
theorem Qb{h₀:Heap}{L:Addr}{m:ZV}{news:ZY}{l:Addr}{vs:ZM}{zs:ZL}{Q:ZW}(F:Fr h₀ L s.heap m)(N:News h₀ L s.heap news)(hl:s.heap.IsList l vs.toArray)
  (hh:∀h',Fr h₀ L h' m->News h₀ L h' news->Hds h' vs zs) (nd:zs.Nodup) (h2:2<=vs.length) (h64:vs.length<64)
  (fin:∀D h' p c,Ord zs p->Fr h₀ L h' m->News h₀ L h' ((D,listOf (List.toArray (p.toList.map λi=>vs.getD i Value.none)) c)::news)->(∀q∈news,q.1<D)->Q (.ref D) { s with heap:=h' }) :
  wpAny (model prog w) A (call (.builtin "sorted") [.ref l]) Q E s:=by
 refine kat_sorted F N hl h2 h64 λD e1 h' F' N' lt=>?_;have N1:News h₀ L h' news:=λp hp=>N' p (Uz _ hp);have hd:=hh h' F' N1;obtain⟨fs,k1,k2,k3⟩:=hd.tups;refine kat_kind (s:={ s with heap:=h' }) (T:=.type "int") k1 XS (λv m=>?_) rfl ?_
 .obtain⟨i,t,rfl⟩:=k3 v m;exact wa
 .have e:(Value.type "int" != Value.type "tuple")=true:=XU
  rw[e];have el:vs.length=zs.length:=hd.1;rw[el];refine ie (z:=λi=>zs.getD i 0) (λi j hi hj e=>?_) (λi j hi hj w6 C hC=>?_) XS λp pm up=>?_
  .simp only[List.getD_eq_getElem?_getD,Tc hi,Tc hj,Option.getD_some]at e;rcases Nat.lt_trichotomy i j with q | q | q
   .exact absurd e (List.pairwise_iff_getElem.mp nd i j _ _ q)
   .exact q
   .exact absurd e.symm (List.pairwise_iff_getElem.mp nd j i _ _ q)
  .unfold kas_ask;refine lu (s:={ s with heap:=h' }) (hd.2 i XS) (hd.2 j XS) (λe=>w6 ?_) hC;simp only[List.getD_eq_getElem?_getD,Tc hi,Tc hj,Option.getD_some]at e;rcases Nat.lt_trichotomy i j with q | q | q
   .exact absurd e (List.pairwise_iff_getElem.mp nd i j _ _ q)
   .exact q
   .exact absurd e.symm (List.pairwise_iff_getElem.mp nd j i _ _ q)
  .refine KasFin.intro F' N' (g:=λo=>(D,o)::news) ?_ λh2 c F2 N2=>fin D h2 p c ⟨pm,up⟩ F2 N2 lt;exact .head λp hp=>Tf (lt p hp)
theorem qa{Ok:Heap->Prop}{vs:ZM}(hz:vs.length<2):Srt prog w Ok vs λo=>o=vs:=by
 intro A E s D Q _ Cz h;refine wpAny_call_entry slot_list_sort ⟨_,Cz,rfl⟩ entry_list_sort ?_ (args_list_sort _);have ha:D<s.heap.objs.size:=V5 Cz;have sl:=sizeLine_eq;rw[list_sort_plain];refine Zt (listItems_at Cz rfl (Zt (listUpdate_at Cz rfl ?_ (by rw[Ul];omega) (Io _))));obtain⟨e1,a8⟩:∃e1,(s.heap.update D (Obj.mapSeq λ_=>#[])).get? D=some (seqObj "list" #[] e1):=⟨_,get?_update_seq Cz (λ_=>#[])⟩;refine Zt (seqEpoch_at a8 rfl (Zt (wpAny_newTuple (Zt (wpAny_newList (wpAny_holding ?_) (Io _))) (by show vs.length<=_;omega))))
 have ho6:(((s.heap.update D (Obj.mapSeq λ_=>#[])).push (seqObj "tuple" vs.toArray 0)).push (seqObj "list" #[] 0)).get? D=some (seqObj "list" #[] e1) :=
  Vp _ (Vp _ a8)
 show wpAny _ _ _ _ _ { s with heap:=((s.heap.update D (Obj.mapSeq λ_=>#[])).push (seqObj "tuple" vs.toArray 0)).push (seqObj "list" #[] 0) };dsimp only;have h2:vs.toArray.size<2:=by rw[Ul];exact hz
 rw[if_pos h2,if_pos h2];refine Zt (Yl ?_);rw[StateT.run_pure];refine Zt (Yl ?_);dsimp only;refine Zt (seqEpoch_at ho6 rfl (Zt (listUpdate_at ho6 rfl ?_ (Io _) (by rw[Array.size_map];show (pairsOf vs).size<=_;rw[pairsOf_size];omega))));simp only[bne_self_eq_false,B0f,if_false];refine Yl ⟨_,rfl,?_⟩;obtain⟨n,e⟩:=sortedHeap_at (h:=s.heap) (a:=D) (vs:=vs) (n:=0) (out:=(pairsOf vs).map λx:Keyed=>x.2) Cz;refine h (sortedHeap s.heap D vs ((pairsOf vs).map λx:Keyed=>x.2)) ((pairsOf vs).map λx:Keyed=>x.2) n (λb ob nb e0=>SetM.V6 nb e0) e ?_;rw[Array.toList_map];unfold pairsOf;rw[Array.toList_zip];exact List.map_snd_zip (Vy _)
end
section
variable{X:Cx}
theorem L1{zs:ZQ}{vs:ZM}(r:Zd zs vs){i:Nat}(hi:i<vs.length):RelV (zs.getD i .non) (vs.getD i .none):=by
 have hl:=r.length;obtain⟨v,h1,h2⟩:=Zd.get r (Tc (show i<zs.length by omega));rw[List.getD_eq_getElem?_getD,List.getD_eq_getElem?_getD,h1,Tc (show i<zs.length by omega)];exact h2
theorem Li{zs:ZQ}{vs:ZM}(r:Zd zs vs):∀(p:List Nat),(∀i∈p,i<vs.length)->Zd (p.map λi=>zs.getD i .non) (p.map λi=>vs.getD i .none)
 | [],_=>.nil
 | i::p,h=>.cons (L1 r (h i V4)) (Li r p λj m=>h j (Uz _ m))
theorem P2:Y0 X (.builtin "sorted") (λxs H Q=>∃(a:Addr) (zs:ZQ) (hs:ZL),xs=[.ref a]/\Uq X.K H a zs/\zs.length=hs.length/\(∀i,i<zs.length->∃b ws,zs.getD i .non=.ref b/\Vn X.K H b (.int (hs.getD i 0)::ws))/\hs.Nodup/\2<=zs.length/\zs.length<64 /\
  ∀(l:Addr) (p:ZS),H l=none->Ord hs p->Q (.ref l) (upd H l (.lst (p.toList.map λi=>zs.getD i .non)))):=by
 intro XB s Z H xs us Q I r h;obtain⟨a,zs,hs,rfl,hq,hl,hd,nd,h2,h64,q⟩:=h;obtain⟨u,rfl,rx⟩:=vals1 r;cases rx;obtain⟨XD,rv,pl,z⟩:=I.list hq;obtain⟨m,hn,fr,nw⟩:=I.frame;have il:=rv.length;refine Qb (zs:=hs) fr nw pl.isList (λh' F' N'=>⟨by omega,λi hi=>?_⟩) nd XS XS λD h' p c op F' N' lt=>?_
 .obtain⟨b,ws,e1,sq⟩:=hd i XS;have rr:=L1 rv hi;rw[e1]at rr;have rr:XD.getD i .none=.ref b:=rr;obtain⟨jts,jr,⟨o,g1,g2,n,g3⟩,_⟩:=I.tuple sq;cases jr with | cons j1 j2 =>
  obtain⟨t,rfl⟩:=(show ∃t,_=Value.int _ t from j1);refine⟨b,o,_,n,t,rr,Q4 F' N' (λp hp=>hp) b o (λe=>?_) g1,g2,g3,by simp⟩;obtain⟨o',es,ep,k1,k2,_⟩:=hn;rw[<-e,g1]at k1;cases k1;rw[g3]at k2;cases k2
 .have ka:=Q4 F' N' λp hp=>Uz _ hp;have nD:=Inv.newAt (X:=X) (m:=m) N' lt;obtain⟨eD,nDL,_⟩:=N' _ V4
  have pl':∀i∈p.toList,i<XD.length:=λi mi=>by
   have:=List.mem_range.mp (op.1.mem_iff.mp mi);omega
  have ln:(p.toList.map λi=>zs.getD i .non).length<=sizeLine:=by
   rw[Vq,op.1.length_eq,XJ];have:=sizeLine_eq;omega
  obtain⟨J,fD⟩:=I.lay2 (h':=h') (D:=D) (u:=.lst (p.toList.map λi=>zs.getD i .non)) (t':=s.toks) hn F'.ns (λb o nb eb=>ka b o nb eb) nD ⟨ln,_,c,Li rv _ pl',by simpa using eD⟩;exact⟨.ref D,_,J,rfl,q D p fD op⟩
theorem Hc{H:Hp}{zs:ZQ}(h:zs.length<2):v8 X H zs zs:=by
 refine⟨rfl,λXB Z s I vs r=>⟨λ_=>True,λ_ _=>trivial,?_⟩⟩;have:=qa (prog:=X.prog) (w:=X.w) (Ok:=λ_=>True) (vs:=vs) (by rw[<-r.length];exact h);intro A E s D Q o e q;exact this A E s D Q o e λh1 out n k e1 r1=>q h1 out n k e1 (by rw[r1];exact r)
end
end SRT
namespace SRT
open PySem PySem.Spec PyProof.Rows L2
section
variable{Z:Type}
noncomputable def we(x:Int×Z):List (Int×Z)->List (Int×Z)
 | []=>[x]
 | y::r=>if x.1<=y.1 then x::y::r else y::we x r
def Rk:List (Int×Z)->List (Int×Z)
 | []=>[]
 | x::r=>we x (Rk r)
theorem B0(x:Int×Z):∀r:List (Int×Z),(we x r).Perm (x::r)
 | []=>.refl _
 | y::r=>by
  unfold we
  split
  .exact .refl _
  .exact((B0 x r).cons y).trans (.swap x y r)
theorem D3:∀r:List (Int×Z),(Rk r).Perm r
 | []=>.refl _
 | x::r=>(B0 x _).trans ((D3 r).cons x)
theorem S4(x:Int×Z):∀r:List (Int×Z),r.Pairwise (λa b=>a.1<=b.1)->(we x r).Pairwise (λa b=>a.1<=b.1)
 | [],_=>List.pairwise_singleton _ _
 | y::r,h=>by
  rw[ZE]at h;unfold we
  split
  .rename_i hx
   rw[ZE,ZE];exact⟨λz m=>by rcases Y8.mp m with rfl | m;exact hx;exact Int.le_trans hx (h.1 z m),h.1,h.2⟩
  .rename_i hx
   rw[ZE];refine⟨λz m=>?_,S4 x r h.2⟩;rcases Y8.mp ((B0 x r).mem_iff.mp m) with rfl | m
   .omega
   .exact h.1 z m
theorem O2:∀r:List (Int×Z),(Rk r).Pairwise (λa b=>a.1<=b.1)
 | []=>List.Pairwise.nil
 | x::r=>S4 x _ (O2 r)
theorem Ry{a b:Int×Z}:∀{l:List (Int×Z)},l.Pairwise (λa b=>a.1<b.1)->a∈l->b∈l->a.1=b.1->a=b
 | [],_,h,_,_=>absurd h U2
 | x::l,p,h,h',e=>by
  rw[ZE]at p;rcases Y8.mp h with e1 | m1
  .rcases Y8.mp h' with e2 | m2
   .rw[e1,e2]
   .have:=p.1 b m2;rw[<-e1]at this;omega
  .rcases Y8.mp h' with e2 | m2
   .have:=p.1 a m1;rw[<-e2]at this;omega
   .exact Ry p.2 m1 m2 e
theorem iu{a b:List (Int×Z)}(h:a.Perm b)(s:a.Pairwise (λa b=>a.1<b.1)):a=Rk b :=
 List.Perm.eq_of_pairwise (λx y mx my h1 h2=>Ry s mx (h.symm.mem_iff.mp ((D3 b).mem_iff.mp my)) (Int.le_antisymm h1 h2)) (s.imp λh=>Int.le_of_lt h) (O2 b) (h.trans (D3 b).symm)
theorem Ax{Z:Type}(l:List Z)(d:Z):(List.range l.length).map (λi=>l.getD i d)=l:=by
 apply List.ext_getElem?
 intro i;rw[Oj];by_cases h:i<l.length
 .rw[List.getElem?_range h,Tc h];simp[h]
 .rw[List.getElem?_eq_none (by simpa using h),List.getElem?_eq_none XS]
  rfl
theorem nu{hs:ZL}{ts:List Z}{d:Z}{p:ZS}(hl:ts.length=hs.length)(o:Ord hs p):p.toList.map (λi=>ts.getD i d)=(Rk (hs.zip ts)).map (·.2):=by
 have zl:(hs.zip ts).length=hs.length:=by rw[List.length_zip];omega
 have key:p.toList.map (λi=>(hs.zip ts).getD i (0,d))=Rk (hs.zip ts):=by
  refine iu ?_ ?_
  .have:=o.1.map λi=>(hs.zip ts).getD i (0,d);rw[<-zl,Ax]at this;exact this
  .rw[List.pairwise_map,List.pairwise_iff_getElem];intro i j hi hj w6;have hsz:=o.1.size;rw[yf]at hi hj;have up:=o.2 i j w6 XS;unfold ky at up;rw[ou hi,ou hj]at up;have li:=o.1.lt (k:=i) XS;have lj:=o.1.lt (k:=j) XS;rw[ou hi]at li;rw[ou hj]at lj;simp only[Option.getD_some]at up li lj
   have e:∀k,k<hs.length->((hs.zip ts).getD k (0,d)).1=hs.getD k 0:=λk hk=>by
    rw[List.getD_eq_getElem?_getD,Tc XS,List.getD_eq_getElem?_getD,Tc hk];simp
   rw[Array.getElem_toList,Array.getElem_toList,e _ li,e _ lj];exact up
 rw[<-key,List.map_map];refine List.map_congr_left λi m=>?_;have hi:=List.mem_range.mp (o.1.mem_iff.mp m);show _=((hs.zip ts).getD i (0,d)).2;rw[List.getD_eq_getElem?_getD,Tc (show i<ts.length by omega),List.getD_eq_getElem?_getD,Tc (show i<(hs.zip ts).length by omega)];simp
theorem ff{hs:ZL}{ts:List Z}{d:Z}(hl:ts.length=hs.length)(h:ts.length<2):(Rk (hs.zip ts)).map (·.2)=ts:=by
 match ts,hs,hl with
 | [],[],_=>rfl
 | [t],[i],_=>rfl
 | a::b::r,_,_=>exact absurd h XA
end
end SRT
namespace L2
open PySem PySem.Spec PyProof.Rows
theorem rb{XM:List (Key×Value)}{acc:ZN}(h:ItemsOf (λi v=>∃k,XM[i]?=some (k,v)) acc XM.length):acc.toList=XM.map (·.2):=by
 refine List.ext_getElem? λi=>?_;by_cases hi:i<XM.length
 .have ha:i<acc.size:=by rw[h.1];exact hi
  obtain⟨k,e⟩:=h.2 i _ (ou ha);rw[Array.getElem?_toList,ou ha,Oj,e]
  rfl
 .rw[List.getElem?_eq_none (by rw[yf,h.1];omega),List.getElem?_eq_none (by rw[Vq];omega)]
def tVals(to:TE):TE:=λZ H Q=>to Z H λx H1=>∃(d:Addr) (XM:List (Key×V)),x=.ref d/\Rd H1 d (.dK XM)/\∀l:Addr,H1 l=none->Q (.ref l) (upd H1 l (.lst (XM.map (·.2))))
theorem Zqg:∀{XM:List (Key×V)} {ws:List (Key×Value)},KV XM ws->Zd (XM.map (·.2)) (ws.map (·.2)):=by
 intro XM ws h;unfold KV at h
 induction h with
 | nil=>exact .nil
 | cons r _ ih=>exact .cons r.2 ih
section
variable{X:Cx}{p p2 pos ap:Pos}{o:Expr}{to:TE}
theorem Sw(hc:X.calm=true)(hg:Gl X "list")(hm:X.mg "list"=none)(ho:PE X o to)(Dk:attributeBase o "values" X.env (eval o X.env)=eval o X.env)(Dy:(ap.endLine==p2.line)=true)
  (he:starEach [.Call (.Attribute o "values" ap) [] [] p2] X.env=[(false,eval (.Call (.Attribute o "values" ap) [] [] p2) X.env)]) :
  PE X (.Call (.Name "list" p) [.Call (.Attribute o "values" ap) [] [] p2] [] pos) (tVals to):=by
 intro XB s Z H Q I h;refine wpAny_Call_Name_kw (M3 I hg hm (by decide +kernel:bootBuiltins "list"=some (.type "list")) ?_ XU XU);refine callWith_type1 ?_ he rfl;rw[he]
 change wpAny _ _ (spliced ((false,eval (.Call (.Attribute o "values" ap) [] [] p2) X.env)::[])) _ _ s
 refine Calls.spliced_cons ?_;refine wpAny_Call_method0_late Dk Dy (Yj (ho XB s Z H _ I h) λv s1 ⟨x,H1,I1,r1,q1⟩=>?_);obtain⟨d,XM,rfl,hd,q⟩:=q1;cases r1;obtain⟨z,a9,ws,rel,dd⟩:=Gi I1.hok hd;obtain⟨ep,da⟩:=dd.dictAt;obtain⟨t1,t2,_⟩:=R6 I1 (.inl ⟨XM,hd⟩);refine⟨"dict","dict.values",PySem.F.plainAttrs_dict,PySem.F.slot_dict_values,PySem.F.type_dict_values,t1,t2,Calls.callWith_builtin rfl (PySem.evalArgs_none ?_)⟩;refine call_meetsIn PySem.F.slot_dict_values dd.typeIs PySem.F.entry_dict_values (PySem.F.args_dict_values_1 _) (meets_dict_values (Zh X.prog X.w) d a9) ⟨⟨ws,dd⟩,?_⟩;refine Calls.spliced_nil ?_;have k0:∀b ob,s1.heap.get? b=some ob->(s1.heap.push { cls:=.type "dict_values",data:=.fields #[.ref d] }).get? b=some ob:=λb ob e=>Vp _ e;refine W.kdl_call (s:={ s1 with heap:=s1.heap.push { cls:=.type "dict_values",data:=.fields #[.ref d] } }) (@W.kdl_values X.prog X.w _ _ (Zh X.prog X.w) d s1.heap.objs.size ws ep) (I1.ok.hd hc) ⟨⟨_,Mp _ rfl,rfl,rfl⟩,da.push _⟩ (by rw[<-rel.length];exact z) λh' tk acc c k1 Cz hacc=>?_;have rv:Zd (XM.map (·.2)) acc.toList:=by rw[rb hacc];exact Zqg rel
 dsimp only at Cz;rw[Heap.size_push]at Cz ⊢;exact⟨.ref (s1.heap.objs.size+1),_,I1.put (o:=.lst (XM.map (·.2))) (d':=s1.drawn) (λb ob e=>k1 b ob (k0 b ob e)) (Nat.le_succ _) ⟨by rw[Vq];exact z,acc.toList,c,rv,by simpa using Cz⟩,rfl,q _ (I1.hok.fresh (Nat.le_succ _))⟩
end
end L2
namespace TNM
open PySem PySem.Calls PyProof.Rows SeqAt
inductive Nv:Value->Int->Prop
 | i(x:Int)(t:Tok):Nv (.int x t) x
 | b (k:Bool):Nv (.bool k) (if k=true then 1 else 0)
section
variable{prog:Program}{w:World}{A:Around}{E:ZW}{s:Shared}{Q:ZW}
theorem g_bb(a b:Bool):Gives (Builtin.«int.__lt__» ⟨[.bool a,.bool b],[]⟩) (.val (.bool (decide ((if a=true then (1:Int) else 0)<if b=true then 1 else 0)))):=by cases a<;>cases b<;>exact .of_eq rfl
theorem g_bi(a:Bool)(b:Int)(u:Tok):Gives (Builtin.«int.__lt__» ⟨[.bool a,.int b u],[]⟩) (.val (.bool (decide ((if a=true then (1:Int) else 0)<b)))):=by cases a<;>exact .of_eq rfl
theorem Zwt(a:Bool)(b:Int)(u:Tok):Gives (Builtin.«int.__gt__» ⟨[.bool a,.int b u],[]⟩) (.val (.bool (decide ((if a=true then (1:Int) else 0)>b)))):=by cases a<;>exact .of_eq rfl
theorem g_gbb(a b:Bool):Gives (Builtin.«int.__gt__» ⟨[.bool a,.bool b],[]⟩) (.val (.bool (decide ((if a=true then (1:Int) else 0)>if b=true then 1 else 0)))):=by cases a<;>cases b<;>exact .of_eq rfl
theorem lt_num{v u:Value}{x y:Int}(hv:Nv v x)(hu:Nv u y)(h:Q (.bool (decide (x<y))) s):wpAny (model prog w) A (richCompare .Lt v u) Q E s:=by
 cases hv with
 | i x t=>cases hu with
  | i y t'=>exact richCompare_gives (op:=.Lt) (typeIs_int s _ t) (typeIs_int s _ t') F.slot_int_lt F.entry_int_lt (F.args_int_lt_2 _ _) (gives_int_lt _ _ t t') (λz=>nomatch z) h
  | b k=>exact rc_sub_first_or (typeIs_int s x t) rfl XU F.sub_bool_int F.slot_bool_gt_refl (call_gives F.slot_bool_gt rfl F.entry_int_gt (F.args_int_gt_2 _ _) (Zwt k x t) ⟨nofun,h⟩) (.inl rfl)
 | b k=>cases hu with
  | i y t'=>exact rc_left_or rfl (typeIs_int s y t') XU F.sub_int_bool F.slot_bool_lt (call_gives F.slot_bool_lt rfl F.entry_int_lt (F.args_int_lt_2 _ _) (g_bi k y t') ⟨nofun,h⟩) (.inl rfl)
  | b k'=>exact richCompare_gives (op:=.Lt) rfl rfl F.slot_bool_lt F.entry_int_lt (F.args_int_lt_2 _ _) (g_bb k k') (λz=>nomatch z) h
theorem gt_num{v u:Value}{x y:Int}(hv:Nv v x)(hu:Nv u y)(h:Q (.bool (decide (x>y))) s):wpAny (model prog w) A (richCompare .Gt v u) Q E s:=by
 cases hv with
 | i x t=>cases hu with
  | i y t'=>exact richCompare_gives (op:=.Gt) (typeIs_int s _ t) (typeIs_int s _ t') F.slot_int_gt F.entry_int_gt (F.args_int_gt_2 _ _) (gives_int_gt _ _ t t') (λz=>nomatch z) h
  | b k=>exact rc_sub_first_or (typeIs_int s x t) rfl XU F.sub_bool_int F.slot_bool_lt_refl (call_gives F.slot_bool_lt rfl F.entry_int_lt (F.args_int_lt_2 _ _) (g_bi k x t) ⟨nofun,h⟩) (.inl rfl)
 | b k=>cases hu with
  | i y t'=>exact rc_left_or rfl (typeIs_int s y t') XU F.sub_int_bool F.slot_bool_gt (call_gives F.slot_bool_gt rfl F.entry_int_gt (F.args_int_gt_2 _ _) (Zwt k y t') ⟨nofun,h⟩) (.inl rfl)
  | b k'=>exact richCompare_gives (op:=.Gt) rfl rfl F.slot_bool_gt F.entry_int_gt (F.args_int_gt_2 _ _) (g_gbb k k') (λz=>nomatch z) h
theorem C2{a b v:Value}{x y:Int}(ha:Nv a x)(hb:Nv b y){i:Nat}(e:#[a,b][i]?=some v):Nv v (if i=0 then x else y):=by
 match i,e with
 | 0,e=>cases e;exact ha
 | 1,e=>cases e;exact hb
 | i+2,e=>rw[Array.getElem?_eq_none (by show 2<=i+2;omega)]at e;cases e
theorem min_two{a b:Value}{x y:Int}(ha:Nv a x)(hb:Nv b y)(hh:A.handled=none)(h:∀h' tk,(∀c o,s.heap.get? c=some o->h'.get? c=some o)->Q (if y<x then b else a) { s with heap:=h',toks:=tk }):wpAny (model prog w) A (call (.builtin "min") [a,b]) Q E s:=by
 have tp:(s.heap.push { cls:=.type "tuple",data:=.seq #[a,b] }).IsTuple s.heap.objs.size #[a,b]:=⟨_,Mp _ rfl,rfl,0,rfl⟩;have sz:(s.heap.push { cls:=.type "tuple",data:=.seq #[a,b] }).objs.size=s.heap.objs.size+1:=Heap.size_push _ _;refine call_min_two (wpAny_pyIter_tuple tp ⟨_,[_,s.heap.objs.size],[_],_,_,_,λi j=>decide ((if i=0 then x else y)<if j=0 then x else y),rfl,Walks.tuple (A:=A.in1) hh _ s.heap.objs.size (by rw[sz];exact Tf (Nat.lt_succ_self _)) #[a,b],⟨⟨_,Mp _ rfl,rfl,rfl⟩,tp.push _⟩,λc hc=>?_,Nat.zero_lt_succ _,λi j vi vj s' Q' E' pi pj q=>lt_num (C2 ha hb pi) (C2 ha hb pj) q,λv h' tk hP hk=>?_⟩)
 .show c<((s.heap.push _).push _).objs.size;rw[Heap.size_push,sz];rcases Y8.mp hc with rfl | hc
  .rw[sz];exact Nat.lt_succ_self _
  .cases F8.mp hc;exact Nat.lt_succ_of_lt (Nat.lt_succ_self _)
 .have old:∀c o,s.heap.get? c=some o->h'.get? c=some o:=λc o e=>hk c o (λz=>by
   have lt:=V5 e;rw[F8.mp z,sz]at lt;exact Nat.lt_irrefl _ (Nat.lt_of_succ_lt lt)) (Vp _ (Vp _ e))
  have ev:v=if y<x then b else a:=by
   have hP:#[a,b][if decide ((if 1=0 then x else y)<if 0=0 then x else y)=true then 1 else 0]?=some v:=hP;rw[if_neg (by decide:¬ (1:Nat)=0),if_pos (rfl:(0:Nat)=0)]at hP;by_cases g:y<x
   .rw[if_pos (Mz g)]at hP;rw[if_pos g];exact(D8 hP).symm
   .rw[if_neg (by rw[decide_eq_true_eq];exact g)]at hP;rw[if_neg g];exact(D8 hP).symm
  rw[ev];exact h h' tk old
theorem max_two{a b:Value}{x y:Int}(ha:Nv a x)(hb:Nv b y)(hh:A.handled=none)(h:∀h' tk,(∀c o,s.heap.get? c=some o->h'.get? c=some o)->Q (if y>x then b else a) { s with heap:=h',toks:=tk }):wpAny (model prog w) A (call (.builtin "max") [a,b]) Q E s:=by
 have tp:(s.heap.push { cls:=.type "tuple",data:=.seq #[a,b] }).IsTuple s.heap.objs.size #[a,b]:=⟨_,Mp _ rfl,rfl,0,rfl⟩;have sz:(s.heap.push { cls:=.type "tuple",data:=.seq #[a,b] }).objs.size=s.heap.objs.size+1:=Heap.size_push _ _;refine call_max_two (wpAny_pyIter_tuple tp ⟨_,[_,s.heap.objs.size],[_],_,_,_,λi j=>decide ((if i=0 then x else y)>if j=0 then x else y),rfl,Walks.tuple (A:=A.in1) hh _ s.heap.objs.size (by rw[sz];exact Tf (Nat.lt_succ_self _)) #[a,b],⟨⟨_,Mp _ rfl,rfl,rfl⟩,tp.push _⟩,λc hc=>?_,Nat.zero_lt_succ _,λi j vi vj s' Q' E' pi pj q=>gt_num (C2 ha hb pi) (C2 ha hb pj) q,λv h' tk hP hk=>?_⟩)
 .show c<((s.heap.push _).push _).objs.size;rw[Heap.size_push,sz];rcases Y8.mp hc with rfl | hc
  .rw[sz];exact Nat.lt_succ_self _
  .cases F8.mp hc;exact Nat.lt_succ_of_lt (Nat.lt_succ_self _)
 .have old:∀c o,s.heap.get? c=some o->h'.get? c=some o:=λc o e=>hk c o (λz=>by
   have lt:=V5 e;rw[F8.mp z,sz]at lt;exact Nat.lt_irrefl _ (Nat.lt_of_succ_lt lt)) (Vp _ (Vp _ e))
  have ev:v=if y>x then b else a:=by
   have hP:#[a,b][if decide ((if 1=0 then x else y)>if 0=0 then x else y)=true then 1 else 0]?=some v:=hP;rw[if_neg (by decide:¬ (1:Nat)=0),if_pos (rfl:(0:Nat)=0)]at hP;by_cases g:y>x
   .rw[if_pos (Mz g)]at hP;rw[if_pos g];exact(D8 hP).symm
   .rw[if_neg (by rw[decide_eq_true_eq];exact g)]at hP;rw[if_neg g];exact(D8 hP).symm
  rw[ev];exact h h' tk old
theorem add_bi{b:Bool}{a:Int}{t:Tok}(h:Q (.int ((if b=true then (1:Int) else 0)+a) s.toks) { s with toks:=s.toks+1 }):wpAny (model prog w) A (binaryOp .Add (.bool b) (.int a t)) Q E s :=
 binaryOp_left_gives (op:=.Add) (T:="bool") (U:="int") XU rfl (λs'=>typeIs_int s' a t) F.fills_bool_add F.fills_int_add F.sub_int_bool F.slot_bool_add F.slot_int_radd F.entry_int_add (F.args_int_add_2 _ _) (m:=.int ((if b=true then (1:Int) else 0)+a)) (by cases b<;>exact .of_eq rfl) trivial h
end
end TNM
namespace TNM
open PySem PySem.Spec PyProof.Rows L2
section
variable{X:Cx}
def NV:V->Int->Prop
 | .int i,x=>x=i
 | .bl b,x=>x=if b=true then 1 else 0
 | _,_=>False
theorem NV.nv{x:V}{v:Value}{i:Int}(h:NV x i)(r:RelV x v):Nv v i:=by
 cases x with
 | int k=>obtain⟨t,rfl⟩:=r;cases h;exact .i _ t
 | bl b=>cases r;cases h;exact .b b
 | _=>exact h.elim
inductive gf(R:Int->Int->Bool)(xs:ZQ)(H:Hp)(Q:VK):Prop
 | mk(x y:V)(i j:Int)(h0:xs=[x,y])(h1:NV x i)(h2:NV y j)(h3:Q (if R j i=true then y else x) H):gf R xs H Q
theorem A7(hc:X.calm=true):Y0 X (.builtin "min") (gf λa b=>decide (a<b)):=by
 intro XB s Z H xs us Q I r h;obtain⟨x,y,i,j,rfl,hx,hy,q⟩:=h;obtain⟨v,u,rfl,rv,ru⟩:=vals2 r;refine min_two (hx.nv rv) (hy.nv ru) (I.ok.hd hc) λh' tk k=>⟨_,H,I.kept k,?_,q⟩;by_cases g:j<i
 .rw[if_pos g,if_pos (Mz g)];exact ru
 .rw[if_neg g,if_neg (by rw[decide_eq_true_eq];exact g)];exact rv
theorem A8(hc:X.calm=true):Y0 X (.builtin "max") (gf λa b=>decide (a>b)):=by
 intro XB s Z H xs us Q I r h;obtain⟨x,y,i,j,rfl,hx,hy,q⟩:=h;obtain⟨v,u,rfl,rv,ru⟩:=vals2 r;refine max_two (hx.nv rv) (hy.nv ru) (I.ok.hd hc) λh' tk k=>⟨_,H,I.kept k,?_,q⟩;by_cases g:j>i
 .rw[if_pos g,if_pos (Mz g)];exact ru
 .rw[if_neg g,if_neg (by rw[decide_eq_true_eq];exact g)];exact rv
inductive Kn(x:V)(y:V)(H:Hp)(Q:VK):Prop
 | mk(b i)(h0:x=.bl b)(h1:y=.int i)(h2:Q (.int ((if b=true then 1 else 0)+i)) H):Kn x y H Q
theorem j6:Mh X (binaryOp .Add) (λx y H Q=>Kn x y H Q):=by
 intro XB s Z H x y v u Q I rx ry h;obtain⟨b,i,rfl,rfl,q⟩:=h;cases rx;obtain⟨t,rfl⟩:=ry;exact add_bi ⟨.int _,H,I.tok _,⟨_,rfl⟩,q⟩
end
end TNM
namespace HT
open PySem PySem.Spec PyProof.Rows
section
variable{prog:Program}{w:World}{A:Around}{E:ZW}{s:Shared}
theorem Bl{sl:Addr}{u:Tok}{Q:Int×Int×Nat->Shared->Prop}(hs:s.heap.IsSliceOf sl .none .none (.int 2 u))
  (h:Q (0,2,2) s):wpAny (model prog w) A (Builtin.Slice.sliceApplied (.ref sl) (pure (3:Int))) Q E s:=by
 obtain⟨os,w4,hcs,oz⟩:=id hs;unfold Builtin.Slice.sliceApplied Builtin.Slice.sliceFields;refine Zt (Zt (wpAny_field w4 oz (x:=.none) rfl (Zt (wpAny_field w4 oz (x:=.none) rfl (Zt (wpAny_field w4 oz (x:=.int 2 u) rfl (Yl ?_)))))));refine Zt (slicePart_int ?_);show wpAny _ _ (if ((2:Int)==0)=true then _ else _) _ _ s;rw[if_neg XU];refine Zt (slicePart_none (Zt (slicePart_none (Zt (Yl ?_)))));exact Yl h
theorem N0{t sl:Addr}{x y z:Value}{u:Tok}{Q:ZW}(ht:IsTup s.heap t #[x,y,z])(hs:s.heap.IsSliceOf sl .none .none (.int 2 u))
  (h:Q (.ref s.heap.objs.size) { s with heap:=s.heap.push { cls:=.type "tuple",data:=.seq #[x,z] } }):wpAny (model prog w) A (getItem (.ref t) (.ref sl)) Q E s:=by
 obtain⟨os,w4,hcs,oz⟩:=id hs;have hTs:s.TypeIs (.ref sl) "slice" := ⟨os,w4,hcs⟩
 have Na:sizeOk (.seq #[x,z]):=by
  show 2<=sizeLine;have:=sizeLine_eq;omega
 unfold getItem
 try with_reducible refine wpAny_holding ?_
 first | refine Zt (Yl ?_) | skip
 refine Zt (wpAny_sequenceKey ht.typeIs XU ?_)
 refine Zt (wpAny_callSpecial?_slot (name:=Str.ofString "__getitem__") ht.typeIs slot_tuple_getitem
  (wpAny_call_entry slot_tuple_getitem ht.typeIs entry_tuple_getitem ?_ (args_tuple_getitem _ _)))
 show wpAny _ _ (Builtin.Tuple.tupleItemsOf (.ref t) >>= _) _ _ s;refine Zt (tupleItemsOf_ ht ?_);refine Zt (wpAny_typeOf hTs ?_);rw[if_pos XU];refine Zt (Bl hs ?_);show wpAny _ _ (if ((0:Int)==0&&(2:Int)==1&&(2:Nat)==3)=true then _ else _) _ _ s;rw[if_neg XU]
 first
  | exact Zt (m:=Builtin.Tuple.tupleExact _) (wpAny_newObj_type (Yl ⟨_,rfl,Yl h⟩) Na)
  | exact Zt (m:=Builtin.Tuple.tupleExact _) (wpAny_newObj_type (Zt (Yl (Yl ⟨_,rfl,Yl h⟩))) Na)
  | exact Zt (Zt (m:=Builtin.Tuple.tupleExact _) (wpAny_newObj_type (Yl (Yl ⟨_,rfl,Yl h⟩)) Na))
  | exact Zt (Zt (m:=Builtin.Tuple.tupleExact _) (wpAny_newObj_type (Yl ⟨_,rfl,Yl h⟩) Na))
end
end HT
namespace L2
open PySem PySem.Spec PyProof.Rows
section
variable{X:Cx}{e:Expr}{te:TE}{pos p2 p3:Pos}{j1:Nat}
def tStp(K:W.Frag)(te:TE):TE:=λZ H Q=>te Z H λx H1=>∃a u v w,x=.ref a/\Vn K H1 a [u,v,w]/\∀p,H1 p=none->Q (.ref p) (upd H1 p (.tup [u,w]))
theorem Zxw(he:PE X e te):PE X (.Subscript e (.Slice none none (some (.Constant (.int 2) j1 p3)) p2) pos) (tStp X.K te):=by
 intro XB s Z H Q I h;refine Subscript_ (Yj (he XB s Z H _ I h) λv s1 ⟨x,H1,I1,r1,q1⟩=>?_);refine wpAny_Slice ?_;rw[evalPart_none];refine Yl (Yl ?_);rw[evalPart_some];refine Yj ((Ma (X:=X):PE X (.Constant (.int 2) j1 p3) (tC (.int 2))) XB s1 Z H1 (λv H2=>v=.int 2/\H2=H1) I1 ⟨rfl,rfl⟩) λu s3 ⟨y,H3,I3,r3,e3,e4⟩=>?_;subst e3 e4;obtain⟨t,rfl⟩:=r3;obtain⟨a,x1,x2,x3,rfl,hx,q⟩:=q1;cases r1;have I4:Inv X XB Z H3 { s3 with heap:=s3.heap.push { cls:=.type "slice",data:=.fields #[.none,.none,.int 2 t] } }:=I3.kept (t':=s3.toks) λb ob q=>Vp _ q;obtain⟨XD,r,ht,hz⟩:=I4.tuple hx;cases r with
 | cons r1 r =>
 cases r with
 | cons r2 r =>
 cases r with
 | cons r3 r =>
 cases r;show wpAny (model X.prog X.w) X.A (subscriptTail e (.Slice none none (some (.Constant (.int 2) j1 p3)) p2) (.ref a) (.ref s3.heap.objs.size)) (EP X XB Z Q) X.xe { s3 with heap:=s3.heap.push { cls:=.type "slice",data:=.fields #[.none,.none,.int 2 t] } };refine tail_any (ops:=[.ref a,.ref s3.heap.objs.size]) ht.typeIs slot_tuple_getitem.lookup (HT.N0 ht (Heap.IsSliceOf.new ..) ?_) (by with_unfolding_all rfl);refine⟨.ref _,_,I4.laid (t':=s3.toks) (o:=.tup [x1,x3]) (λb ob q=>Vp _ q) (Vy _) ?_,rfl,q _ (I4.hok.fresh (Vy _))⟩;exact⟨by have:=sizeLine_eq;show 2<=sizeLine;omega,_,.cons r1 (.cons r3 .nil),Wa.new _ _⟩
end
end L2
namespace SetM
open PySem PySem.Spec PyProof.Rows
section
variable{prog:Program}{w:World}{A:Around}{E:ZW}{s:Shared}{a:Addr}
end
end SetM
namespace PV
open PySem
structure TP where
 P:Addr
 lp:Pos
 q:Str
def gu:Option TP:=none
def Ti:ZK:=[]
end PV
namespace PV
open PySem PySem.Spec PyProof.Rows L2
def Tb(T:TP)(H:Hp):Prop:=∃ps,H T.P=some (.tbl ps)/\u9 H T.lp T.q ps
def Pln(o:HO):Prop:=(∀ps,o≠.tbl ps)/\∀φ,o≠.ext φ
theorem tm{vs:ZQ}:Pln (.lst vs):=⟨λ_ z=>(nomatch z),λ_ z=>(nomatch z)⟩
theorem Zwq{vs:List (Key×V)}:Pln (.dK vs):=⟨λ_ z=>(nomatch z),λ_ z=>(nomatch z)⟩
theorem pln_f{o:Obj}{u:HO}:Pln (.frz o u):=⟨λ_ z=>(nomatch z),λ_ z=>(nomatch z)⟩
section
variable{T:TP}{F G H H':Hp}{a:Addr}{o o':HO}
theorem Tb.ne(t:Tb T H)(e:H a=some o)(n:Pln o):a≠T.P:=λz=>by
 obtain⟨ps,h,_⟩:=t;rw[z,h]at e;cases e;exact n.1 _ rfl
theorem Tb.no(t:Tb T H)(e:H a=none):a≠T.P:=λz=>by
 obtain⟨ps,h,_⟩:=t;rw[z,h]at e;cases e
theorem tab_keep{lp:Pos}{q:Str}{ps:ZN}(t:u9 H lp q ps)(h:∀a φ,H a=some (.ext φ)->H' a=some (.ext φ)):u9 H' lp q ps:=⟨t.1,t.2.imp id λ⟨c,e,hc⟩=>⟨c,e,h c _ hc⟩⟩
theorem Tb.same(t:Tb T H)(s:Zp H H'):Tb T H':=let ⟨ps,e,k⟩:=t;⟨ps,s _ _ e,tab_keep k λa o h=>s _ _ h⟩
theorem Tb.upd(t:Tb T H)(e:H a=some o)(n:Pln o):Tb T (upd H a o'):=by
 have ne:=t.ne e n;obtain⟨ps,h,k⟩:=t;refine⟨ps,by rw[Zz ne.symm];exact h,tab_keep k λb φ q=>?_⟩;rw[Zz λz=>by rw[z,e]at q;cases q;exact n.2 _ rfl];exact q
structure TBT(T:TP)(F G H:Hp):Prop where
 f:F T.P=none
 g:G T.P=none
 h:Tb T H
end
def TB(F G H:Hp):Prop:=∀T,gu=some T->TBT T F G H
theorem TB.same{F G H H':Hp}(t:TB F G H)(s:Zp H H'):TB F G H':=λT e=>let ⟨f,g,h⟩:=t T e;⟨f,g,h.same s⟩
end PV
namespace L2
open PySem PySem.Spec PyProof.Rows
section
variable{X:Cx}{e:Expr}{te:TA}{p pos lp kp p0 p1 p2 p3:Pos}
end
end L2
namespace PV
open PySem PySem.Spec PyProof.Rows L2
inductive T where
 | non | bl(b:Bool) | int(i:Int) | str(x:Str) | tup(ts:List T) | lst(ts:List T) | dct(XM:List (Key×T)) | fn(x:Str)
abbrev ZZ:=List T
abbrev ZX:=List (Key×T)
inductive Sl where | no | f(t:T) | o(t:T)
abbrev P:=List Sl
set_option genInjectivity true in
inductive A where | t(t:T) | s(i:Nat)
inductive Op where | add | sub | mul | fdiv | mod | pow
inductive Cm where | eq | ne | lt | le | gt | ge | isin | notin | is | isnt
inductive Kd where | int | bool | str | tuple | list | dict
inductive Pr where
 | op(o:Op) | cm(c:Cm) | c2(c d:Cm) | neg | ix | sl(lo hi:Bool) | rev
 | len | all | any | list | tuple | sorted | sset | lset | min | max | int | repr | dict | sum | abs | str | isi (n:Kd) | get1 | get2 | join (x:Str) | lvals | tup1 | dnew | sl2 | srtK
inductive Mt where | append | extend | pop | popAt | insert
inductive Ik where | rng | zip
inductive E where
 | v(i:Nat) | mv(i:Nat) | io(i:Nat) | k(t:T) | g(x:Str)
 | nil | cons (a r:E)
 | tup (es:E) | lst (es:E) | pr (p:Pr) (es:E)
 | and (a b:E) | or (a b:E) | not (a:E) | ite (c a b:E)
 | call (f:Str) (es:E) | cal (i:Nat) (es:E) | mt (m:Mt) (i:Nat) (es:E)
 | comp (tg it c el:E) (fr:ZG) (ns:ZD) | itr (k:Ik) (es:E) | tmp (a:E)
inductive S where
 | nil | seq(a r:S) | ret(a:E) | ex(a:E) | set(i:Nat)(a:E) | unp(tg a:E) | put(i:Nat)(k a:E)
 | ite (c:E) (a b:S) | loop (tg it:E) (b:S) | wh (c:E) (b:S) | pass | brk | cont
inductive Fl where | nx | rt(r:Sl) | bk | ct
noncomputable def G6(ts:ZZ)(lo hi:ZR):ZZ:=(ts.drop (HT.Y7 ts.length 0 lo)).take (HT.Y7 ts.length ts.length hi-HT.Y7 ts.length 0 lo)
noncomputable def Zb(XM:ZX)(k:Key):Option T:=(XM.find? λp=>decide (p.1=k)).map (·.2)
noncomputable def Y9(XM:ZX)(k:Key)(v:T):ZX :=
 if (XM.any λp=>decide (p.1=k))=true then XM.map λp=>if p.1=k then (p.1,v) else p else XM++[(k,v)]
noncomputable def keyT:T->Option Key
 | .int i=>some (.inl i)
 | .str x=>some (.inr x)
 | _=>none
noncomputable def Bc:Key->T
 | .inl i=>.int i
 | .inr x=>.str x
noncomputable def allB:ZZ->Option (List Bool)
 | []=>some []
 | .bl b::r=>(allB r).map (b::·)
 | _::_=>none
def Je:T->Bool
 | .non=>true
 | .bl _=>true
 | .int _=>true
 | .str _=>true
 | _=>false
noncomputable def shV:T->Option V
 | .non=>some .non
 | .bl b=>some (.bl b)
 | .int i=>some (.int i)
 | .str x=>some (.str x)
 | .tup _=>some (.ref 0)
 | _=>none
noncomputable def eqT:T->T->Option Bool
 | .str a,.str b=>some (decide (a=b))
 | .int a,.int b=>some (decide (a=b))
 | a,b=>if Je b=true then (shV a).bind λx=>(shV b).map (oj x) else none
noncomputable def Zjx:ZZ->ZZ->Option Bool
 | [],[]=>some true
 | a::r,b::q=>if Je a=true then (eqT a b).bind λx=>(Zjx r q).map (x && ·) else none
 | [],b::_=>if Je b=true then some false else none
 | a::_,[]=>if Je a=true then some false else none
def gn:T->Option (ZZ)
 | .tup ts=>some ts
 | _=>none
noncomputable def eqE(a b:T):Option Bool:=match gn b with
 | none=>eqT a b
 | some bs=>(gn a).bind λas=>Zjx as bs
noncomputable def ltT:T->T->Option Bool
 | .int a,.int b=>some (decide (a<b))
 | _,_=>none
def geT:T->T->Option Bool
 | .int a,.int b=>some (decide (b<=a))
 | _,_=>none
noncomputable def G1(a:T):ZZ->Option Bool
 | []=>some false
 | t::r=>(eqE t a).bind λb=>(G1 a r).map (b || ·)
noncomputable def Ja:ZZ->Option (ZL)
 | []=>some []
 | .int i::r=>(Ja r).map (i::·)
 | _::_=>none
noncomputable def Nf:ZZ->Option (ZD)
 | []=>some []
 | .str i::r=>(Nf r).map (i::·)
 | _::_=>none
noncomputable def ndl:T->Bool
 | .tup ts=>ts.all Je
 | t=>Je t
def inF(a:T)(ts:ZZ):Option Bool:=if ndl a=true then G1 a ts else none
noncomputable def Zwb:T->Str->Option Bool
 | .str x,y=>some (!(Builtin.Str.occurrences y x 0 y.length 1).isEmpty)
 | _,_=>none
noncomputable def r9(a:T):T->Option Bool
 | .lst ts=>inF a ts
 | .tup ts=>inF a ts
 | .dct XM=>(keyT a).map λk=>(Zb XM k).isSome
 | .str y=>Zwb a y
 | _=>none
noncomputable def isT:T->T->Option Bool
 | .non,.non=>some true
 | _,.non=>some false
 | _,_=>none
noncomputable def eqC:T->T->Option Bool
 | .tup ts,.tup []=>some ts.isEmpty
 | a,b=>eqT a b
noncomputable def eqL:T->T->Option Bool
 | .lst ts,.lst []=>some ts.isEmpty
 | a,b=>eqC a b
noncomputable def B9:Cm->T->T->Option Bool
 | .eq,a,b=>eqL a b
 | .ne,a,b=>(eqL a b).map not
 | .lt,a,b=>ltT a b
 | .gt,a,b=>ltT b a
 | .le,a,b=>(ltT b a).map not
 | .ge,a,b=>geT a b
 | .isin,a,b=>r9 a b
 | .notin,a,b=>(r9 a b).map not
 | .is,a,b=>isT a b
 | .isnt,a,b=>(isT a b).map not
noncomputable def Zqr(f:Int->Int->Option Sl)(t t':T):Option Sl:=match t with
 | .int a=>(match t' with
  | .int b=>f a b
  | _=>none)
 | _=>none
noncomputable def addT(t t':T):Option Sl:=match t with
 | .int a=>(match t' with
  | .int b=>some (.f (.int (a+b)))
  | _=>none)
 | .str a=>(match t' with
  | .str b=>if a.length+b.length<=sizeLine then some (.f (.str (a++b))) else none
  | _=>none)
 | .lst a=>(match t' with
  | .lst b=>if a.length+b.length<=sizeLine then some (.o (.lst (a++b))) else none
  | _=>none)
 | .tup a=>(match t' with
  | .tup b=>if a.length+b.length<=sizeLine then some (.f (.tup (a++b))) else none
  | _=>none)
 | .bl a=>(match t' with
  | .int b=>some (.f (.int ((if a=true then 1 else 0)+b)))
  | _=>none)
 | _=>none
noncomputable def mulT(t t':T):Option Sl:=match t with
 | .int a=>(match t' with
  | .int b=>if (-(2 ^ 64)<a/\a<2 ^ 64)\/(-(2 ^ 64)<b/\b<2 ^ 64) then some (.f (.int (a*b))) else none
  | _=>none)
 | .str a=>(match t' with
  | .int n=>if 0<=n/\n<=1000/\a.length<=1000 then some (.f (.str (repS a n.toNat))) else none
  | _=>none)
 | _=>none
noncomputable def opT(o:Op)(t t':T):Option Sl:=match o with
 | .add=>addT t t'
 | .sub=>none
 | .mul=>mulT t t'
 | .fdiv=>Zqr (λa b=>if 0<b/\b<1073741824 then some (.f (.int (a / b))) else none) t t'
 | .mod=>Zqr (λa b=>if 0<b then some (.f (.int (a % b))) else none) t t'
 | .pow=>Zqr (λa b=>if 0<=b/\b<=1000000/\a.natAbs<2 ^ 64 then some (.f (.int (a ^ b.toNat))) else none) t t'
noncomputable def K2:T->T->Option T
 | .tup ts,.int i=>Tq ts i
 | .lst ts,.int i=>Tq ts i
 | .str z,.int i=>if z.length<=sizeLine then (Tq z.cps.toList i).map λc=>.str ⟨#[c]⟩ else none
 | .dct XM,k=>(keyT k).bind (Zb XM)
 | _,_=>none
noncomputable def slT:T->ZR->ZR->Option Sl
 | .tup ts,lo,hi=>some (.f (.tup (G6 ts lo hi)))
 | .lst ts,lo,hi=>some (.o (.lst (G6 ts lo hi)))
 | .str z,lo,hi=>if z.length<=sizeLine then some (.f (.str (Txt.slice z lo hi))) else none
 | _,_,_=>none
noncomputable def Zqj:T->ZH
 | .tup ts=>some ts.length
 | .lst ts=>some ts.length
 | .dct ts=>some ts.length
 | .str z=>if z.length<=sizeLine then some z.length else none
 | _=>none
noncomputable def isiT:Kd->T->Option Bool
 | .int,.int _=>some true
 | .int,.bl _=>some true
 | .bool,.bl _=>some true
 | .str,.str _=>some true
 | .tuple,.tup _=>some true
 | .list,.lst _=>some true
 | .dict,.dct _=>some true
 | _,.fn _=>none
 | _,_=>some false
def intT:T->ZR
 | .int i=>some i
 | _=>none
def ctn:T->Bool
 | .lst _=>true
 | .dct _=>true
 | _=>false
noncomputable def Mo:ZZ->Option (ZX)
 | []=>some []
 | .tup [a,b]::r=>(keyT a).bind λk=>(Mo r).map ((k,b)::·)
 | _::_=>none
noncomputable def Qf(ts:ZZ):Option (ZZ) :=
 if ts.length<64 then match Ja ts with
  | some zs=>some ((SRT.Hn zs).map .int)
  | none=>(Nf ts).map λss=>(SRT.Us ss).map .str
 else none
noncomputable def B2:ZZ->Option (ZL)
 | []=>some []
 | .tup (.int i::_)::r=>(B2 r).map (i::·)
 | _::_=>none
noncomputable def jz(ts:ZZ):Option (ZZ):=match B2 ts with
 | some hs=>if hs.Nodup/\ts.length<64 then some ((SRT.Rk (hs.zip ts)).map (·.2)) else none
 | none=>Qf ts
noncomputable def scal:T->Bool
 | .tup _=>false
 | .lst _=>false
 | .dct _=>false
 | _=>true
noncomputable def maxL:ZL->ZR
 | []=>none
 | z::r=>some (r.foldl (λa b=>if a<b then b else a) z)
noncomputable def minL:ZL->ZR
 | []=>none
 | z::r=>some (r.foldl (λa b=>if b<a then b else a) z)
theorem Zx9{zs:ZL}{m:Int}(h:maxL zs=some m):m∈zs/\∀a∈zs,a<=m:=by
 cases zs with
 | nil=>cases h
 | cons z r =>
  cases h
  induction r generalizing z with
  | nil=>exact⟨V4,λa m=>by rw[F8.mp m];exact Int.le_refl _⟩
  | cons y r ih =>
   obtain⟨h1,h2⟩:=ih (if z<y then y else z);have e:(if z<y then y else z)=z\/(if z<y then y else z)=y:=by split<;>simp
   have g:=h2 _ V4;refine⟨?_,λa m=>?_⟩
   .rw[List.foldl_cons];rcases Y8.mp h1 with h | h
    .rw[h];rcases e with e | e<;>rw[e]<;>simp
    .exact Uz _ (Uz _ h)
   .rw[List.foldl_cons];rcases Y8.mp m with rfl | m
    .split at g<;>(split<;>omega)
    .rcases Y8.mp m with rfl | m
     .split at g<;>(split<;>omega)
     .exact h2 a (Uz _ m)
theorem Qe{zs:ZL}{m:Int}(h:minL zs=some m):m∈zs/\∀a∈zs,m<=a:=by
 cases zs with
 | nil=>cases h
 | cons z r =>
  cases h
  induction r generalizing z with
  | nil=>exact⟨V4,λa m=>by rw[F8.mp m];exact Int.le_refl _⟩
  | cons y r ih =>
   obtain⟨h1,h2⟩:=ih (if y<z then y else z);have e:(if y<z then y else z)=z\/(if y<z then y else z)=y:=by split<;>simp
   have g:=h2 _ V4;refine⟨?_,λa m=>?_⟩
   .rw[List.foldl_cons];rcases Y8.mp h1 with h | h
    .rw[h];rcases e with e | e<;>rw[e]<;>simp
    .exact Uz _ (Uz _ h)
   .rw[List.foldl_cons];rcases Y8.mp m with rfl | m
    .split at g<;>(split<;>omega)
    .rcases Y8.mp m with rfl | m
     .split at g<;>(split<;>omega)
     .exact h2 a (Uz _ m)
def Zx8(ts:ZZ):Option Sl:=(Ja ts).bind λzs=>(minL zs).map λm=>.f (.int m)
noncomputable def thr:T->Option (T×T×T)
 | .tup [a,b,c]=>some (a,b,c)
 | _=>none
theorem thr_is{t:T}{q:T×T×T}(h:thr t=some q):t=.tup [q.1,q.2.1,q.2.2]:=by
 unfold thr at h
 split at h
 .cases h;rfl
 .cases h
def pOp(o:Op):ZZ->Option Sl
 | [a,b]=>opT o a b
 | _=>none
noncomputable def pCm(c:Cm):ZZ->Option Sl
 | [a,b]=>(B9 c a b).map λr=>.f (.bl r)
 | _=>none
noncomputable def pC2(c:Cm)(d:Cm):ZZ->Option Sl
 | [a,b,e]=>(B9 c a b).bind λr=>if r=true then (B9 d b e).map λr=>.f (.bl r) else some (.f (.bl false))
 | _=>none
noncomputable def pNeg:ZZ->Option Sl
 | [.int i]=>some (.f (.int (-i)))
 | _=>none
noncomputable def pIx:ZZ->Option Sl
 | [a,b]=>(K2 a b).map .f
 | _=>none
noncomputable def pSl10:ZZ->Option Sl
 | [a,l]=>(intT l).bind λi=>slT a (some i) none
 | _=>none
def pSl01:ZZ->Option Sl
 | [a,h]=>(intT h).bind λj=>slT a none (some j)
 | _=>none
noncomputable def pLen:ZZ->Option Sl
 | [a]=>(Zqj a).map λn=>.f (.int n)
 | _=>none
noncomputable def pAll:ZZ->Option Sl
 | [.lst ts]=>(allB ts).map λbs=>.f (.bl (bs.all id))
 | _=>none
noncomputable def Zwv:ZZ->Option Sl
 | [.tup ts]=>some (.o (.lst ts))
 | _=>none
noncomputable def zw:ZZ->Option Sl
 | [.lst ts]=>(jz ts).map λus=>.o (.lst us)
 | [.dct XM]=>(Qf (XM.map λp=>Bc p.1)).map λus=>.o (.lst us)
 | _=>none
noncomputable def nr:ZZ->Option Sl
 | [.lst ts]=>some (.f (.tup ts))
 | _=>none
noncomputable def pMin:ZZ->Option Sl
 | [.int a,.int b]=>some (.f (.int (if b<a then b else a)))
 | [.int a,.bl b]=>some (.f (if decide ((if b=true then 1 else 0)<a)=true then .bl b else .int a))
 | [.lst ts]=>Zx8 ts
 | _=>none
noncomputable def pMax:ZZ->Option Sl
 | [.int a,.int b]=>some (.f (.int (if b>a then b else a)))
 | [.int a,.bl b]=>some (.f (if decide ((if b=true then 1 else 0)>a)=true then .bl b else .int a))
 | [.lst ts]=>(Ja ts).bind λzs=>(maxL zs).map λm=>.f (.int m)
 | _=>none
noncomputable def pInt:ZZ->Option Sl
 | [.int i]=>some (.f (.int i))
 | [.bl b]=>some (.f (.int (if b then 1 else 0)))
 | [.str z]=>if z.length<=640 then (PySem.intText? z).map λn=>.f (.int n) else none
 | _=>none
noncomputable def pAbs:ZZ->Option Sl
 | [.int i]=>some (.f (.int (if i<0 then -i else i)))
 | _=>none
noncomputable def pIsi(n:Kd):ZZ->Option Sl
 | [a]=>(isiT n a).map λr=>.f (.bl r)
 | _=>none
noncomputable def Zwy:ZZ->Option Sl
 | [.dct XM]=>some (.o (.dct XM))
 | [.lst ts]=>(Mo ts).map λXM=>.o (.dct (XM.foldl (λacc kv=>Y9 acc kv.1 kv.2) []))
 | _=>none
noncomputable def pStr:ZZ->Option Sl
 | [.int i]=>if i.natAbs.log2<1920 then some (.f (.str (toString i))) else none
 | _=>none
noncomputable def pSum:ZZ->Option Sl
 | [.lst ts]=>(Ja ts).map λzs=>.f (.int zs.sum)
 | _=>none
noncomputable def pDnew:ZZ->Option Sl
 | []=>some (.o (.dct []))
 | _=>none
noncomputable def pGet1:ZZ->Option Sl
 | [.dct XM,k]=>(keyT k).map λk=>.f ((Zb XM k).getD .non)
 | _=>none
noncomputable def pGet2:ZZ->Option Sl
 | [.dct XM,k,x]=>if ctn x=true then none else (keyT k).map λk=>.f ((Zb XM k).getD x)
 | _=>none
noncomputable def pJoin(x:Str):ZZ->Option Sl
 | [.lst ts]=>(Nf ts).bind λss=>if (ss.map (·.length)).sum+ss.length*x.length<=16777216 then some (.f (.str (Txt.join x ss))) else none
 | _=>none
noncomputable def pLvals:ZZ->Option Sl
 | [.dct XM]=>some (.o (.lst (XM.map (·.2))))
 | _=>none
def pTup1:ZZ->Option Sl
 | [t]=>if scal t=true then some (.f (.tup [t])) else none
 | _=>none
noncomputable def pSl2:ZZ->Option Sl
 | [t]=>(thr t).map λq=>.f (.tup [q.1,q.2.2])
 | _=>none
noncomputable def Ki:Pr->ZZ->Option Sl
 | .op o=>pOp o
 | .cm c=>pCm c
 | .c2 c d=>pC2 c d
 | .neg=>pNeg
 | .ix=>pIx
 | .sl true false=>pSl10
 | .sl false true=>pSl01
 | .len=>pLen
 | .all=>pAll
 | .list=>Zwv
 | .sorted=>zw
 | .tuple=>nr
 | .min=>pMin
 | .max=>pMax
 | .int=>pInt
 | .abs=>pAbs
 | .isi n=>pIsi n
 | .dict=>Zwy
 | .str=>pStr
 | .sum=>pSum
 | .dnew=>pDnew
 | .get1=>pGet1
 | .get2=>pGet2
 | .join x=>pJoin x
 | .lvals=>pLvals
 | .tup1=>pTup1
 | .sl2=>pSl2
 | _=>λ_=>none
noncomputable def look(p:P)(a:A):Option T :=
 match a with
 | .t t=>some t
 | .s i=>match p[i]? with
  | some (.f t)=>some t
  | some (.o t)=>some t
  | _=>none
noncomputable def looks(p:P):List A->Option (ZZ)
 | []=>some []
 | a::r=>(look p a).bind λt=>(looks p r).map (t::·)
noncomputable def frs:Sl->Sl
 | .o t=>.f t
 | s=>s
noncomputable def frz(p:P):P:=p.map frs
noncomputable def args(p:P):List A->Option (List Sl)
 | []=>some []
 | .t t::r=>(args p r).map (.f t::·)
 | .s i::r=>match p[i]? with
  | some (.o t)=>(args (p.set i .no) r).map (.o t::·)
  | _=>none
def mkO:T->Sl
 | .fn _=>.no
 | t=>.o t
theorem mkO_f{t u:T}:mkO t≠.f u:=by cases t<;>exactλz=>nomatch z
noncomputable def outs(p:P):List A->ZZ->Option P
 | [],[]=>some p
 | .t _::r,ts=>outs p r ts
 | .s i::r,t::ts=>outs (p.set i (mkO t)) r ts
 | _,_=>none
noncomputable def W0:List Sl->ZZ->List Sl
 | .o _::r,t::ts=>mkO t::W0 r ts
 | s::r,ts=>s::W0 r ts
 | [],_=>[]
noncomputable def yw(fr:ZG)(p:P):P:=fr.map λo=>match o with
 | some j=>(p[j]?).getD .no
 | none=>.no
noncomputable def back:ZG->P->P->P
 | some j::fr,s::q,p=>back fr q (p.set j s)
 | none::fr,_::q,p=>back fr q p
 | _,_,p=>p
mutual
noncomputable def asg:E->T->P->Option P
 | .v i,t,p=>some (p.set i (.f t))
 | .tup es,.tup ts,p=>Im es ts p
 | _,_,_=>none
noncomputable def Im:E->ZZ->P->Option P
 | .nil,[],p=>some p
 | .cons a r,t::ts,p=>(asg a t p).bind λq=>Im r ts q
 | _,_,_=>none
end
def thaw:Sl->Option T
 | .f t=>some t
 | .o t=>some t
 | .no=>none
noncomputable def Nk:T->Option (ZZ)
 | .tup ts=>some ts
 | .lst ts=>some ts
 | .dct XM=>some (XM.map λp=>Bc p.1)
 | .str z=>if z.length<=sizeLine then some (z.cps.toList.map λc=>.str ⟨#[c]⟩) else none
 | _=>none
noncomputable def Mr(body:T->P->Option (Option T×P)):ZZ->ZZ->P->Option (ZZ×P)
 | [],acc,p=>some (acc,p)
 | x::r,acc,p=>(body x p).bind λq=>match q.1 with
  | some y=>Mr body r (acc++[y]) q.2
  | none=>Mr body r acc q.2
noncomputable def mtT:Mt->T->ZZ->Option (T×T)
 | .append,.lst ts,[x]=>if ts.length<sizeLine then some (.lst (ts++[x]),.non) else none
 | .extend,.lst ts,[.lst us]=>if ts.length+us.length<=sizeLine then some (.lst (ts++us),.non) else none
 | .pop,.lst ts,[]=>(ts.getLast?).map λx=>(.lst ts.dropLast,x)
 | .popAt,.lst ts,[.int i]=>(Q6 ts.length i).bind λj=>(ts[j]?).map λx=>(.lst (ts.eraseIdx j),x)
 | _,_,_=>none
noncomputable def l7(p:P)(i:Nat):Option Bool:=match p[i]? with
 | some (.o (.lst ts))=>some (!ts.isEmpty)
 | _=>none
noncomputable def Zj4:List (Str×Str):=[("whole","whole"),("truth","whole"),("text","text"),("row","row"),("map","map"),("record","rec"),("choice","arm")]
noncomputable def Ye(s:Str):Option Str:=(Zj4.find? λp=>decide (p.1=s)).map (·.2)
noncomputable def Wx:List Sl->Option (Sl×ZZ)
 | [.f (.tup (.str s::_))]=>(Ye s).map λz=>(.f (.str z),[])
 | _=>none
noncomputable def Fm:List Sl->Option (Sl×ZZ)
 | [.f (.tup (.str s::r))]=>some (.f (.tup (if s="truth" then [.int 0,.int 1] else if s="whole" then r else [])),[])
 | _=>none
noncomputable def fx(f:Str):Option (List Sl->Option (Sl×ZZ)):=if f="item_sort" then some Wx else if f="_law_bounds" then some Fm else none
abbrev Cs:=Str->List Sl->Option (Sl×ZZ)
structure W where
 C:Cs
 gl:Str->Option T
noncomputable def read(p:P)(i:Nat):Option (T×P):=match p[i]? with
 | some (.f t)=>some (t,p)
 | some (.o t)=>some (t,p.set i (.f t))
 | _=>none
noncomputable def done(p:P)(i:Nat):Bool:=match p[i]? with
 | some (.f _)=>true
 | some (.o _)=>true
 | _=>false
noncomputable def j4(p:P)(i:Nat):Bool:=match p[i]? with
 | some (.o (.lst _))=>true
 | _=>false
noncomputable def rngT:T->Option (ZZ)
 | .int n=>if -1000000<=n/\n<=1000000 then some ((List.range n.toNat).map λk=>.int (k:Nat)) else none
 | _=>none
noncomputable def W9(a b:ZZ):ZZ:=(a.zip b).map λp=>.tup [p.1,p.2]
noncomputable def itT:Ik->ZZ->Option (ZZ)
 | .rng,[t]=>rngT t
 | .zip,[.lst a,.lst b]=>some (W9 a b)
 | .zip,[.tup a,.tup b]=>some (W9 a b)
 | _,_=>none
section
variable(w:W)
def isNil:E->Bool
 | .nil=>true
 | _=>false
noncomputable def G2(o:Option (Sl×P)):Option (Bool×P):=o.bind λq=>match q.1 with
 | .f (.bl b)=>some (b,q.2)
 | _=>none
noncomputable def toT(o:Option (Sl×P)):Option (T×P):=o.bind λq=>(thaw q.1).map λt=>(t,q.2)
noncomputable def toF(o:Option (Sl×P)):Option (T×P):=o.bind λq=>match q.1 with
 | .f t=>some (t,q.2)
 | _=>none
noncomputable def au(o:Option (Sl×P)):Option (ZZ×P):=(toT o).bind λq=>(Nk q.1).map λts=>(ts,q.2)
noncomputable def S9(m:Bool)(a:E)(p:P)(x:Option (T×P)):Option (A×P):=match a with
 | .io i=>if done p i=true then some (.s i,p) else none
 | .v i=>if m=true then (if done p i=true then some (.s i,p) else none) else (read p i).map λq=>(.t q.1,q.2)
 | _=>x.map λq=>(.t q.1,q.2)
mutual
noncomputable def ev:E->P->Option (Sl×P)
 | .v i,p=>(read p i).map λq=>(.f q.1,q.2)
 | .mv i,p=>match p[i]? with
  | some (.o t)=>some (.o t,p.set i .no)
  | some (.f t)=>some (.f t,p)
  | _=>none
 | .k t,p=>some (.f t,p)
 | .g x,p=>(w.gl x).map λt=>(.f t,p)
 | .tup es,p=>(Gb false es p).bind λq=>(looks q.2 q.1).bind λts=>if ts.length<=sizeLine then some (.f (.tup ts),q.2) else none
 | .lst es,p=>(Gb false es p).bind λq=>(looks q.2 q.1).bind λts=>if ts.length<=sizeLine then some (.o (.lst ts),q.2) else none
 | .pr r es,p=>(Gb true es p).bind λq=>(looks q.2 q.1).bind λts=>(Ki r ts).map λs=>(s,q.2)
 | .and a b,p=>(G2 (ev a p)).bind λq=>if q.1=true then ev b q.2 else some (.f (.bl false),q.2)
 | .or a b,p=>(G2 (ev a p)).bind λq=>if q.1=true then some (.f (.bl true),q.2) else ev b q.2
 | .not a,p=>(G2 (ev a p)).map λq=>(.f (.bl (!q.1)),q.2)
 | .ite c a b,p=>(G2 (ev c p)).bind λq=>if q.1=true then ev a q.2 else ev b q.2
 | .call f es,p=>(Gb false es p).bind λq=>(args q.2 q.1).bind λas=>(w.C f as).bind λr=>(outs q.2 q.1 r.2).map λp'=>(r.1,p')
 | .cal i es,p=>match p[i]? with
  | some (.f (.fn f))=>(Gb false es p).bind λq=>(args q.2 q.1).bind λas=>(w.C f as).bind λr=>(outs q.2 q.1 r.2).map λp'=>(r.1,p')
  | _=>none
 | .mt m i es,p=>if j4 p i=true then (Gb false es p).bind λq=>(looks q.2 q.1).bind λts=>match q.2[i]? with
   | some (.o t)=>(mtT m t ts).map λr=>(.f r.2,q.2.set i (.o r.1))
   | _=>none
  else none
 | .comp tg it c el fr _,p=>(au (ev it p)).bind λq=>(Mr (λx s=>(asg tg x s).bind λs1=>(if isNil c=true then some (true,s1) else G2 (ev c s1)).bind λb=>if b.1=true then (toT (ev el b.2)).map λr=>(some r.1,r.2) else some (none,b.2)) q.1 [] (yw fr q.2)).map λr=>(.o (.lst r.1),back fr r.2 q.2)
 | .itr k es,p=>(Gb false es p).bind λq=>(looks q.2 q.1).bind λts=>(itT k ts).map λxs=>(.f (.lst xs),q.2)
 | .tmp a,p=>(toF (ev a (frz p))).bind λq=>if scal q.1=true then some (.f q.1,p) else none
 | .io i,p=>(l7 p i).map λb=>(.f (.bl b),p)
 | _,_=>none
noncomputable def Gb:Bool->E->P->Option (List A×P)
 | _,.nil,p=>some ([],p)
 | m,.cons a r,p=>(S9 m a p (toT (ev a p))).bind λq=>(Gb m r q.2).map λs=>(q.1::s.1,s.2)
 | _,_,_=>none
end
end
theorem ev_vQ{w:W}{p:P}:∀i,ev w (.v i) p=((read p i).map λq=>(.f q.1,q.2)):=λ_=>rfl
theorem ev_mvQ{w:W}{p:P}:∀i,ev w (.mv i) p=(match p[i]? with
  | some (.o t)=>some (.o t,p.set i .no)
  | some (.f t)=>some (.f t,p)
  | _=>none):=λ_=>rfl
theorem ev_gQ{w:W}{p:P}:∀x,ev w (.g x) p=((w.gl x).map λt=>(.f t,p)):=λ_=>rfl
theorem Zq5{w:W}{p:P}:∀es,ev w (.tup es) p=((Gb w false es p).bind λq=>(looks q.2 q.1).bind λts=>if ts.length<=sizeLine then some (.f (.tup ts),q.2) else none):=λ_=>rfl
theorem Zq7{w:W}{p:P}:∀es,ev w (.lst es) p=((Gb w false es p).bind λq=>(looks q.2 q.1).bind λts=>if ts.length<=sizeLine then some (.o (.lst ts),q.2) else none):=λ_=>rfl
theorem ev_prQ{w:W}{p:P}:∀r es,ev w (.pr r es) p=((Gb w true es p).bind λq=>(looks q.2 q.1).bind λts=>(Ki r ts).map λs=>(s,q.2)):=λ_ _=>rfl
theorem xn{w:W}{p:P}:∀a b,ev w (.and a b) p=((G2 (ev w a p)).bind λq=>if q.1=true then ev w b q.2 else some (.f (.bl false),q.2)):=λ_ _=>rfl
theorem pf{w:W}{p:P}:∀a b,ev w (.or a b) p=((G2 (ev w a p)).bind λq=>if q.1=true then some (.f (.bl true),q.2) else ev w b q.2):=λ_ _=>rfl
theorem xt{w:W}{p:P}:∀a,ev w (.not a) p=((G2 (ev w a p)).map λq=>(.f (.bl (!q.1)),q.2)):=λ_=>rfl
theorem Zq9{w:W}{p:P}:∀c a b,ev w (.ite c a b) p=((G2 (ev w c p)).bind λq=>if q.1=true then ev w a q.2 else ev w b q.2):=λ_ _ _=>rfl
theorem pd{w:W}{p:P}:∀f es,ev w (.call f es) p=((Gb w false es p).bind λq=>(args q.2 q.1).bind λas=>(w.C f as).bind λr=>(outs q.2 q.1 r.2).map λp'=>(r.1,p')):=λ_ _=>rfl
theorem Zjz{w:W}{p:P}:∀i es,ev w (.cal i es) p=(match p[i]? with
  | some (.f (.fn f))=>(Gb w false es p).bind λq=>(args q.2 q.1).bind λas=>(w.C f as).bind λr=>(outs q.2 q.1 r.2).map λp'=>(r.1,p')
  | _=>none):=λ_ _=>rfl
theorem ev_mtQ{w:W}{p:P}:∀m i es,ev w (.mt m i es) p=(if j4 p i=true then (Gb w false es p).bind λq=>(looks q.2 q.1).bind λts=>match q.2[i]? with
   | some (.o t)=>(mtT m t ts).map λr=>(.f r.2,q.2.set i (.o r.1))
   | _=>none
  else none):=λ_ _ _=>rfl
theorem pb{w:W}{p:P}:∀tg it c el fr zz,ev w (.comp tg it c el fr zz) p=((au (ev w it p)).bind λq=>(Mr (λx s=>(asg tg x s).bind λs1=>(if isNil c=true then some (true,s1) else G2 (ev w c s1)).bind λb=>if b.1=true then (toT (ev w el b.2)).map λr=>(some r.1,r.2) else some (none,b.2)) q.1 [] (yw fr q.2)).map λr=>(.o (.lst r.1),back fr r.2 q.2)):=λ_ _ _ _ _ _=>rfl
theorem Zq8{w:W}{p:P}:∀k es,ev w (.itr k es) p=((Gb w false es p).bind λq=>(looks q.2 q.1).bind λts=>(itT k ts).map λxs=>(.f (.lst xs),q.2)):=λ_ _=>rfl
theorem Zq6{w:W}{p:P}:∀a,ev w (.tmp a) p=((toF (ev w a (frz p))).bind λq=>if scal q.1=true then some (.f q.1,p) else none):=λ_=>rfl
noncomputable def To(body:T->P->Option (Fl×P)):ZZ->P->Option (Fl×P)
 | [],p=>some (.nx,p)
 | x::r,p=>(body x p).bind λq=>match q.1 with
  | .nx=>To body r q.2
  | .ct=>To body r q.2
  | .bk=>some (.nx,q.2)
  | .rt t=>some (.rt t,q.2)
noncomputable def Ta(test:P->Option (Bool×P))(body:P->Option (Fl×P)):Nat->P->Option (Fl×P)
 | 0,_=>none
 | n+1,p=>(test p).bind λb=>if b.1=true then (body b.2).bind λq=>match q.1 with
   | .nx=>Ta test body n q.2
   | .ct=>Ta test body n q.2
   | .bk=>some (.nx,q.2)
   | .rt t=>some (.rt t,q.2)
  else some (.nx,b.2)
noncomputable def Ur(pt:Nat->Bool):E->Bool
 | .v i=>!pt i
 | .tup es=>Ur pt es
 | .nil=>true
 | .cons a r=>Ur pt a&&Ur pt r
 | _=>false
noncomputable def putAt:T->T->T->Option T
 | .lst ts,.int i,t=>(Q6 ts.length i).map λj=>.lst (ts.set j t)
 | .dct XM,k,t=>(keyT k).bind λk=>if XM.length<sizeLine then some (.dct (Y9 XM k t)) else none
 | _,_,_=>none
section
variable(w:W)(pt:Nat->Bool)
noncomputable def ex:S->P->Option (Fl×P)
 | .nil,p=>some (.nx,p)
 | .seq a r,p=>(ex a p).bind λq=>match q.1 with
  | .nx=>ex r q.2
  | .rt t=>some (.rt t,q.2)
  | .bk=>some (.bk,q.2)
  | .ct=>some (.ct,q.2)
 | .ret a,p=>(ev w a p).map λq=>(.rt q.1,q.2)
 | .ex a,p=>(ev w a p).map λq=>(.nx,q.2)
 | .set i a,p=>if pt i=true then none else (ev w a p).map λq=>(.nx,q.2.set i q.1)
 | .unp tg a,p=>if Ur pt tg=true then (toT (ev w a p)).bind λq=>(asg tg q.1 q.2).map λp'=>(.nx,p') else none
 | .put i k a,p=>(toT (ev w a p)).bind λq=>if done q.2 i=true then (toT (ev w k q.2)).bind λr=>match r.2[i]? with
   | some (.o t)=>(putAt t r.1 q.1).map λt'=>(.nx,r.2.set i (.o t'))
   | _=>none
  else none
 | .ite c a b,p=>(G2 (ev w c p)).bind λq=>if q.1=true then ex a q.2 else ex b q.2
 | .loop tg it b,p=>if Ur pt tg=true then (au (ev w it p)).bind λq=>To (λx s=>(asg tg x s).bind λs1=>ex b s1) q.1 q.2 else none
 | .wh c b,p=>Ta (λs=>G2 (ev w c s)) (λs=>ex b s) 1000000 p
 | .pass,p=>some (.nx,p)
 | .brk,p=>some (.bk,p)
 | .cont,p=>some (.ct,p)
end
theorem Zq1{w:W}{pt:Nat->Bool}{p:P}:∀a r,ex w pt (.seq a r) p=((ex w pt a p).bind λq=>match q.1 with
  | .nx=>ex w pt r q.2
  | .rt t=>some (.rt t,q.2)
  | .bk=>some (.bk,q.2)
  | .ct=>some (.ct,q.2)):=λ_ _=>rfl
theorem Zq2{w:W}{pt:Nat->Bool}{p:P}:∀a,ex w pt (.ret a) p=((ev w a p).map λq=>(.rt q.1,q.2)):=λ_=>rfl
theorem ex_exQ{w:W}{pt:Nat->Bool}{p:P}:∀a,ex w pt (.ex a) p=((ev w a p).map λq=>(.nx,q.2)):=λ_=>rfl
theorem Zq0{w:W}{pt:Nat->Bool}{p:P}:∀i a,ex w pt (.set i a) p=(if pt i=true then none else (ev w a p).map λq=>(.nx,q.2.set i q.1)):=λ_ _=>rfl
theorem Zqe{w:W}{pt:Nat->Bool}{p:P}:∀tg a,ex w pt (.unp tg a) p=(if Ur pt tg=true then (toT (ev w a p)).bind λq=>(asg tg q.1 q.2).map λp'=>(.nx,p') else none):=λ_ _=>rfl
theorem Zq3{w:W}{pt:Nat->Bool}{p:P}:∀i k a,ex w pt (.put i k a) p=((toT (ev w a p)).bind λq=>if done q.2 i=true then (toT (ev w k q.2)).bind λr=>match r.2[i]? with
   | some (.o t)=>(putAt t r.1 q.1).map λt'=>(.nx,r.2.set i (.o t'))
   | _=>none
  else none):=λ_ _ _=>rfl
theorem Zq4{w:W}{pt:Nat->Bool}{p:P}:∀c a b,ex w pt (.ite c a b) p=((G2 (ev w c p)).bind λq=>if q.1=true then ex w pt a q.2 else ex w pt b q.2):=λ_ _ _=>rfl
theorem pk{w:W}{pt:Nat->Bool}{p:P}:∀tg it b,ex w pt (.loop tg it b) p=(if Ur pt tg=true then (au (ev w it p)).bind λq=>To (λx s=>(asg tg x s).bind λs1=>ex w pt b s1) q.1 q.2 else none):=λ_ _ _=>rfl
theorem ex_whQ{w:W}{pt:Nat->Bool}{p:P}:∀c b,ex w pt (.wh c b) p=(Ta (λs=>G2 (ev w c s)) (λs=>ex w pt b s) 1000000 p):=λ_ _=>rfl
def on{Z:Type}(o:Option Z)(Q:Z->Prop):Prop:=match o with
 | some a=>Q a
 | none=>False
theorem Z8{Z:Type}{o:Option Z}{a:Z}{Q:Z->Prop}(e:o=some a)(h:Q a):on o Q:=by rw[e];exact h
theorem Yh{Z:Type}{o:Option Z}{Q:Z->Prop}(h:on o Q):∃a,o=some a/\Q a:=by
 cases o with
 | none=>exact h.elim
 | some a=>exact⟨a,rfl,h⟩
noncomputable def j7(r:Sl)(Q:Bool->Prop):Prop:=match r with
 | .f (.bl b)=>Q b
 | _=>False
def Ov(r:Sl)(Q:T->Prop):Prop:=match r with
 | .f t=>Q t
 | .o t=>Q t
 | .no=>False
def onF(r:Sl)(Q:T->Prop):Prop:=match r with
 | .f t=>Q t
 | _=>False
theorem onF_ex{r:Sl}{p:P}{Q:T->Prop}{o:Option (Sl×P)}(e:o=some (r,p))(h:onF r Q):∃t,toF o=some (t,p)/\Q t:=by
 subst e;cases r with
 | f t=>exact⟨t,rfl,h⟩
 | _=>exact h.elim
theorem Me{r:Sl}{p:P}{Q:Bool->Prop}{o:Option (Sl×P)}(e:o=some (r,p))(h:j7 r Q):∃b,G2 o=some (b,p)/\Q b:=by
 subst e;unfold j7 at h
 split at h
 .exact⟨_,rfl,h⟩
 .exact h.elim
theorem Mi{r:Sl}{p:P}{Q:T->Prop}{o:Option (Sl×P)}(e:o=some (r,p))(h:Ov r Q):∃t,toT o=some (t,p)/\Q t:=by
 subst e;cases r with
 | no=>exact h.elim
 | f t=>exact⟨t,rfl,h⟩
 | o t=>exact⟨t,rfl,h⟩
theorem lz{r:Sl}{p:P}{Q:ZZ->Prop}{o:Option (Sl×P)}(e:o=some (r,p))(h:Ov r λt=>on (Nk t) Q):∃ts,au o=some (ts,p)/\Q ts:=by
 obtain⟨t,e1,h1⟩:=Mi e h;obtain⟨ts,e2,h2⟩:=Yh h1;exact⟨ts,by unfold au;rw[e1];show (Nk t).map _=_;rw[e2];rfl,h2⟩
def Ga(body:T->P->(Option T->P->Prop)->Prop):ZZ->ZZ->P->(ZZ->P->Prop)->Prop
 | [],acc,p,Q=>Q acc p
 | x::r,acc,p,Q=>body x p λo p'=>match o with
  | some y=>Ga body r (acc++[y]) p' Q
  | none=>Ga body r acc p' Q
section
variable(w:W)
mutual
noncomputable def wE:E->P->(Sl->P->Prop)->Prop
 | .v i,p,Q=>on (read p i) λq=>Q (.f q.1) q.2
 | .mv i,p,Q=>match p[i]? with
  | some (.o t)=>Q (.o t) (p.set i .no)
  | some (.f t)=>Q (.f t) p
  | _=>False
 | .k t,p,Q=>Q (.f t) p
 | .g x,p,Q=>on (w.gl x) λt=>Q (.f t) p
 | .tup es,p,Q=>wR false es p λas p1=>on (looks p1 as) λts=>if ts.length<=sizeLine then Q (.f (.tup ts)) p1 else False
 | .lst es,p,Q=>wR false es p λas p1=>on (looks p1 as) λts=>if ts.length<=sizeLine then Q (.o (.lst ts)) p1 else False
 | .pr r es,p,Q=>wR true es p λas p1=>on (looks p1 as) λts=>on (Ki r ts) λs=>Q s p1
 | .and a b,p,Q=>wE a p λr p1=>j7 r λc=>if c=true then wE b p1 Q else Q (.f (.bl false)) p1
 | .or a b,p,Q=>wE a p λr p1=>j7 r λc=>if c=true then Q (.f (.bl true)) p1 else wE b p1 Q
 | .not a,p,Q=>wE a p λr p1=>j7 r λc=>Q (.f (.bl (!c))) p1
 | .ite c a b,p,Q=>wE c p λr p1=>j7 r λc=>if c=true then wE a p1 Q else wE b p1 Q
 | .call f es,p,Q=>wR false es p λas p1=>on (args p1 as) λsl=>on (w.C f sl) λr=>on (outs p1 as r.2) λp2=>Q r.1 p2
 | .cal i es,p,Q=>match p[i]? with
  | some (.f (.fn f))=>wR false es p λas p1=>on (args p1 as) λsl=>on (w.C f sl) λr=>on (outs p1 as r.2) λp2=>Q r.1 p2
  | _=>False
 | .mt m i es,p,Q=>if j4 p i=true then wR false es p λas p1=>on (looks p1 as) λts=>match p1[i]? with
   | some (.o t)=>on (mtT m t ts) λr=>Q (.f r.2) (p1.set i (.o r.1))
   | _=>False
  else False
 | .comp tg it c el fr _,p,Q=>wE it p λr p1=>Ov r λt=>on (Nk t) λxs=>Ga (λx s K=>on (asg tg x s) λs1=>if isNil c=true then wE el s1 λr s2=>Ov r λy=>K (some y) s2
   else wE c s1 λr s2=>j7 r λb=>if b=true then wE el s2 λr s3=>Ov r λy=>K (some y) s3 else K none s2) xs [] (yw fr p1) λys s=>Q (.o (.lst ys)) (back fr s p1)
 | .itr k es,p,Q=>wR false es p λas p1=>on (looks p1 as) λts=>on (itT k ts) λxs=>Q (.f (.lst xs)) p1
 | .tmp a,p,Q=>wE a (frz p) λr _=>onF r λt=>if scal t=true then Q (.f t) p else False
 | .io i,p,Q=>on (l7 p i) λb=>Q (.f (.bl b)) p
 | _,_,_=>False
noncomputable def wR:Bool->E->P->(List A->P->Prop)->Prop
 | _,.nil,p,Q=>Q [] p
 | m,.cons a r,p,Q=>match a with
  | .io i=>if done p i=true then wR m r p λas p1=>Q (.s i::as) p1 else False
  | .v i=>if m=true then (if done p i=true then wR m r p λas p1=>Q (.s i::as) p1 else False) else on (read p i) λq=>wR m r q.2 λas p1=>Q (.t q.1::as) p1
  | _=>wE a p λs p1=>Ov s λt=>wR m r p1 λas p2=>Q (.t t::as) p2
 | _,_,_,_=>False
end
theorem wE_mvQ{w:W}{p:P}{Q:Sl->P->Prop}:∀i,wE w (.mv i) p Q=(match p[i]? with
  | some (.o t)=>Q (.o t) (p.set i .no)
  | some (.f t)=>Q (.f t) p
  | _=>False):=λ_=>rfl
theorem oi{w:W}{p:P}{Q:Sl->P->Prop}:∀i es,wE w (.cal i es) p Q=(match p[i]? with
  | some (.f (.fn f))=>wR w false es p λas p1=>on (args p1 as) λsl=>on (w.C f sl) λr=>on (outs p1 as r.2) λp2=>Q r.1 p2
  | _=>False):=λ_ _=>rfl
theorem wE_mtQ{w:W}{p:P}{Q:Sl->P->Prop}:∀m i es,wE w (.mt m i es) p Q=(if j4 p i=true then wR w false es p λas p1=>on (looks p1 as) λts=>match p1[i]? with
   | some (.o t)=>on (mtT m t ts) λr=>Q (.f r.2) (p1.set i (.o r.1))
   | _=>False
  else False):=λ_ _ _=>rfl
theorem kg{w:W}{p:P}{Q:Sl->P->Prop}:∀tg it c el fr zz,wE w (.comp tg it c el fr zz) p Q=(wE w it p λr p1=>Ov r λt=>on (Nk t) λxs=>Ga (λx s K=>on (asg tg x s) λs1=>if isNil c=true then wE w el s1 λr s2=>Ov r λy=>K (some y) s2
   else wE w c s1 λr s2=>j7 r λb=>if b=true then wE w el s2 λr s3=>Ov r λy=>K (some y) s3 else K none s2) xs [] (yw fr p1) λys s=>Q (.o (.lst ys)) (back fr s p1)):=λ_ _ _ _ _ _=>rfl
theorem y9{w:W}{p:P}{Q:List A->P->Prop}:∀m a r,wR w m (.cons a r) p Q=(match a with
  | .io i=>if done p i=true then wR w m r p λas p1=>Q (.s i::as) p1 else False
  | .v i=>if m=true then (if done p i=true then wR w m r p λas p1=>Q (.s i::as) p1 else False) else on (read p i) λq=>wR w m r q.2 λas p1=>Q (.t q.1::as) p1
  | _=>wE w a p λs p1=>Ov s λt=>wR w m r p1 λas p2=>Q (.t t::as) p2):=λ_ _ _=>rfl
structure En where
 nx:P->Prop
 rt:Sl->P->Prop
 bk:P->Prop:=λ_=>False
 ct:P->Prop:=λ_=>False
def Rj(body:T->P->En->Prop):ZZ->P->En->Prop
 | [],p,D=>D.nx p
 | x::r,p,D=>body x p ⟨λq=>Rj body r q D,D.rt,D.nx,λq=>Rj body r q D⟩
def wWh(test:P->(Bool->P->Prop)->Prop)(body:P->En->Prop):Nat->P->En->Prop
 | 0,_,_=>False
 | n+1,p,D=>test p λb p1=>if b=true then body p1 ⟨λq=>wWh test body n q D,D.rt,D.nx,λq=>wWh test body n q D⟩ else D.nx p1
variable(pt:Nat->Bool)
def wS:S->P->En->Prop
 | .nil,p,D=>D.nx p
 | .seq a r,p,D=>wS a p ⟨λq=>wS r q D,D.rt,D.bk,D.ct⟩
 | .ret a,p,D=>wE w a p D.rt
 | .ex a,p,D=>wE w a p λ_ q=>D.nx q
 | .set i a,p,D=>if pt i=true then False else wE w a p λr q=>D.nx (q.set i r)
 | .unp tg a,p,D=>if Ur pt tg=true then wE w a p λr q=>Ov r λt=>on (asg tg t q) D.nx else False
 | .put i k a,p,D=>wE w a p λr p1=>Ov r λt=>if done p1 i=true then wE w k p1 λr p2=>Ov r λk=>match p2[i]? with
   | some (.o x)=>on (putAt x k t) λx'=>D.nx (p2.set i (.o x'))
   | _=>False
  else False
 | .ite c a b,p,D=>wE w c p λr q=>j7 r λb'=>if b'=true then wS a q D else wS b q D
 | .loop tg it b,p,D=>if Ur pt tg=true then wE w it p λr q=>Ov r λt=>on (Nk t) λxs=>Rj (λx s D=>on (asg tg x s) λs1=>wS b s1 D) xs q D else False
 | .wh c b,p,D=>wWh (λs K=>wE w c s λr q=>j7 r λb=>K b q) (λs D=>wS b s D) 1000000 p D
 | .pass,p,D=>D.nx p
 | .brk,p,D=>D.bk p
 | .cont,p,D=>D.ct p
end
theorem Rw{body:T->P->(Option T->P->Prop)->Prop}{b':T->P->Option (Option T×P)}(hb:∀x p K,body x p K->∃o p',b' x p=some (o,p')/\K o p'):∀(xs acc:ZZ) (p:P) (Q:ZZ->P->Prop),Ga body xs acc p Q->∃ys p',Mr b' xs acc p=some (ys,p')/\Q ys p'
 | [],acc,p,Q,h=>⟨acc,p,rfl,h⟩
 | x::r,acc,p,Q,h=>by
  obtain⟨o,p',e,h'⟩:=hb x p _ h;unfold Mr;rw[e];cases o with
  | some y=>exact Rw hb r _ p' Q h'
  | none=>exact Rw hb r _ p' Q h'
section
variable(w:W)
theorem wER_ev(e:E):(∀(p:P) (Q:Sl->P->Prop),wE w e p Q->∃r p',ev w e p=some (r,p')/\Q r p')/\∀(m:Bool) (p:P) (Q:List A->P->Prop),wR w m e p Q->∃as p',Gb w m e p=some (as,p')/\Q as p':=by
 induction e with
 | v i  =>
  refine⟨λp Q h=>?_,λ_ _ _ h=>False.elim h⟩;obtain⟨q,e,h⟩:=Yh h;exact⟨_,_,by show (read p i).map _=_;rw[e];rfl,h⟩
 | mv i  =>
  refine⟨λp Q h=>?_,λ_ _ _ h=>False.elim h⟩
  replace h:=Eq.mp (wE_mvQ _) h
  split at h
  .rename_i t e
   exact⟨_,_,by show (match p[i]? with | some (.o t)=>some (Sl.o t,p.set i .no) | some (.f t)=>some (Sl.f t,p) | _=>none)=_;rw[e],h⟩
  .rename_i t e
   exact⟨_,_,by show (match p[i]? with | some (.o t)=>some (Sl.o t,p.set i .no) | some (.f t)=>some (Sl.f t,p) | _=>none)=_;rw[e],h⟩
  .exact h.elim
 | io i  =>
  refine⟨λp Q h=>?_,λ_ _ _ h=>False.elim h⟩;obtain⟨b,e,h⟩:=Yh h;exact⟨_,_,by show (l7 p i).map _=_;rw[e];rfl,h⟩
 | k t  =>
  refine⟨λp Q h=>⟨_,_,rfl,h⟩,λ_ _ _ h=>False.elim h⟩
 | g x  =>
  refine⟨λp Q h=>?_,λ_ _ _ h=>False.elim h⟩;obtain⟨q,e,h⟩:=Yh h;exact⟨_,_,by show (w.gl x).map _=_;rw[e];rfl,h⟩
 | tup es vz =>
  refine⟨λp Q h=>?_,λ_ _ _ h=>False.elim h⟩;obtain⟨as,p1,e1,h⟩:=vz.2 false p _ h;obtain⟨ts,e2,h⟩:=Yh h
  split at h
  .rename_i hl
   exact⟨_,_,by show (Gb w false es p).bind _=_;rw[e1];show (looks p1 as).bind _=_;rw[e2];exact if_pos hl,h⟩
  .exact h.elim
 | lst es vz =>
  refine⟨λp Q h=>?_,λ_ _ _ h=>False.elim h⟩;obtain⟨as,p1,e1,h⟩:=vz.2 false p _ h;obtain⟨ts,e2,h⟩:=Yh h
  split at h
  .rename_i hl
   exact⟨_,_,by show (Gb w false es p).bind _=_;rw[e1];show (looks p1 as).bind _=_;rw[e2];exact if_pos hl,h⟩
  .exact h.elim
 | pr r es vz =>
  refine⟨λp Q h=>?_,λ_ _ _ h=>False.elim h⟩;obtain⟨as,p1,e1,h⟩:=vz.2 true p _ h;obtain⟨ts,e2,h⟩:=Yh h;obtain⟨s,e3,h⟩:=Yh h;exact⟨_,_,by show (Gb w true es p).bind _=_;rw[e1];show (looks p1 as).bind _=_;rw[e2];show (Ki r ts).map _=_;rw[e3];rfl,h⟩
 | and a b ha hb =>
  refine⟨λp Q h=>?_,λ_ _ _ h=>False.elim h⟩;obtain⟨r,p1,e1,h⟩:=ha.1 p _ h;obtain⟨c,e2,h⟩:=Me e1 h;cases c with
  | true =>
   obtain⟨r,p2,e3,h⟩:=hb.1 p1 Q h;exact⟨_,_,by show (G2 (ev w a p)).bind _=_;rw[e2];exact e3,h⟩
  | false=>exact⟨_,_,by show (G2 (ev w a p)).bind _=_;rw[e2];rfl,h⟩
 | or a b ha hb =>
  refine⟨λp Q h=>?_,λ_ _ _ h=>False.elim h⟩;obtain⟨r,p1,e1,h⟩:=ha.1 p _ h;obtain⟨c,e2,h⟩:=Me e1 h;cases c with
  | false =>
   obtain⟨r,p2,e3,h⟩:=hb.1 p1 Q h;exact⟨_,_,by show (G2 (ev w a p)).bind _=_;rw[e2];exact e3,h⟩
  | true=>exact⟨_,_,by show (G2 (ev w a p)).bind _=_;rw[e2];rfl,h⟩
 | not a ha =>
  refine⟨λp Q h=>?_,λ_ _ _ h=>False.elim h⟩;obtain⟨r,p1,e1,h⟩:=ha.1 p _ h;obtain⟨c,e2,h⟩:=Me e1 h;exact⟨_,_,by show (G2 (ev w a p)).map _=_;rw[e2];rfl,h⟩
 | ite c a b hc ha hb =>
  refine⟨λp Q h=>?_,λ_ _ _ h=>False.elim h⟩;obtain⟨r,p1,e1,h⟩:=hc.1 p _ h;obtain⟨c',e2,h⟩:=Me e1 h;cases c' with
  | true =>
   obtain⟨r,p2,e3,h⟩:=ha.1 p1 Q h;exact⟨_,_,by show (G2 (ev w c p)).bind _=_;rw[e2];exact e3,h⟩
  | false =>
   obtain⟨r,p2,e3,h⟩:=hb.1 p1 Q h;exact⟨_,_,by show (G2 (ev w c p)).bind _=_;rw[e2];exact e3,h⟩
 | call f es vz =>
  refine⟨λp Q h=>?_,λ_ _ _ h=>False.elim h⟩;obtain⟨as,p1,e1,h⟩:=vz.2 false p _ h;obtain⟨sl,e2,h⟩:=Yh h;obtain⟨r,e3,h⟩:=Yh h;obtain⟨p2,e4,h⟩:=Yh h;exact⟨_,_,by show (Gb w false es p).bind _=_;rw[e1];show (args p1 as).bind _=_;rw[e2];show (w.C f sl).bind _=_;rw[e3];show (outs p1 as r.2).map _=_;rw[e4];rfl,h⟩
 | cal i es vz =>
  refine⟨λp Q h=>?_,λ_ _ _ h=>False.elim h⟩
  replace h:=Eq.mp (oi _ _) h
  split at h
  .rename_i f ef
   obtain⟨as,p1,e1,h⟩:=vz.2 false p _ h;obtain⟨sl,e2,h⟩:=Yh h;obtain⟨r,e3,h⟩:=Yh h;obtain⟨p2,e4,h⟩:=Yh h;exact⟨_,_,by show (match p[i]? with | some (.f (.fn f))=>(Gb w false es p).bind λq=>(args q.2 q.1).bind λas=>(w.C f as).bind λr=>(outs q.2 q.1 r.2).map λp'=>(r.1,p') | _=>none)=_;rw[ef];show (Gb w false es p).bind _=_;rw[e1];show (args p1 as).bind _=_;rw[e2];show (w.C f sl).bind _=_;rw[e3];show (outs p1 as r.2).map _=_;rw[e4];rfl,h⟩
  .exact h.elim
 | mt m i es vz =>
  refine⟨λp Q h=>?_,λ_ _ _ h=>False.elim h⟩
  replace h:=Eq.mp (wE_mtQ _ _ _) h
  split at h
  .rename_i hd
   obtain⟨as,p1,e1,h⟩:=vz.2 false p _ h;obtain⟨ts,e2,h⟩:=Yh h
   split at h
   .rename_i t et
    obtain⟨r,e3,h⟩:=Yh h;exact⟨_,_,by show (if j4 p i=true then _ else _)=_;rw[if_pos hd,e1];show (looks p1 as).bind _=_;rw[e2];show (match p1[i]? with | some (.o t)=>_ | _=>_)=_;rw[et];show (mtT m t ts).map _=_;rw[e3];rfl,h⟩
   .exact h.elim
  .exact h.elim
 | comp tg it c el fr z5 htg hit hc hel =>
  refine⟨λp Q h=>?_,λ_ _ _ h=>False.elim h⟩
  replace h:=Eq.mp (kg _ _ _ _ _ _) h
  obtain⟨r,p1,e1,h⟩:=hit.1 p _ h;obtain⟨xs,e2,h⟩:=lz e1 h
  obtain⟨ys,s,e3,h⟩:=Rw (b':=λx s=>(asg tg x s).bind λs1=>(if isNil c=true then some (true,s1) else G2 (ev w c s1)).bind λb=>if b.1=true then (toT (ev w el b.2)).map λr=>(some r.1,r.2) else some (none,b.2)) (λx s K hk=>by
    obtain⟨s1,e3,hk⟩:=Yh hk;rw[e3];show ∃o p',(if isNil c=true then some (true,s1) else G2 (ev w c s1)).bind _=_/\_;cases hz:isNil c with
    | true =>
     rw[hz]at hk;obtain⟨r,s2,e4,hk⟩:=hel.1 s1 _ hk;obtain⟨t,e5,hk⟩:=Mi e4 hk;exact⟨_,_,by show (toT (ev w el s1)).map _=_;rw[e5];rfl,hk⟩
    | false =>
     rw[hz]at hk;obtain⟨r,s2,e4,hk⟩:=hc.1 s1 _ hk;obtain⟨b,e5,hk⟩:=Me e4 hk;show ∃o p',(G2 (ev w c s1)).bind _=_/\_;rw[e5];cases b with
     | true =>
      obtain⟨r,s3,e7,hk⟩:=hel.1 s2 _ hk;obtain⟨t,e8,hk⟩:=Mi e7 hk;exact⟨_,_,by show (toT (ev w el s2)).map _=_;rw[e8];rfl,hk⟩
     | false=>exact⟨_,_,rfl,hk⟩) xs [] _ _ h
  exact⟨_,_,by show (au (ev w it p)).bind _=_;rw[e2];show Option.map _ (Mr _ xs [] (yw fr p1))=_;rw[e3];rfl,h⟩
 | itr k es vz =>
  refine⟨λp Q h=>?_,λ_ _ _ h=>False.elim h⟩;obtain⟨as,p1,e1,h⟩:=vz.2 false p _ h;obtain⟨ts,e2,h⟩:=Yh h;obtain⟨s,e3,h⟩:=Yh h;exact⟨_,_,by show (Gb w false es p).bind _=_;rw[e1];show (looks p1 as).bind _=_;rw[e2];show (itT k ts).map _=_;rw[e3];rfl,h⟩
 | tmp a ha =>
  refine⟨λp Q h=>?_,λ_ _ _ h=>False.elim h⟩;obtain⟨r,p1,e1,h⟩:=ha.1 (frz p) _ h;obtain⟨t,e2,h⟩:=onF_ex e1 h
  split at h
  .rename_i hs
   exact⟨_,_,by show (toF (ev w a (frz p))).bind _=_;rw[e2];exact if_pos hs,h⟩
  .exact h.elim
 | nil   =>
  refine⟨λ_ _ h=>False.elim h,λm p Q h=>⟨[],p,by cases m<;>rfl,by cases m<;>exact h⟩⟩
 | cons a r ha hr =>
  refine⟨λ_ _ h=>False.elim h,λm p Q h=>?_⟩
  have fin:∀(q:A×P) {p1:P} {as:List A},S9 m a p (toT (ev w a p))=some q->Gb w m r q.2=some (as,p1)->Gb w m (.cons a r) p=some (q.1::as,p1):=λq p1 as e1 e2=>by
   show (S9 m a p (toT (ev w a p))).bind _=_;rw[e1];show (Gb w m r q.2).map _=_;rw[e2]
   rfl
  replace h:=Eq.mp (y9 _ _ _) h
  split at h
  .rename_i i
   split at h
   .rename_i hd
    obtain⟨as,p1,e,h⟩:=hr.2 m p _ h;exact⟨_,_,fin (.s i,p) (by simp[S9,hd]) e,h⟩
   .exact h.elim
  .rename_i i
   split at h
   .rename_i hm
    split at h
    .rename_i hd
     obtain⟨as,p1,e,h⟩:=hr.2 m p _ h;exact⟨_,_,fin (.s i,p) (by simp[S9,hm,hd]) e,h⟩
    .exact h.elim
   .rename_i hm
    obtain⟨q,e1,h⟩:=Yh h;obtain⟨as,p1,e,h⟩:=hr.2 m q.2 _ h;exact⟨_,_,fin (.t q.1,q.2) (by simp[S9,hm,e1]) e,h⟩
  .rename_i n1 n2
   obtain⟨s,p1,e1,h⟩:=ha.1 p _ h;obtain⟨t,e2,h⟩:=Mi e1 h;obtain⟨as,p2,e,h⟩:=hr.2 m p1 _ h;refine⟨_,_,fin (.t t,p1) ?_ e,h⟩;unfold S9
   split
   .exact absurd rfl (n1 _)
   .exact absurd rfl (n2 _)
   .rw[e2];rfl
theorem Ng(e:E)(p:P)(Q:Sl->P->Prop):wE w e p Q->∃r p',ev w e p=some (r,p')/\Q r p':=(wER_ev w e).1 p Q
end
def En.fl(D:En)(f:Fl)(p:P):Prop:=match f with
 | .nx=>D.nx p
 | .rt r=>D.rt r p
 | .bk=>D.bk p
 | .ct=>D.ct p
theorem Qj{body:T->P->En->Prop}{b':T->P->Option (Fl×P)}(hb:∀x p D,body x p D->∃f p',b' x p=some (f,p')/\D.fl f p'):∀(xs:ZZ) (p:P) (D:En),Rj body xs p D->∃f p',To b' xs p=some (f,p')/\D.fl f p'
 | [],p,D,h=>⟨.nx,p,rfl,h⟩
 | x::r,p,D,h=>by
  obtain⟨f,p',e,h'⟩:=hb x p _ h;unfold To;rw[e];cases f with
  | nx=>exact Qj hb r p' D h'
  | ct=>exact Qj hb r p' D h'
  | bk=>exact⟨.nx,p',rfl,h'⟩
  | rt t=>exact⟨.rt t,p',rfl,h'⟩
theorem Hx{test:P->(Bool->P->Prop)->Prop}{t':P->Option (Bool×P)}{body:P->En->Prop}{b':P->Option (Fl×P)}(ht:∀p K,test p K->∃b p',t' p=some (b,p')/\K b p')(hb:∀p D,body p D->∃f p',b' p=some (f,p')/\D.fl f p') :
  ∀(n:Nat) (p:P) (D:En),wWh test body n p D->∃f p',Ta t' b' n p=some (f,p')/\D.fl f p'
 | 0,p,D,h=>h.elim
 | n+1,p,D,h=>by
  obtain⟨b,p1,e,h⟩:=ht p _ h;unfold Ta;rw[e];cases b with
  | false=>exact⟨.nx,p1,rfl,h⟩
  | true =>
   obtain⟨f,p2,e2,h⟩:=hb p1 _ h;show ∃f p',(b' p1).bind _=_/\_;rw[e2];cases f with
   | nx=>exact Hx ht hb n p2 D h
   | ct=>exact Hx ht hb n p2 D h
   | bk=>exact⟨.nx,p2,rfl,h⟩
   | rt t=>exact⟨.rt t,p2,rfl,h⟩
theorem wS_ex(w:W)(pt:Nat->Bool)(s:S):∀(p:P) (D:En),wS w pt s p D->∃f p',ex w pt s p=some (f,p')/\D.fl f p':=by
 induction s with
 | nil=>exactλp D h=>⟨.nx,p,rfl,h⟩
 | seq a r ha hr =>
  intro p D h;obtain⟨f,p1,e,h⟩:=ha p _ h;show ∃f p',(ex w pt a p).bind _=_/\_;rw[e];cases f with
  | nx=>exact hr p1 D h
  | rt t=>exact⟨_,_,rfl,h⟩
  | bk=>exact⟨_,_,rfl,h⟩
  | ct=>exact⟨_,_,rfl,h⟩
 | ret a =>
  intro p D h;obtain⟨r,p1,e,h⟩:=Ng w a p _ h;exact⟨.rt r,p1,by show (ev w a p).map _=_;rw[e];rfl,h⟩
 | ex a =>
  intro p D h;obtain⟨r,p1,e,h⟩:=Ng w a p _ h;exact⟨.nx,p1,by show (ev w a p).map _=_;rw[e];rfl,h⟩
 | set i a =>
  intro p D h;by_cases hp:pt i=true
  .have h:(if pt i=true then False else _):=h;rw[if_pos hp]at h;exact h.elim
  .obtain⟨r,p1,e,h⟩:=Ng w a p _ (if_neg hp ▸ (show (if pt i=true then False else _) from h));exact⟨.nx,_,by show (if pt i=true then none else _)=_;rw[if_neg hp,e];rfl,h⟩
 | unp tg a =>
  intro p D h;by_cases hp:Ur pt tg=true
  .obtain⟨r,p1,e,h⟩:=Ng w a p _ (if_pos hp ▸ (show (if Ur pt tg=true then _ else False) from h));obtain⟨t,e2,h⟩:=Mi e h;obtain⟨p2,e3,h⟩:=Yh h;exact⟨.nx,_,by show (if Ur pt tg=true then _ else none)=_;rw[if_pos hp,e2];show (asg tg t p1).map _=_;rw[e3];rfl,h⟩
  .have h:(if Ur pt tg=true then _ else False):=h;rw[if_neg hp]at h;exact h.elim
 | put i k a =>
  intro p D h;obtain⟨r,p1,e,h⟩:=Ng w a p _ h;obtain⟨t,e2,h⟩:=Mi e h
  split at h
  .rename_i hd
   obtain⟨r,p2,e3,h⟩:=Ng w k p1 _ h;obtain⟨kt,e4,h⟩:=Mi e3 h
   split at h
   .rename_i x exq
    obtain⟨x',e5,h⟩:=Yh h;exact⟨.nx,_,by show (toT (ev w a p)).bind _=_;rw[e2];show (if done p1 i=true then (toT (ev w k p1)).bind _ else _)=_;rw[if_pos hd,e4];show (match p2[i]? with | some (.o t)=>_ | _=>_)=_;rw[exq];show (putAt x kt t).map _=_;rw[e5];rfl,h⟩
   .exact h.elim
  .exact h.elim
 | ite c a b ha hb =>
  intro p D h;obtain⟨r,p1,e,h⟩:=Ng w c p _ h;obtain⟨b',e2,h⟩:=Me e h;show ∃f p',(G2 (ev w c p)).bind _=_/\_;rw[e2];cases b' with
  | true=>exact ha p1 D h
  | false=>exact hb p1 D h
 | loop tg it b hb =>
  intro p D h;by_cases hp:Ur pt tg=true
  .obtain⟨r,p1,e,h⟩:=Ng w it p _ (if_pos hp ▸ (show (if Ur pt tg=true then _ else False) from h));obtain⟨xs,e2,h⟩:=lz e h;show ∃f p',(if Ur pt tg=true then _ else none)=_/\_;rw[if_pos hp,e2]
   exact Qj (λx p D h=>by
    obtain⟨s1,e3,h⟩:=Yh h;rw[e3];exact hb s1 D h) xs p1 D h
  .have h:(if Ur pt tg=true then _ else False):=h;rw[if_neg hp]at h;exact h.elim
 | wh c b hb =>
  intro p D h
  exact Hx (λp K h=>by
   obtain⟨r,p1,e,h⟩:=Ng w c p _ h;obtain⟨b',e2,h⟩:=Me e h;exact⟨b',p1,e2,h⟩) (λp D h=>hb p D h) _ p D h
 | pass=>exactλp D h=>⟨.nx,p,rfl,h⟩
 | brk=>exactλp D h=>⟨.bk,p,rfl,h⟩
 | cont=>exactλp D h=>⟨.ct,p,rfl,h⟩
mutual
def IsT(K:W.Frag)(mg:ZV)(H F:Hp):T->V->Prop
 | .non,v=>v=.non
 | .bl b,v=>v=.bl b
 | .int i,v=>v=.int i
 | .str x,v=>v=.str x
 | .tup ts,v=>∃a vs,v=.ref a/\Vn K H a vs/\vs.length<=sizeLine/\Zj K mg H F ts vs
 | .lst ts,v=>∃a vs,v=.ref a/\Rd F a (.lst vs)/\vs.length<=sizeLine/\Zj K mg H F ts vs
 | .dct XM,v=>∃a ks,v=.ref a/\Rd F a (.dK ks)/\ks.length<=sizeLine/\Zu K mg H F XM ks
 | .fn x,v=>∃a,v=.ref a/\mg x=some (.ref a)
def Zj(K:W.Frag)(mg:ZV)(H F:Hp):ZZ->ZQ->Prop
 | [],vs=>vs=[]
 | t::ts,vs=>∃v r,vs=v::r/\IsT K mg H F t v/\Zj K mg H F ts r
def IsK(K:W.Frag)(mg:ZV)(H F:Hp):Key×T->Key×V->Prop
 | (k,t),q=>q.1=k/\IsT K mg H F t q.2
def Zu(K:W.Frag)(mg:ZV)(H F:Hp):ZX->List (Key×V)->Prop
 | [],ks=>ks=[]
 | p::ps,ks=>∃q r,ks=q::r/\IsK K mg H F p q/\Zu K mg H F ps r
end
def Le(F F':Hp):Prop:=∀a o,F a=some o->F' a=some o
theorem Le.refl(F:Hp):Le F F:=λ_ _ h=>h
theorem Le.trans{F F1 F2:Hp}(a:Le F F1)(b:Le F1 F2):Le F F2:=λc u h=>b c u (a c u h)
structure om(F F':Hp):Prop where
 l:∀a vs,Rd F a (.lst vs)->Rd F' a (.lst vs)
 d:∀a ks,Rd F a (.dK ks)->Rd F' a (.dK ks)
theorem Le.r{F F':Hp}(l:Le F F'):om F F':=⟨λa u h=>h.elim (λh=>.inl (l a _ h)) λ⟨o,h⟩=>.inr ⟨o,l a _ h⟩,λa u h=>h.elim (λh=>.inl (l a _ h)) λ⟨o,h⟩=>.inr ⟨o,l a _ h⟩⟩
section
variable{K:W.Frag}{mg:ZV}{H H' F F':Hp}
mutual
theorem IsT.upR(u:Up K H H')(l:om F F'):∀(t:T) (v:V),IsT K mg H F t v->IsT K mg H' F' t v
 | .non,_,h=>h
 | .bl _,_,h=>h
 | .int _,_,h=>h
 | .str _,_,h=>h
 | .tup ts,v,h=>by
  obtain⟨a,vs,e,q,z,r⟩:=h;exact⟨a,vs,e,u a vs q,z,Zj.upR u l ts vs r⟩
 | .lst ts,v,h=>by
  obtain⟨a,vs,e,q,z,r⟩:=h;exact⟨a,vs,e,l.l a _ q,z,Zj.upR u l ts vs r⟩
 | .dct XM,v,h=>by
  obtain⟨a,ks,e,q,z,r⟩:=h;exact⟨a,ks,e,l.d a _ q,z,Zu.upR u l XM ks r⟩
 | .fn x,_,h=>h
theorem Zj.upR(u:Up K H H')(l:om F F'):∀(ts:ZZ) (vs:ZQ),Zj K mg H F ts vs->Zj K mg H' F' ts vs
 | [],_,h=>h
 | t::ts,vs,h=>by
  obtain⟨v,r,e,q,w⟩:=h;exact⟨v,r,e,IsT.upR u l t v q,Zj.upR u l ts r w⟩
theorem IsK.upR(u:Up K H H')(l:om F F'):∀(p:Key×T) (q:Key×V),IsK K mg H F p q->IsK K mg H' F' p q
 | (k,t),q,h=>⟨h.1,IsT.upR u l t q.2 h.2⟩
theorem Zu.upR(u:Up K H H')(l:om F F'):∀(ps:ZX) (ks:List (Key×V)),Zu K mg H F ps ks->Zu K mg H' F' ps ks
 | [],_,h=>h
 | p::ps,ks,h=>by
  obtain⟨q,r,e,i,w⟩:=h;exact⟨q,r,e,IsK.upR u l p q i,Zu.upR u l ps r w⟩
end
theorem IsT.up(u:Up K H H')(l:Le F F')(t:T)(v:V)(h:IsT K mg H F t v):IsT K mg H' F' t v:=IsT.upR u l.r t v h
theorem Zj.up(u:Up K H H')(l:Le F F')(t:ZZ)(v:ZQ)(h:Zj K mg H F t v):Zj K mg H' F' t v:=Zj.upR u l.r t v h
theorem Zu.up(u:Up K H H')(l:Le F F')(t:ZX)(v:List (Key×V))(h:Zu K mg H F t v):Zu K mg H' F' t v:=Zu.upR u l.r t v h
theorem Zj.length:∀{ts:ZZ} {vs:ZQ},Zj K mg H F ts vs->ts.length=vs.length
 | [],vs,h=>by
  cases(show vs=[] from h);rfl
 | t::ts,vs,h=>by
  obtain⟨v,r,rfl,_,w⟩:=h;simp only[Rz,Zj.length w]
theorem Zu.length:∀{ts:ZX} {vs:List (Key×V)},Zu K mg H F ts vs->ts.length=vs.length
 | [],vs,h=>by
  cases(show vs=[] from h);rfl
 | t::ts,vs,h=>by
  obtain⟨v,r,rfl,_,w⟩:=h;simp only[Rz,Zu.length w]
theorem Zj.get:∀{ts:ZZ} {vs:ZQ} {i:Nat} {t:T},Zj K mg H F ts vs->ts[i]?=some t->∃v,vs[i]?=some v/\IsT K mg H F t v
 | [],vs,i,t,_,e=>by simp at e
 | t::ts,vs,0,t',h,e=>by
  obtain⟨v,r,rfl,q,_⟩:=h;simp at e;subst e;exact⟨v,rfl,q⟩
 | t::ts,vs,i+1,t',h,e=>by
  obtain⟨v,r,rfl,_,w⟩:=h;obtain⟨v',e1,q⟩:=Zj.get (i:=i) w (by simpa using e);exact⟨v',by simpa using e1,q⟩
theorem Zj.append:∀{ts us:ZZ} {vs ws:ZQ},Zj K mg H F ts vs->Zj K mg H F us ws->Zj K mg H F (ts++us) (vs++ws)
 | [],us,vs,ws,h,h'=>by
  cases(show vs=[] from h);exact h'
 | t::ts,us,vs,ws,h,h'=>by
  obtain⟨v,r,rfl,q,w⟩:=h;exact⟨v,r++ws,rfl,q,Zj.append w h'⟩
theorem Zj.one{t:T}{v:V}(h:IsT K mg H F t v):Zj K mg H F [t] [v]:=⟨v,[],rfl,h,rfl⟩
theorem Zj.drop:∀{ts:ZZ} {vs:ZQ} (n:Nat),Zj K mg H F ts vs->Zj K mg H F (ts.drop n) (vs.drop n)
 | ts,vs,0,h=>h
 | [],vs,n+1,h=>by
  cases(show vs=[] from h);rfl
 | t::ts,vs,n+1,h=>by
  obtain⟨v,r,rfl,_,w⟩:=h;exact Zj.drop n w
theorem Zj.take:∀{ts:ZZ} {vs:ZQ} (n:Nat),Zj K mg H F ts vs->Zj K mg H F (ts.take n) (vs.take n)
 | ts,vs,0,_=>rfl
 | [],vs,n+1,h=>by
  cases(show vs=[] from h);rfl
 | t::ts,vs,n+1,h=>by
  obtain⟨v,r,rfl,q,w⟩:=h;exact⟨v,r.take n,rfl,q,Zj.take n w⟩
theorem Zj.set:∀{ts:ZZ} {vs:ZQ} (n:Nat) {t:T} {v:V},Zj K mg H F ts vs->IsT K mg H F t v->Zj K mg H F (ts.set n t) (vs.set n v)
 | [],vs,n,t,v,h,_=>by
  cases(show vs=[] from h);rfl
 | t::ts,vs,0,t',v',h,i=>by
  obtain⟨v,r,rfl,q,w⟩:=h;exact⟨v',r,rfl,i,w⟩
 | t::ts,vs,n+1,t',v',h,i=>by
  obtain⟨v,r,rfl,q,w⟩:=h;exact⟨v,r.set n v',rfl,q,Zj.set n w i⟩
end
def W6(K:W.Frag)(mg:ZV)(H F:Hp)(a:Addr):T->Prop
 | .lst ts=>∃vs,H a=some (.lst vs)/\vs.length<=sizeLine/\Zj K mg H F ts vs
 | .dct XM=>∃ks,H a=some (.dK ks)/\ks.length<=sizeLine/\Zu K mg H F XM ks
 | _=>False
theorem W6.up{K:W.Frag}{mg:ZV}{H H' F F':Hp}{a:Addr}{t:T}(u:Up K H H')(l:Le F F')(e:H' a=H a)(h:W6 K mg H F a t):W6 K mg H' F' a t:=by
 cases t with
 | lst ts =>
  obtain⟨vs,q,z,r⟩:=h;exact⟨vs,e.trans q,z,Zj.up u l ts vs r⟩
 | dct ts =>
  obtain⟨vs,q,z,r⟩:=h;exact⟨vs,e.trans q,z,Zu.up u l ts vs r⟩
 | _=>exact h.elim
structure Base(F G H:Hp):Prop where
 f:∀a o,F a=some o->H a=some o
 g:∀a o,G a=some o->H a=some o
 d:∀a,F a≠none->G a=none
 t:TB F G H
structure Rel(K:W.Frag)(mg:ZV)(F G:Hp)(p:P)(Z:L2.St)(H:Hp):Prop where
 b:Base F G H
 fz:∀(i:Nat) (t:T),p[i]?=some (Sl.f t)->∃v,Z[i]?=some (some v)/\IsT K mg H F t v
 ow:∀(i:Nat) (t:T),p[i]?=some (Sl.o t)->∃a,Z[i]?=some (some (V.ref a))/\F a=none/\G a=none/\W6 K mg H F a t
 ap:∀(i j:Nat) (t u:T) (a:Addr),p[i]?=some (Sl.o t)->p[j]?=some (Sl.o u)->Z[i]?=some (some (V.ref a))->Z[j]?=some (some (V.ref a))->i=j
 ln:p.length=Z.length
def Res(K:W.Frag)(mg:ZV)(F G:Hp)(p:P)(Z:L2.St)(H:Hp)(r:Sl)(v:V):Prop:=match r with
 | .f t=>IsT K mg H F t v
 | .o t=>∃a,v=.ref a/\F a=none/\G a=none/\W6 K mg H F a t/\∀(i:Nat) (u:T),p[i]?=some (Sl.o u)->Z[i]?≠some (some (V.ref a))
 | .no=>False
section
variable{K:W.Frag}{mg:ZV}{H H' F F' G:Hp}{p:P}{Z:L2.St}
theorem Rd.none{F:Hp}{a:Addr}{u:HO}(h:F a=none):¬ Rd F a u:=λr=>by
 rcases r with r | ⟨o,r⟩<;>rw[h]at r<;>cases r
theorem Le.lay{a:Addr}{o:HO}(h:F a=none):Le F (upd F a o):=Zp.lay h
theorem Base.rd(b:Base F G H){a:Addr}{u:HO}(r:Rd F a u):Rd H a u:=by
 rcases r with r | ⟨o,r⟩
 .exact .inl (b.f a _ r)
 .exact .inr ⟨o,b.f a _ r⟩
theorem Base.same(b:Base F G H)(s:Zp H H'):Base F G H':=⟨λa o e=>s a o (b.f a o e),λa o e=>s a o (b.g a o e),b.d,b.t.same s⟩
theorem W6.some{a:Addr}{t:T}(h:W6 K mg H F a t):∃o,H a=some o:=by
 cases t with
 | lst ts=>obtain⟨vs,q,_⟩:=h;exact⟨_,q⟩
 | dct ts=>obtain⟨vs,q,_⟩:=h;exact⟨_,q⟩
 | _=>exact h.elim
theorem W6.pln{a:Addr}{t:T}{o:HO}(h:W6 K mg H F a t)(e:H a=Option.some o):Pln o:=by
 cases t with
 | lst ts=>obtain⟨vs,q,_⟩:=h;rw[q]at e;cases e;exact tm
 | dct ts=>obtain⟨vs,q,_⟩:=h;rw[q]at e;cases e;exact Zwq
 | _=>exact h.elim
theorem W6.ne{a:Addr}{t:T}{T:TP}(h:W6 K mg H F a t)(tb:Tb T H):a≠T.P:=let ⟨_,e⟩:=h.some;tb.ne e (h.pln e)
theorem W6.same{a:Addr}{t:T}(h:W6 K mg H F a t)(s:Zp H H')(l:Le F F'):W6 K mg H' F' a t:=by
 obtain⟨o,e⟩:=h.some;exact h.up s.up l ((s a o e).trans e.symm)
theorem Rel.same(r:Rel K mg F G p Z H)(s:Zp H H'):Rel K mg F G p Z H' :=
 ⟨r.b.same s,λi t e=>let ⟨v,h1,h2⟩:=r.fz i t e;⟨v,h1,IsT.up s.up (Le.refl F) t v h2⟩,λi t e=>let ⟨a,h1,h2,h3,h4⟩:=r.ow i t e;⟨a,h1,h2,h3,h4.same s (Le.refl F)⟩,r.ap,r.ln⟩
theorem Rh{a:Addr}{t:T}{o:HO}(h:W6 K mg H F a t)(e:H a=some o)(l:Le F F')(q:F' a=some o):IsT K mg H F' t (.ref a):=by
 cases t with
 | lst ts =>
  obtain⟨vs,q1,z,r⟩:=h;rw[q1]at e;cases e;exact⟨a,vs,rfl,.inl q,z,Zj.up (Up.refl H) l ts vs r⟩
 | dct ts =>
  obtain⟨vs,q1,z,r⟩:=h;rw[q1]at e;cases e;exact⟨a,vs,rfl,.inl q,z,Zu.up (Up.refl H) l ts vs r⟩
 | _=>exact h.elim
theorem Rel.freeze(r:Rel K mg F G p Z H){a:Addr}{t:T}(fa:F a=none)(ga:G a=none)(h:W6 K mg H F a t)(ha:∀(i:Nat) (u:T),p[i]?=some (Sl.o u)->Z[i]?≠some (some (V.ref a))):∃F',Le F F'/\Rel K mg F' G p Z H/\IsT K mg H F' t (.ref a):=by
 obtain⟨o,e⟩:=h.some;have l:Le F (upd F a o):=Le.lay fa;refine⟨upd F a o,l,⟨⟨λb u q=>?_,r.b.g,λb q=>?_,λT e=>let ⟨f1,g1,t1⟩:=r.b.t T e;⟨by rw[Zz (h.ne t1).symm];exact f1,g1,t1⟩⟩,λi t e=>let ⟨v,h1,h2⟩:=r.fz i t e;⟨v,h1,IsT.up (Up.refl H) l t v h2⟩,λi u q=>?_,r.ap,r.ln⟩,Rh h e l Zq⟩
 .by_cases z:b=a
  .subst z;rw[Zq]at q;cases q;exact e
  .rw[Zz z]at q;exact r.b.f b u q
 .by_cases z:b=a
  .subst z;exact ga
  .rw[Zz z]at q;exact r.b.d b q
 .obtain⟨b,h1,h2,h3,h4⟩:=r.ow i u q;have n:b≠a:=λz=>by subst z;exact ha i u q h1
  exact⟨b,h1,by rw[Zz n];exact h2,h3,h4.same (Zp.refl H) l⟩
theorem Z7{p:P}{i j:Nat}{s u:Sl}(h:(p.set i s)[j]?=some u):(j=i/\u=s)\/(j≠i/\p[j]?=some u):=by
 by_cases e:i=j
 .subst e;rw[List.getElem?_set_self']at h;cases q:p[i]? with
  | none=>rw[q]at h;cases h
  | some x=>rw[q]at h;exact .inl ⟨rfl,(D8 h).symm⟩
 .rw[List.getElem?_set_ne e]at h;exact .inr ⟨λz=>e z.symm,h⟩
theorem Rel.drop(r:Rel K mg F G p Z H)(i:Nat):Rel K mg F G (p.set i .no) Z H :=
 ⟨r.b,λj t e=>by
  rcases Z7 e with ⟨_,z⟩ | ⟨_,e⟩
  .cases z
  .exact r.fz j t e,λj t e=>by
  rcases Z7 e with ⟨_,z⟩ | ⟨_,e⟩
  .cases z
  .exact r.ow j t e,λj k t u a e1 e2=>by
  rcases Z7 e1 with ⟨_,z⟩ | ⟨_,e1⟩
  .cases z
  rcases Z7 e2 with ⟨_,z⟩ | ⟨_,e2⟩
  .cases z
  exact r.ap j k t u a e1 e2,by rw[XY];exact r.ln⟩
theorem Rel.know(r:Rel K mg F G p Z H){i:Nat}{t:T}{v:V}(hv:Z[i]?=some (some v))(h:IsT K mg H F t v):Rel K mg F G (p.set i (.f t)) Z H :=
 ⟨r.b,λj u e=>by
  rcases Z7 e with ⟨z,y⟩ | ⟨_,e⟩
  .cases y;subst z;exact⟨v,hv,h⟩
  .exact r.fz j u e,λj t e=>by
  rcases Z7 e with ⟨_,z⟩ | ⟨_,e⟩
  .cases z
  .exact r.ow j t e,λj k t u a e1 e2=>by
  rcases Z7 e1 with ⟨_,z⟩ | ⟨_,e1⟩
  .cases z
  rcases Z7 e2 with ⟨_,z⟩ | ⟨_,e2⟩
  .cases z
  exact r.ap j k t u a e1 e2,by rw[XY];exact r.ln⟩
theorem Rel.freezeAt(r:Rel K mg F G p Z H){i:Nat}{t:T}(e:p[i]?=some (Sl.o t)):∃F' v,Le F F'/\Rel K mg F' G (p.set i (.f t)) Z H/\Z[i]?=some (some v)/\IsT K mg H F' t v:=by
 obtain⟨a,h1,h2,h3,h4⟩:=r.ow i t e
 obtain⟨F',l,r',h⟩:=(r.drop i).freeze h2 h3 h4 λj u q z=>by
  rcases Z7 q with ⟨_,y⟩ | ⟨n,q⟩
  .cases y
  .exact n (r.ap j i u t a q e z h1)
 have r2:=r'.know (i:=i) h1 h;rw[List.set_set]at r2;exact⟨F',_,l,r2,h1,h⟩
theorem Rel.thaw(r:Rel K mg F G p Z H){s:Sl}{t:T}{v:V}(e:PV.thaw s=some t)(h:Res K mg F G p Z H s v):∃F',Le F F'/\Rel K mg F' G p Z H/\IsT K mg H F' t v:=by
 cases s with
 | no=>cases e
 | f u=>cases e;exact⟨F,Le.refl F,r,h⟩
 | o u =>
  cases e;obtain⟨a,rfl,h1,h2,h3,h4⟩:=h;exact r.freeze h1 h2 h3 h4
theorem Rel.newL(r:Rel K mg F G p Z H){l:Addr}{ts:ZZ}{vs:ZQ}(hl:H l=none)(z:vs.length<=sizeLine)(h:Zj K mg H F ts vs):Rel K mg F G p Z (upd H l (.lst vs))/\Res K mg F G p Z (upd H l (.lst vs)) (.o (.lst ts)) (.ref l):=by
 have s:Zp H (upd H l (.lst vs)):=Zp.lay hl;refine⟨r.same s,l,rfl,?_,?_,⟨vs,Zq,z,Zj.up s.up (Le.refl F) ts vs h⟩,λi u e q=>?_⟩
 .cases q:F l with
  | none=>rfl
  | some o=>rw[r.b.f l o q]at hl;cases hl
 .cases q:G l with
  | none=>rfl
  | some o=>rw[r.b.g l o q]at hl;cases hl
 .obtain⟨b,h1,_,_,h4⟩:=r.ow i u e;rw[h1]at q;cases q;obtain⟨o,h5⟩:=h4.some;rw[h5]at hl;cases hl
theorem Rel.newD(r:Rel K mg F G p Z H){l:Addr}{ts:ZX}{vs:List (Key×V)}(hl:H l=none)(z:vs.length<=sizeLine)(h:Zu K mg H F ts vs):Rel K mg F G p Z (upd H l (.dK vs))/\Res K mg F G p Z (upd H l (.dK vs)) (.o (.dct ts)) (.ref l):=by
 have s:Zp H (upd H l (.dK vs)):=Zp.lay hl;refine⟨r.same s,l,rfl,?_,?_,⟨vs,Zq,z,Zu.up s.up (Le.refl F) ts vs h⟩,λi u e q=>?_⟩
 .cases q:F l with
  | none=>rfl
  | some o=>rw[r.b.f l o q]at hl;cases hl
 .cases q:G l with
  | none=>rfl
  | some o=>rw[r.b.g l o q]at hl;cases hl
 .obtain⟨b,h1,_,_,h4⟩:=r.ow i u e;rw[h1]at q;cases q;obtain⟨o,h5⟩:=h4.some;rw[h5]at hl;cases hl
end
def Ar(K:W.Frag)(mg:ZV)(F:Hp)(Z:L2.St)(H:Hp):A->V->Prop
 | .t t,v=>IsT K mg H F t v
 | .s i,v=>Z[i]?=some (some v)
abbrev Ars(K:W.Frag)(mg:ZV)(F:Hp)(Z:L2.St)(H:Hp):List A->ZQ->Prop:=Paired (Ar K mg F Z H)
def Bb(K:W.Frag)(mg:ZV)(H F:Hp):T->V->Prop
 | .lst ts,v=>∃a vs,v=.ref a/\Rd H a (.lst vs)/\vs.length<=sizeLine/\Zj K mg H F ts vs
 | .dct XM,v=>∃a ks,v=.ref a/\Rd H a (.dK ks)/\ks.length<=sizeLine/\Zu K mg H F XM ks
 | t,v=>IsT K mg H F t v
section
variable{K:W.Frag}{mg:ZV}{H H' F F' G:Hp}{p:P}{Z:L2.St}
theorem Ar.up(u:Up K H H')(l:Le F F'){a:A}{v:V}(h:Ar K mg F Z H a v):Ar K mg F' Z H' a v:=by
 cases a with
 | t t=>exact IsT.up u l t v h
 | s i=>exact h
theorem Ars.up(u:Up K H H')(l:Le F F'):∀{as:List A} {vs:ZQ},Ars K mg F Z H as vs->Ars K mg F' Z H' as vs
 | _,_,.nil=>.nil
 | _,_,.cons r t=>.cons (Ar.up u l r) (Ars.up u l t)
theorem Hr(b:Base F G H){t:T}{v:V}(h:IsT K mg H F t v):Bb K mg H F t v:=by
 cases t with
 | lst ts=>obtain⟨a,vs,e,q,z,r⟩:=h;exact⟨a,vs,e,b.rd q,z,r⟩
 | dct ts=>obtain⟨a,vs,e,q,z,r⟩:=h;exact⟨a,vs,e,b.rd q,z,r⟩
 | _=>exact h
theorem Zzc{a:Addr}{t:T}(h:W6 K mg H F a t):Bb K mg H F t (.ref a):=by
 cases t with
 | lst ts=>obtain⟨vs,q,z,r⟩:=h;exact⟨a,vs,rfl,.inl q,z,r⟩
 | dct ts=>obtain⟨vs,q,z,r⟩:=h;exact⟨a,vs,rfl,.inl q,z,r⟩
 | _=>exact h.elim
theorem Rel.look(r:Rel K mg F G p Z H){a:A}{v:V}{t:T}(e:PV.look p a=some t)(h:Ar K mg F Z H a v):Bb K mg H F t v:=by
 cases a with
 | t u=>cases e;exact Hr r.b h
 | s i =>
  unfold PV.look at e;dsimp only at e
  split at e
  .rename_i u q
   cases e;obtain⟨v',h1,h2⟩:=r.fz i _ q;have:v'=v:=D8 (D8 (h1.symm.trans h));subst this;exact Hr r.b h2
  .rename_i u q
   cases e;obtain⟨a,h1,_,_,h2⟩:=r.ow i _ q;have:V.ref a=v:=D8 (D8 (h1.symm.trans h));subst this;exact Zzc h2
  .cases e
theorem Rel.looks(r:Rel K mg F G p Z H):∀{as:List A} {vs:ZQ} {ts:ZZ},PV.looks p as=some ts->Ars K mg F Z H as vs->Paired (Bb K mg H F) ts vs
 | [],_,ts,e,.nil=>by cases e;exact .nil
 | a::as,_,ts,e,.cons h t=>by
  unfold PV.looks at e;cases e1:PV.look p a with
  | none=>rw[e1]at e;cases e
  | some u =>
   rw[e1]at e;have e:(PV.looks p as).map (u::·)=some ts:=e;cases e2:PV.looks p as with
   | none=>rw[e2]at e;cases e
   | some us =>
    rw[e2]at e;cases e;exact .cons (r.look e1 h) (r.looks e2 t)
end
section
theorem Ds:∀{as:List A} {p:P} {sl:List Sl},args p as=some sl->sl.length=as.length
 | [],p,sl,e=>by cases e;rfl
 | .t t::r,p,sl,e=>by
  unfold args at e;cases q:args p r with
  | none=>rw[q]at e;cases e
  | some x=>rw[q]at e;cases e;simp[Ds q]
 | .s i::r,p,sl,e=>by
  unfold args at e
  split at e
  .cases q:args (p.set i .no) r with
   | none=>rw[q]at e;cases e
   | some x=>rw[q]at e;cases e;simp[Ds q]
  .cases e
theorem Il:∀{as:List A} {p:P} {sl:List Sl} {j:Nat} {t:T},args p as=some sl->as[j]?=some (.t t)->sl[j]?=some (.f t)
 | [],p,sl,j,t,e,h=>by simp at h
 | .t u::r,p,sl,j,t,e,h=>by
  unfold args at e;cases q:args p r with
  | none=>rw[q]at e;cases e
  | some x =>
   rw[q]at e;cases e;cases j with
   | zero=>simp at h;subst h;rfl
   | succ j=>simpa using Il (j:=j) q (by simpa using h)
 | .s i::r,p,sl,j,t,e,h=>by
  unfold args at e
  split at e
  .cases q:args (p.set i .no) r with
   | none=>rw[q]at e;cases e
   | some x =>
    rw[q]at e;cases e;cases j with
    | zero=>simp at h
    | succ j=>simpa using Il (j:=j) q (by simpa using h)
  .cases e
theorem Dr:∀{as:List A} {p:P} {sl:List Sl} {j i:Nat},args p as=some sl->as[j]?=some (.s i)->∃t,p[i]?=some (Sl.o t)/\sl[j]?=some (.o t)
 | [],p,sl,j,t,e,h=>by simp at h
 | .t u::r,p,sl,j,i,e,h=>by
  unfold args at e;cases q:args p r with
  | none=>rw[q]at e;cases e
  | some x =>
   rw[q]at e;cases e;cases j with
   | zero=>simp at h
   | succ j=>simpa using Dr (j:=j) q (by simpa using h)
 | .s k::r,p,sl,j,i,e,h=>by
  unfold args at e
  split at e
  .rename_i u hu
   cases q:args (p.set k .no) r with
   | none=>rw[q]at e;cases e
   | some x =>
    rw[q]at e;cases e;cases j with
    | zero=>simp at h;subst h;exact⟨u,hu,rfl⟩
    | succ j =>
     obtain⟨t,h1,h2⟩:=Dr (j:=j) q (by simpa using h);rcases Z7 h1 with ⟨_,z⟩ | ⟨_,h1⟩
     .cases z
     .exact⟨t,h1,by simpa using h2⟩
  .cases e
theorem J3:∀{as:List A} {p:P} {sl:List Sl} {j k i:Nat},args p as=some sl->as[j]?=some (.s i)->as[k]?=some (.s i)->j=k
 | [],p,sl,j,k,i,e,h,_=>by simp at h
 | .t u::r,p,sl,j,k,i,e,h,h'=>by
  unfold args at e;cases q:args p r with
  | none=>rw[q]at e;cases e
  | some x =>
   cases j with
   | zero=>simp at h
   | succ j =>
    cases k with
    | zero=>simp at h'
    | succ k=>rw[J3 (j:=j) (k:=k) q (by simpa using h) (by simpa using h')]
 | .s l::r,p,sl,j,k,i,e,h,h'=>by
  unfold args at e
  split at e
  .cases q:args (p.set l .no) r with
   | none=>rw[q]at e;cases e
   | some x =>
    have no:∀{m:Nat},r[m]?=some (A.s i)->l≠i:=λ{m} hm z=>by
     subst z;obtain⟨t,h1,_⟩:=Dr (j:=m) q hm;rcases Z7 h1 with ⟨_,z⟩ | ⟨z,_⟩
     .cases z
     .exact z rfl
    cases j with
    | zero =>
     cases k with
     | zero=>rfl
     | succ k =>
      simp at h;exact absurd h (no (m:=k) (by simpa using h'))
    | succ j =>
     cases k with
     | zero =>
      simp at h';exact absurd h' (no (m:=j) (by simpa using h))
     | succ k=>rw[J3 (j:=j) (k:=k) q (by simpa using h) (by simpa using h')]
  .cases e
theorem C3:∀{as:List A} {p p0 p2:P} {sl:List Sl} {ts:ZZ},args p0 as=some sl->outs p as ts=some p2 ->
  p2.length=p.length/\(∀i:Nat,A.s i∉as->p2[i]?=p[i]?)/\(∀j i:Nat,as[j]?=some (A.s i)->i<p.length->(∀k:Nat,as[k]?=some (A.s i)->k=j)->∃t,p2[i]?=some (mkO t)/\(W0 sl ts)[j]?=some (mkO t))/\∀(j:Nat) (t:T),as[j]?=some (A.t t)->(W0 sl ts)[j]?=some (Sl.f t)
 | [],p,p0,p2,sl,ts,e,h=>by
  cases e;cases ts with
  | nil=>cases h;exact⟨rfl,λ_ _=>rfl,λj i h=>by simp at h,λj t h=>by simp at h⟩
  | cons t ts=>cases h
 | .t u::r,p,p0,p2,sl,ts,e,h=>by
  unfold args at e;cases q:args p0 r with
  | none=>rw[q]at e;cases e
  | some x =>
   rw[q]at e;cases e;have h:outs p r ts=some p2:=by cases ts<;>exact h
   obtain⟨h1,h2,h3,h4⟩:=C3 q h;have eu:W0 (.f u::x) ts=.f u::W0 x ts:=by cases ts<;>rfl
   refine⟨h1,λi m=>h2 i λz=>m (Uz _ z),λj i hj hi hu=>?_,λj t hj=>?_⟩
   .cases j with
    | zero=>simp at hj
    | succ j =>
     obtain⟨t,a1,a2⟩:=h3 j i (by simpa using hj) hi λk hk=>by have:=hu (k+1) (by simpa using hk);omega
     exact⟨t,a1,by rw[eu];simpa using a2⟩
   .rw[eu];cases j with
    | zero=>simp at hj;subst hj;rfl
    | succ j=>simpa using h4 j t (by simpa using hj)
 | .s l::r,p,p0,p2,sl,ts,e,h=>by
  unfold args at e
  split at e
  .rename_i u hu0
   cases q:args (p0.set l .no) r with
   | none=>rw[q]at e;cases e
   | some x =>
    rw[q]at e;cases e;cases ts with
    | nil=>cases h
    | cons t ts =>
     have h:outs (p.set l (mkO t)) r ts=some p2:=h;obtain⟨h1,h2,h3,h4⟩:=C3 q h;rw[XY]at h1;refine⟨h1,λi m=>?_,λj i hj hi hu=>?_,λj v hj=>?_⟩
     .rw[h2 i λz=>m (Uz _ z),List.getElem?_set_ne λz=>m (by rw[z];exact V4)]
     .cases j with
      | zero =>
       simp at hj;subst hj
       have no:A.s l∉r:=λz=>by
        obtain⟨k,hk⟩:=List.getElem?_of_mem z;have:=hu (k+1) (by simpa using hk);omega
       exact⟨t,by rw[h2 l no,List.getElem?_set_self hi],rfl⟩
      | succ j =>
       obtain⟨v,a1,a2⟩:=h3 j i (by simpa using hj) (by rw[XY];exact hi) λk hk=>by have:=hu (k+1) (by simpa using hk);omega
       exact⟨v,a1,a2⟩
     .cases j with
      | zero=>simp at hj
      | succ j=>exact h4 j v (by simpa using hj)
  .cases e
end
def fm(K:W.Frag)(mg:ZV)(n:Nat)(c:List Sl->Option (Sl×ZZ)):Sp:=λvs H Q _=>vs.length=n/\∃F G as r,c as=some r/\Rel K mg F G as (vs.map some) H /\
 ∀F' H' v,Le F F'->Up K H H'->Rel K mg F' G (W0 as r.2) (vs.map some) H'->Res K mg F' G (W0 as r.2) (vs.map some) H' r.1 v->Q v H'
section
variable{K:W.Frag}{mg:ZV}{H F G:Hp}{p:P}{Z:L2.St}
theorem Gj{Z U:Type}{R:Z->U->Prop}:∀{xs:List Z} {ys:List U} {i:Nat} {x:Z},Paired R xs ys->xs[i]?=some x->∃y,ys[i]?=some y/\R x y
 | _,_,_,_,.nil,e=>by simp at e
 | _,_,0,_,.cons r _,e=>by simp at e;subst e;exact⟨_,rfl,r⟩
 | _,_,i+1,x,.cons _ t,e=>by
  obtain⟨u,h1,h2⟩:=Gj (i:=i) (x:=x) t (by simpa using e);exact⟨u,by simpa using h1,h2⟩
open Classical in
theorem Rel.call(r:Rel K mg F G p Z H){as:List A}{vs:ZQ}{sl:List Sl}(ha:Ars K mg F Z H as vs)(es:args p as=some sl){c:List Sl->Option (Sl×ZZ)}{rr:Sl×ZZ}(ec:c sl=some rr){p2:P}(eo:outs p as rr.2=some p2){n:Nat}(hn:vs.length=n){Q:VK}{E:XK}
  (q:∀F' H' v,Le F F'->Up K H H'->Rel K mg F' G p2 Z H'->Res K mg F' G p2 Z H' rr.1 v->Q v H'):fm K mg n c vs H Q E:=by
 have al:=Ds es;have vl:as.length=vs.length:=Paired.length ha
 let G':Hp:=λa=>if ∃(i:Nat) (t:T),p[i]?=some (Sl.o t)/\Z[i]?=some (some (V.ref a))/\A.s i∉as then H a else G a
 have gIn:∀{a:Addr} {i:Nat} {t:T},p[i]?=some (Sl.o t)->Z[i]?=some (some (V.ref a))->A.s i∉as->G' a=H a:=λ{a i t} h1 h2 h3=>if_pos ⟨i,t,h1,h2,h3⟩;have N5:∀{a:Addr},(¬ ∃(i:Nat) (t:T),p[i]?=some (Sl.o t)/\Z[i]?=some (some (V.ref a))/\A.s i∉as)->G' a=G a:=λ{a} h=>if_neg h
 have gOf:∀{a:Addr} {o:HO},G a=some o->G' a=some o:=λ{a o} h=>by
  refine(N5 λ⟨i,t,h1,h2,_⟩=>?_).trans h;obtain⟨b,h3,_,h4,_⟩:=r.ow i t h1;rw[h2]at h3;cases h3;rw[h]at h4;cases h4
 have gNo:∀{a:Addr},G' a=none->G a=none:=λ{a} h=>by
  cases e:G a with
  | none=>rfl
  | some o=>rw[gOf e]at h;cases h
 have arg:∀{j:Nat} {s:Sl},sl[j]?=some s->∃v,vs[j]?=some v/\((∃t,s=.f t/\as[j]?=some (.t t)/\IsT K mg H F t v)\/∃(i:Nat) (t:T),s=.o t/\as[j]?=some (.s i)/\p[i]?=some (Sl.o t)/\Z[i]?=some (some v)):=λ{j s} hs=>by
  have hj:j<as.length:=by rw[<-al];exact(W8.mp hs).1
  obtain⟨a,hae⟩:∃a,as[j]?=some a:=⟨_,Tc hj⟩;obtain⟨v,hv,hr⟩:=Gj ha hae;refine⟨v,hv,?_⟩;cases a with
  | t t =>
   have:=Il es hae;rw[hs]at this;cases this;exact .inl ⟨t,rfl,hae,hr⟩
  | s i =>
   obtain⟨t,h1,h2⟩:=Dr es hae;rw[hs]at h2;cases h2;exact .inr ⟨i,t,rfl,hae,h1,hr⟩
 have vsome:∀{j:Nat} {v:V},vs[j]?=some v->(vs.map some)[j]?=some (some v):=λ{j v} h=>by rw[Oj,h];rfl
 have r0:Rel K mg F G' sl (vs.map some) H:=by
  refine⟨⟨r.b.f,λa o e=>?_,λa e=>?_,λT e=>let ⟨f1,g1,t1⟩:=r.b.t T e;⟨f1,(N5 λ⟨i,t,h1,h2,_⟩=>by
   obtain⟨b,h3,_,_,h4⟩:=r.ow i t h1;rw[h2]at h3;cases h3;exact h4.ne t1 rfl).trans g1,t1⟩⟩,λj t e=>?_,λj t e=>?_,λj k t u a e1 e2 h1 h2=>?_,by rw[Vq,al,vl]⟩
  .by_cases h:∃(i:Nat) (t:T),p[i]?=some (Sl.o t)/\Z[i]?=some (some (V.ref a))/\A.s i∉as
   .obtain⟨i,t,h1,h2,h3⟩:=h;rw[gIn h1 h2 h3]at e;exact e
   .rw[N5 h]at e;exact r.b.g a o e
  .refine(N5 λ⟨i,t,h1,h2,_⟩=>?_).trans (r.b.d a e);obtain⟨b,h3,h4,_⟩:=r.ow i t h1;rw[h2]at h3;cases h3;exact e h4
  .obtain⟨v,hv,⟨t',et,_,it⟩ | ⟨i,t',et,_⟩⟩:=arg e
   .cases et;exact⟨v,vsome hv,it⟩
   .cases et
  .obtain⟨v,hv,⟨t',et,_,it⟩ | ⟨i,t',et,hj,hp,hσ⟩⟩:=arg e
   .cases et
   .cases et;obtain⟨a,h1,h2,h3,h4⟩:=r.ow i t hp;rw[hσ]at h1;cases h1;refine⟨a,vsome hv,h2,?_,h4⟩;refine(N5 λ⟨k,u,q1,q2,q3⟩=>?_).trans h3;have:=r.ap k i u t a q1 hp q2 hσ;subst this;exact q3 (List.mem_of_getElem? hj)
  .obtain⟨v,hv,⟨t',et,_,it⟩ | ⟨i,t',et,hj,hp,hσ⟩⟩:=arg e1
   .cases et
   obtain⟨v',hv',⟨t',et',_,it⟩ | ⟨i',t'',et',hj',K4,hσ'⟩⟩:=arg e2
   .cases et'
   rw[vsome hv]at h1;cases h1;rw[vsome hv']at h2;cases h2;have:=r.ap i i' t' t'' a hp K4 hσ hσ';subst this;exact J3 es hj hj'
 refine⟨hn,F,G',sl,rr,ec,r0,λF' H' v l u r' rs=>q F' H' v l u ?_ ?_⟩
 .obtain⟨o1,o2,o3,o4⟩:=C3 es eo
  have kept:∀{i:Nat} {t:T} {a:Addr},p[i]?=some (Sl.o t)->Z[i]?=some (some (V.ref a))->A.s i∉as->F' a=none/\W6 K mg H' F' a t:=λ{i t a} h1 h2 h3=>by
   obtain⟨b,h4,h5,h6,h7⟩:=r.ow i t h1;rw[h2]at h4;cases h4;obtain⟨o,ho⟩:=h7.some;have g1:G' a=some o:=(gIn h1 h2 h3).trans ho;refine⟨?_,h7.up u l ((r'.b.g a o g1).trans ho.symm)⟩;cases e:F' a with
   | none=>rfl
   | some x =>
    have:=r'.b.d a (by rw[e];exactλz=>nomatch z);rw[g1]at this;cases this
  have lent:∀{i:Nat} {t:T},p2[i]?=some (Sl.o t)->A.s i∈as->∃(a:Addr) (j:Nat),Z[i]?=some (some (V.ref a))/\as[j]?=some (A.s i)/\(W0 sl rr.2)[j]?=some (Sl.o t)/\(vs.map some)[j]?=some (some (V.ref a))/\G a=none:=λ{i t} h1 h2=>by
   obtain⟨j,hj⟩:=List.getElem?_of_mem h2;obtain⟨x,hx,_⟩:=Dr es hj;obtain⟨y,hy1,hy2⟩:=o3 j i hj (W8.mp hx).1 λk hk=>J3 es hk hj;rw[h1]at hy1;rw[<-D8 hy1]at hy2;obtain⟨v,hv,hσ⟩:=Gj ha hj;obtain⟨a,q1,q2,q3,q4⟩:=r.ow i x hx;rw[show Z[i]?=some (some v) from hσ]at q1;cases q1;exact⟨a,j,hσ,hj,hy2,vsome hv,q3⟩
  refine⟨⟨r'.b.f,λa o e=>r'.b.g a o (gOf e),λa e=>gNo (r'.b.d a e),λT e=>⟨(r'.b.t T e).f,(r.b.t T e).g,(r'.b.t T e).h⟩⟩,λi t e=>?_,λi t e=>?_,λi j t t' a e1 e2 h1 h2=>?_,by rw[o1];exact r.ln⟩
  .by_cases m:A.s i∈as
   .obtain⟨j,hj⟩:=List.getElem?_of_mem m;obtain⟨x,hx,_⟩:=Dr es hj;obtain⟨y,hy1,hy2⟩:=o3 j i hj (W8.mp hx).1 λk hk=>J3 es hk hj;rw[e]at hy1;exact absurd (D8 hy1).symm mkO_f
   .rw[o2 i m]at e;obtain⟨v,h1,h2⟩:=r.fz i t e;exact⟨v,h1,IsT.up u l t v h2⟩
  .by_cases m:A.s i∈as
   .obtain⟨a,j,h1,h2,h3,h4,h5⟩:=lent e m;obtain⟨b,q1,q2,q3,q4⟩:=r'.ow j t h3;rw[h4]at q1;cases q1;exact⟨a,h1,q2,h5,q4⟩
   .rw[o2 i m]at e;obtain⟨a,h1,h2,h3,h4⟩:=r.ow i t e;obtain⟨k1,k2⟩:=kept e h1 m;exact⟨a,h1,k1,h3,k2⟩
  .have own:∀{i:Nat} {t:T},p2[i]?=some (Sl.o t)->∃t',p[i]?=some (Sl.o t'):=λ{i t} h=>by
    by_cases m:A.s i∈as
    .obtain⟨j,hj⟩:=List.getElem?_of_mem m;obtain⟨x,hx,_⟩:=Dr es hj;exact⟨x,hx⟩
    .rw[o2 i m]at h;exact⟨t,h⟩
   obtain⟨x,hx⟩:=own e1;obtain⟨y,hy⟩:=own e2;exact r.ap i j x y a hx hy h1 h2
 .cases hr:rr.1 with
  | no=>rw[hr]at rs;exact rs
  | f t=>rw[hr]at rs;exact rs
  | o t =>
   rw[hr]at rs;obtain⟨a,rfl,h1,h2,h3,h4⟩:=rs;obtain⟨o1,o2,o3,o4⟩:=C3 es eo;refine⟨a,rfl,h1,gNo h2,h3,λi t e hσ=>?_⟩;by_cases m:A.s i∈as
   .obtain⟨j,hj⟩:=List.getElem?_of_mem m;obtain⟨x,hx,_⟩:=Dr es hj;obtain⟨y,hy1,hy2⟩:=o3 j i hj (W8.mp hx).1 λk hk=>J3 es hk hj;obtain⟨v,hv,hs⟩:=Gj ha hj;rw[show Z[i]?=some (some v) from hs]at hσ;cases hσ;rw[e]at hy1;rw[<-D8 hy1]at hy2;exact h4 j t hy2 (vsome hv)
   .rw[o2 i m]at e;obtain⟨b,q1,q2,q3,q4⟩:=r.ow i t e;rw[hσ]at q1;cases q1;obtain⟨o,ho⟩:=q4.some;rw[gIn e hσ m,ho]at h2;cases h2
end
theorem PE.imp{X:Cx}{e:Expr}{t t':TE}(h:PE X e t)(f:∀Z H Q,t' Z H Q->t Z H Q):PE X e t':=λXB s Z H Q I q=>h XB s Z H Q I (f Z H Q q)
inductive LE_I(K:PySem.W.Frag)(mg:ZV)(w:W)(e:E)(Z:L2.St)(H:Hp)(Q:VK):Prop
 | mk(F G p r p')(Vd:Rel K mg F G p Z H)(Vm:ev w e p=some (r,p'))(U0:∀F' H' v,Le F F'->Up K H H'->Rel K mg F' G p' Z H'->Res K mg F' G p' Z H' r v->Q v H'):LE_I K mg w e Z H Q
def LE(K:PySem.W.Frag)(mg:ZV)(w:W)(e:E):TE:=λZ H Q=>LE_I K mg w e Z H Q
inductive LA_I(K:PySem.W.Frag)(mg:ZV)(w:W)(m:Bool)(e:E)(Z:L2.St)(H:Hp)(Q:(ZQ->Hp->Prop)):Prop
 | mk(F G p as p')(Vd:Rel K mg F G p Z H)(Vm:Gb w m e p=some (as,p'))(U0:∀F' H' vs,Le F F'->Up K H H'->Rel K mg F' G p' Z H'->Ars K mg F' Z H' as vs->Q vs H'):LA_I K mg w m e Z H Q
def LA(K:PySem.W.Frag)(mg:ZV)(w:W)(m:Bool)(e:E):TA:=λZ H Q=>LA_I K mg w m e Z H Q
inductive LH_I(K:PySem.W.Frag)(mg:ZV)(w:W)(m:Bool)(e:E)(Z:L2.St)(H:Hp)(Q:VK):Prop
 | mk(F G p a p')(Vd:Rel K mg F G p Z H)(Vm:S9 m e p (toT (ev w e p))=some (a,p'))(U0:∀F' H' v,Le F F'->Up K H H'->Rel K mg F' G p' Z H'->Ar K mg F' Z H' a v->Q v H'):LH_I K mg w m e Z H Q
def LH(K:PySem.W.Frag)(mg:ZV)(w:W)(m:Bool)(e:E):TE:=λZ H Q=>LH_I K mg w m e Z H Q
inductive LB_I(K:PySem.W.Frag)(mg:ZV)(w:W)(e:E)(Z:L2.St)(H:Hp)(Q:(Bool->Hp->Prop)):Prop
 | mk(F G p b p')(Vd:Rel K mg F G p Z H)(Vm:G2 (ev w e p)=some (b,p'))(U0:∀F' H',Le F F'->Up K H H'->Rel K mg F' G p' Z H'->Q b H'):LB_I K mg w e Z H Q
def LB(K:PySem.W.Frag)(mg:ZV)(w:W)(e:E):TT:=λZ H Q=>LB_I K mg w e Z H Q
def noStar:Expr->Bool
 | .Starred _ _=>false
 | _=>true
theorem Yk{e:Expr}{es:ZC}{env:Env}(h:noStar e=true):starEach (e::es) env=(false,eval e env)::starEach es env:=by
 cases e<;>first | rfl | cases h
theorem Vc:∀(es:ZC) (env:Env) (pos:Pos),(∀e∈es,noStar e=true)->(backTo pos (starEach es env)).any (·.1)=false
 | [],env,pos,h=>rfl
 | e::es,env,pos,h=>by
  rw[Yk (h e V4)];have:=Vc es env pos λe m=>h e (Uz _ m);show (false || (backTo pos (starEach es env)).any (·.1))=false;rw[this];rfl
inductive Hs(X:Cx)(w:W)(m:Bool):E->ZC->Prop
 | nil:Hs X w m .nil []
 | cons {a r:E} {x:Expr} {xs:ZC} (h:PE X x (LH X.K X.mg w m a)) (s:noStar x=true) (t:Hs X w m r xs):Hs X w m (.cons a r) (x::xs)
section
variable{X:Cx}{w:W}{m:Bool}
theorem Hs.star:∀{es:E} {xs:ZC},Hs X w m es xs->∀x∈xs,noStar x=true
 | _,_,.nil,x,h=>absurd h U2
 | _,_,.cons h s t,x,hx=>by
  rcases Y8.mp hx with rfl | hx
  .exact s
  .exact t.star x hx
theorem Z6{a r:E}{p:P}{as:List A}{p':P}(e:Gb w m (.cons a r) p=some (as,p')):∃a' p1 as',S9 m a p (toT (ev w a p))=some (a',p1)/\Gb w m r p1=some (as',p')/\as=a'::as':=by
 unfold Gb at e;cases e1:S9 m a p (toT (ev w a p)) with
 | none=>rw[e1]at e;cases e
 | some q =>
  rw[e1]at e;have e:(Gb w m r q.2).map (λs=>(q.1::s.1,s.2))=some (as,p'):=e;cases e2:Gb w m r q.2 with
  | none=>rw[e2]at e;cases e
  | some s=>rw[e2]at e;cases e;exact⟨q.1,q.2,s.1,rfl,e2,rfl⟩
theorem Hs.pa:∀{es:E} {xs:ZC},Hs X w m es xs->PA X xs (LA X.K X.mg w m es)
 | _,_,.nil=>λpos XB s Z H Q I h=>by
  obtain⟨F,G,p,as,p',rel,e,k⟩:=h;have e:some (([]:List A),p)=some (as,p'):=by cases m<;>exact e
  cases e;exact Bp pos XB s Z H Q I (k F H [] (Le.refl F) (Up.refl H) rel .nil)
 | .cons a r,_,.cons h s t=>λpos XB s' Z H Q I hq=>by
  obtain⟨F,G,p,as,p',rel,e,k⟩:=hq;obtain⟨a',p1,as',e1,e2,rfl⟩:=Z6 e;refine Gw h t.pa (Yk s) pos XB s' Z H Q I ⟨F,G,p,a',p1,rel,e1,λF1 H1 v l1 u1 r1 Dh=>⟨F1,G,p1,as',p',r1,e2,λF2 H2 vs l2 u2 r2 Wh=>?_⟩⟩;exact k F2 H2 _ (l1.trans l2) (u1.trans u2) r2 (.cons (Ar.up u2 l2 Dh) Wh)
theorem Vo{p:P}{as:List A}{p':P}(e:Gb w m .nil p=some (as,p')):as=[]/\p'=p:=by
 have e:some (([]:List A),p)=some (as,p'):=by cases m<;>exact e
 cases e;exact⟨rfl,rfl⟩
theorem Za{p:P}{a:A}{as:List A}{ts:ZZ}(e:looks p (a::as)=some ts):∃t r,look p a=some t/\looks p as=some r/\ts=t::r:=by
 unfold looks at e;cases e1:look p a with
 | none=>rw[e1]at e;cases e
 | some t =>
  rw[e1]at e;have e:(looks p as).map (t::·)=some ts:=e;cases e2:looks p as with
  | none=>rw[e2]at e;cases e
  | some r=>rw[e2]at e;cases e;exact⟨t,r,rfl,rfl,rfl⟩
variable{F G:Hp}{p:P}{Z:L2.St}{H:Hp}
theorem L7{a:E}{as:List A}{ts:ZZ}{p':P}(e:Gb w m (.cons a .nil) p=some (as,p'))(el:looks p' as=some ts)(rel:Rel X.K X.mg F G p Z H){R:V->Hp->Prop}
  (k:∀F' H' x t,ts=[t]->Le F F'->Up X.K H H'->Rel X.K X.mg F' G p' Z H'->Bb X.K X.mg H' F' t x->R x H'):LH X.K X.mg w m a Z H R:=by
 obtain⟨a',p1,as',e1,e2,rfl⟩:=Z6 e;obtain⟨rfl,rfl⟩:=Vo e2;obtain⟨t,r,l1,l2,rfl⟩:=Za el;cases l2;exact⟨F,G,p,a',_,rel,e1,λF1 H1 x wy u1 r1 Dh=>k F1 H1 x t rfl wy u1 r1 (r1.look l1 Dh)⟩
theorem L6{a b:E}{as:List A}{ts:ZZ}{p':P}(e:Gb w m (.cons a (.cons b .nil)) p=some (as,p'))(el:looks p' as=some ts)(rel:Rel X.K X.mg F G p Z H){R:V->V->Hp->Prop}
  (k:∀F' H' x y t u,ts=[t,u]->Le F F'->Up X.K H H'->Rel X.K X.mg F' G p' Z H'->Bb X.K X.mg H' F' t x->Bb X.K X.mg H' F' u y->R x y H'):LH X.K X.mg w m a Z H λx H1=>LH X.K X.mg w m b Z H1 λy H2=>R x y H2:=by
 obtain⟨a',p1,as',e1,e2,rfl⟩:=Z6 e;obtain⟨b',p2,as'',e3,e4,rfl⟩:=Z6 e2;obtain⟨rfl,rfl⟩:=Vo e4;obtain⟨t,r,l1,l2,rfl⟩:=Za el;obtain⟨u,r,l3,l4,rfl⟩:=Za l2;cases l4;exact⟨F,G,p,a',p1,rel,e1,λF1 H1 x wy u1 r1 Dh=>⟨F1,G,p1,b',_,r1,e3,λF2 H2 y K1 u2 r2 Wh=>k F2 H2 x y t u rfl (wy.trans K1) (u1.trans u2) r2 (r2.look l1 (Ar.up u2 K1 Dh)) (r2.look l3 Wh)⟩⟩
theorem readN{es:E}{as:List A}{ts:ZZ}{p':P}(e:Gb w m es p=some (as,p'))(el:looks p' as=some ts)(rel:Rel X.K X.mg F G p Z H){R:ZQ->Hp->Prop}
  (k:∀F' H' vs,Le F F'->Up X.K H H'->Rel X.K X.mg F' G p' Z H'->Paired (Bb X.K X.mg H' F') ts vs->R vs H'):LA X.K X.mg w m es Z H R :=
 ⟨F,G,p,as,p',rel,e,λF' H' vs l u r ar=>k F' H' vs l u r (r.looks el ar)⟩
end
theorem By{K:W.Frag}{mg:ZV}{F H:Hp}{Z:L2.St}{p:P}:∀{as:List A} {vs:ZQ} {ts:ZZ},(∀a∈as,∃t,a=.t t)->looks p as=some ts->Ars K mg F Z H as vs->Zj K mg H F ts vs
 | [],_,ts,_,e,.nil=>by cases e;rfl
 | a::as,_,ts,ha,e,.cons h t=>by
  obtain⟨u,r,l1,l2,rfl⟩:=Za e;obtain⟨u',rfl⟩:=ha a V4;cases l1;exact⟨_,_,rfl,h,By (λa m=>ha a (Uz _ m)) l2 t⟩
def opOf:Op->Operator
 | .add=>.Add
 | .sub=>.Sub
 | .mul=>.Mult
 | .fdiv=>.FloorDiv
 | .mod=>.Mod
 | .pow=>.Pow
noncomputable def Mg:Cm->CmpOp
 | .eq=>.Eq
 | .ne=>.NotEq
 | .lt=>.Lt
 | .le=>.LtE
 | .gt=>.Gt
 | .ge=>.GtE
 | .isin=>.In
 | .notin=>.NotIn
 | .is=>.Is
 | .isnt=>.IsNot
section
variable{K:W.Frag}{mg:ZV}{H F G:Hp}
theorem Ek{t:T}{v:V}(h:Bb K mg H F t v)(e:Je t=true):Ji v=true/\shV t=some v:=by
 cases t<;>first
  | (cases(show v=_ from h);exact⟨rfl,rfl⟩)
  | cases e
theorem see_is{t:T}{v:V}(h:Bb K mg H F t v)(e:shV t≠none):IsT K mg H F t v:=by
 cases t<;>first | exact h | exact absurd rfl e
theorem pe{a b:T}{x y:V}{r:Bool}(s1:IsT K mg H F a x)(s2:Bb K mg H F b y)(h:eqT a b=some r):Ji y=true/\((Ji x=true/\r=oj x y)\/(r=false/\∃ts,a=.tup ts)):=by
 unfold eqT at h
 split at h
 .cases(show x=_ from s1);cases(show y=_ from s2);cases h;exact⟨rfl,.inl ⟨rfl,(Bool.beq_eq_decide_eq _ _).symm⟩⟩
 .cases(show x=_ from s1);cases(show y=_ from s2);cases h;exact⟨rfl,.inl ⟨rfl,(Bool.beq_eq_decide_eq _ _).symm⟩⟩
 .split at h
  .rename_i fb
   obtain⟨fy,ey⟩:=Ek s2 fb;rw[ey]at h;refine⟨fy,?_⟩
   cases a<;>first
    | (cases(show x=_ from s1);cases h;exact .inl ⟨rfl,rfl⟩)
    | (cases h;exact .inr ⟨by cases y<;>rfl,_,rfl⟩)
    | cases h
  .cases h
theorem eq_sv{a b:T}{r:Bool}(h:eqT a b=some r):shV a≠none:=by
 intro z;unfold eqT at h
 split at h
 .cases z
 .cases z
 .rw[z]at h;split at h<;>cases h
theorem Pa{Z U:Type}{a:List Z}{b:List U}(h:a.length=b.length):a.isEmpty=b.isEmpty:=by
 cases a<;>cases b<;>first | rfl | cases h
theorem Zu.val(k:Key):∀{XM:ZX} {ks:List (Key×V)},Zu K mg H F XM ks->(∀t,Zb XM k=some t->∃v,G9 ks k=some v/\IsT K mg H F t v)/\(Zb XM k=none->G9 ks k=none)
 | [],ks,h=>by cases(show ks=[] from h);exact⟨(λt e=>by cases e),λ_=>rfl⟩
 | (k',t)::XM,ks,h=>by
  obtain⟨⟨k2,v⟩,r,rfl,⟨e,h1⟩,h2⟩:=h;obtain rfl:k2=k':=e;obtain⟨i1,i2⟩:=Zu.val k h2;unfold Zb;rw[List.find?_cons];by_cases q:k2=k
  .rw[Mz q,Jr (show (k2,v).1=k from q)];exact⟨λt' e=>by cases e;exact⟨v,rfl,h1⟩,λe=>nomatch e⟩
  .rw[Bf q,Js (show ¬ (k2,v).1=k from q)];exact⟨i1,i2⟩
theorem Nh{t:T}{k:Key}{v:V}(e:keyT t=some k)(h:Bb K mg H F t v):v=kV k:=by
 cases t with
 | int i=>cases e;exact h
 | str i=>cases e;exact h
 | _=>cases e
theorem Zj.ints:∀{ts:ZZ} {vs:ZQ} {zs:ZL},Zj K mg H F ts vs->Ja ts=some zs->vs=zs.map V.int
 | [],vs,zs,h,e=>by cases e;exact h
 | t::ts,vs,zs,h,e=>by
  obtain⟨v,r,rfl,q,w⟩:=h;cases t with
  | int i =>
   obtain⟨zs',e1,rfl⟩:=Yr.mp (show (Ja ts).map (i::·)=some zs from e);rw[Zj.ints w e1];cases(show v=.int i from q)
   rfl
  | _=>cases e
theorem Zj.strs:∀{ts:ZZ} {vs:ZQ} {zs:ZD},Zj K mg H F ts vs->Nf ts=some zs->vs=zs.map V.str
 | [],vs,zs,h,e=>by cases e;exact h
 | t::ts,vs,zs,h,e=>by
  obtain⟨v,r,rfl,q,w⟩:=h;cases t with
  | str i =>
   obtain⟨zs',e1,rfl⟩:=Yr.mp (show (Nf ts).map (i::·)=some zs from e);rw[Zj.strs w e1];cases(show v=.str i from q)
   rfl
  | _=>cases e
end
theorem le_not(i j:Int):decide (i<=j)=!decide (j<i):=by rw[<-decide_not];exact decide_eq_decide.mpr Int.not_lt.symm
section
variable{X:Cx}{XB:ZY}{Z:L2.St}{H F G:Hp}{s:Shared}{Q:VK}{x y:V}{v u:Value}{t t':T}
theorem Az{A:Around}{p:Addr}{XD:ZN}(ht:IsTup s.heap p XD)(hu:A.units<cLine)(fy:Ji y=true)(ry:RelV y u):SeqAt.RcAt A s (.ref p) u false/\SeqAt.RcNeAt A s (.ref p) u true/\SeqAt.EqAt A s (.ref p) u false:=by
 cases y with
 | non=>cases ry;exact⟨.tuple_none ht hu,.tuple_none ht hu,.tuple_none ht hu⟩
 | bl b=>cases ry;exact⟨.tuple_bool b ht hu,.tuple_bool b ht hu,.tuple_bool b ht hu⟩
 | int b=>obtain⟨t,rfl⟩:=ry;exact⟨.tuple_int b t ht hu,.tuple_int b t ht hu,.tuple_int b t ht hu⟩
 | str b=>obtain⟨t,rfl⟩:=ry;exact⟨.tuple_str b t ht hu,.tuple_str b t ht hu,.tuple_str b t ht hu⟩
 | _=>cases fy
theorem Zj9{r:Bool}(I:Inv X XB Z H s)(hu:X.A.units<cLine)(rx:RelV x v)(ry:RelV y u)(s1:Bb X.K X.mg H F t x)(s2:Bb X.K X.mg H F t' y)(h:eqT t t'=some r):SeqAt.RcAt X.A s v u r/\SeqAt.RcNeAt X.A s v u (!r):=by
 have s1:=see_is s1 (eq_sv h);obtain⟨fy,⟨fx,rfl⟩ | ⟨rfl,ts,rfl⟩⟩:=pe s1 s2 h
 .exact⟨rcEq_V rx ry fx fy,rcNe_V rx ry fx fy⟩
 .obtain⟨p,vs,rfl,sq,_⟩:=s1;cases rx;obtain⟨XD,_,tp,_⟩:=I.tuple sq;exact⟨(Az tp hu fy ry).1,(Az tp hu fy ry).2.1⟩
theorem ra{A:Around}(I:Inv X XB Z H s)(hu:A.units<cLine)(rx:RelV x v)(s1:Bb X.K X.mg H F t x)(ht:gn t=none):∀{ts:ZZ} {vs:ZQ} {us:ZM} {r:Bool},Zj X.K X.mg H F ts vs->Zd vs us->G1 t ts=some r->(∀u∈us,SeqAt.EqAt A s u v (eqU x u))/\us.any (eqU x)=r
 | [],vs,us,r,h,q,e=>by cases(show vs=[] from h);cases q;cases e;exact⟨λu m=>absurd m U2,rfl⟩
 | t1::ts,vs,us,r,h,q,e=>by
  obtain⟨y,w,rfl,h1,h2⟩:=h;cases q with | @cons _ u1 _ _ q1 q2 =>
  obtain⟨b,e1,e⟩:=ZO.mp (show (eqE t1 t).bind _=some r from e);unfold eqE at e1;rw[ht]at e1;obtain⟨r',e2,rfl⟩:=Yr.mp e;obtain⟨g1,g2⟩:=ra I hu rx s1 ht h2 q2 e2
  have key:SeqAt.EqAt A s u1 v (eqU x u1)/\eqU x u1=b:=by
   obtain⟨fx,⟨f1,rfl⟩ | ⟨rfl,Oc,rfl⟩⟩:=pe h1 s1 e1
   .rw[A4 q1 f1];exact⟨p6 q1 rx f1 fx,rfl⟩
   .obtain⟨p,vs',rfl,sq,_⟩:=h1;cases q1;obtain⟨XD,_,tp,_⟩:=I.tuple sq;exact⟨(Az tp hu fx rx).2.2,rfl⟩
  refine⟨λu m=>?_,by rw[List.any_cons,key.2,g2]⟩;rcases Y8.mp m with rfl | m
  .exact key.1
  .exact g1 u m
noncomputable def A3:ZM->ZQ->Bool
 | [],[]=>true
 | u::us,w::ws=>eqU w u&&A3 us ws
 | _,_=>false
theorem Zzp(e:Nat->Bool)(n m:Nat):((List.range (min (n+1) (m+1))).all e&&n+1==m+1)=(e 0&&((List.range (min n m)).all (λj=>e (j+1))&&n==m)):=by
 rw[show min (n+1) (m+1)=min n m+1 by omega,List.range_succ_eq_map,List.all_cons,List.all_map,Bool.and_assoc,show (n+1==m+1)=(n==m) by rw[Bool.eq_iff_iff];simp]
 rfl
theorem p5{A:Around}:∀{ts as:ZZ} {vs ws:ZQ} {us zs:ZM} {b:Bool},Zjx ts as=some b->Zj X.K X.mg H F ts vs->Zj X.K X.mg H F as ws->Zd vs us->Zd ws zs ->
  ∃e:Nat->Bool,(∀(j:Nat) (h1:j<us.length) (h2:j<zs.length),SeqAt.EqAt A s us[j] zs[j] (e j))/\((List.range (min us.length zs.length)).all e&&us.length==zs.length)=b/\A3 us ws=b
 | [],[],vs,ws,us,zs,b,h,a1,a2,r1,r2=>by
  cases(show vs=[] from a1);cases(show ws=[] from a2);cases r1;cases r2;cases h;exact⟨λ_=>true,λj h1=>absurd h1 (Nat.not_lt_zero j),rfl,rfl⟩
 | [],c::cs,vs,ws,us,zs,b,h,a1,a2,r1,r2=>by
  cases(show vs=[] from a1);obtain⟨y,w,rfl,_⟩:=a2;cases r1;cases r2;have h:(if Je c=true then some false else none)=some b:=h
  split at h<;>cases h
  exact⟨λ_=>true,λj h1=>absurd h1 (Nat.not_lt_zero j),rfl,rfl⟩
 | c::cs,[],vs,ws,us,zs,b,h,a1,a2,r1,r2=>by
  cases(show ws=[] from a2);obtain⟨y,w,rfl,_⟩:=a1;cases r1;cases r2;have h:(if Je c=true then some false else none)=some b:=h
  split at h<;>cases h
  exact⟨λ_=>true,λj _ h2=>absurd h2 (Nat.not_lt_zero j),rfl,rfl⟩
 | c::cs,d::ds,vs,ws,us,zs,b,h,a1,a2,r1,r2=>by
  obtain⟨x1,vr,rfl,i1,a1⟩:=a1;obtain⟨y1,wr,rfl,i2,a2⟩:=a2;cases r1 with | @cons _ u _ us q1 r1 =>
  cases r2 with | @cons _ z _ zs q2 r2 =>
  have h:(if Je c=true then (eqT c d).bind λx=>(Zjx cs ds).map (x && ·) else none)=some b:=h
  split at h
  rotate_left
  .cases h
  rename_i fc
  obtain⟨x,e1,h⟩:=ZO.mp h;obtain⟨b',e2,rfl⟩:=Yr.mp h;obtain⟨e,g1,g2,g3⟩:=p5 (A:=A) e2 a1 a2 r1 r2
  have fd:Je d=true:=by
   unfold eqT at e1
   split at e1
   .rfl
   .rfl
   .split at e1
    .assumption
    .cases e1
  have s2:Bb X.K X.mg H F d y1:=by cases d<;>first | exact i2 | cases fd
  obtain⟨fy,⟨fx,ex⟩ | ⟨_,_,z1⟩⟩:=pe i1 s2 e1
  .refine⟨λj=>match j with | 0=>x | j+1=>e j,λj h1 h2=>?_,?_,?_⟩
   .cases j with
    | zero=>show SeqAt.EqAt A s u z x;rw[ex];exact p6 q1 q2 fx fy
    | succ j=>exact g1 j (Nat.lt_of_succ_lt_succ h1) (Nat.lt_of_succ_lt_succ h2)
   .show ((List.range (min (us.length+1) (zs.length+1))).all _&&us.length+1==zs.length+1)=_;rw[Zzp, <-g2]
   .show (eqU y1 u&&A3 us wr)=_;rw[A4 q1 fx,g3,ex]
  .rw[z1]at fc;cases fc
theorem Ft:∀{ws:ZQ} {us:ZM},Zd ws us->ws.all Ji=true->A3 us ws=true
 | _,_,.nil,_=>rfl
 | w::ws,u::us,.cons r t,f=>by
  rw[List.all_cons,Vl]at f;show (eqU w u&&A3 us ws)=true;rw[A4 r f.1,Ft t f.2,Bool.and_true];cases w<;>first | rfl | exact B0s _ | cases f.1
theorem Fb:∀{ts:ZZ} {vs:ZQ},Zj X.K X.mg H F ts vs->ts.all Je=true->vs.all Ji=true
 | [],vs,h,_=>by cases(show vs=[] from h);rfl
 | t::ts,vs,h,e=>by
  obtain⟨v,r,rfl,h1,h2⟩:=h;rw[List.all_cons,Vl]at e;rw[List.all_cons,Fb h2 e.2,Bool.and_true];exact(Ek (by cases t<;>first | exact h1 | cases e.1) e.1).1
noncomputable def eqW(h:Heap)(ws:ZQ)(u:Value):Bool:=match u with
 | .ref p=>(match h.get? p with
  | some o=>(match o.data with
   | .seq XD _=>A3 XD.toList ws
   | _=>false)
  | none=>false)
 | _=>false
theorem z8{A:Around}{q:Addr}{as:ZZ}{ws:ZQ}{zs:ZM}(I:Inv X XB Z H s)(hu:A.units<cLine)(aw:Zj X.K X.mg H F as ws)(fw:as.all Je=true)(rz:Zd ws zs)(tq:IsTup s.heap q zs.toArray):∀{ts:ZZ} {vs:ZQ} {us:ZM} {r:Bool},Zj X.K X.mg H F ts vs->Zd vs us->G1 (.tup as) ts=some r->(∀u∈us,SeqAt.EqAt A s u (.ref q) (eqW s.heap ws u))/\us.any (eqW s.heap ws)=r
 | [],vs,us,r,h,q,e=>by cases(show vs=[] from h);cases q;cases e;exact⟨λu m=>absurd m U2,rfl⟩
 | t1::ts,vs,us,r,h,qq,e=>by
  obtain⟨y,w,rfl,h1,h2⟩:=h;cases qq with | @cons _ u1 _ _ q1 q2 =>
  obtain⟨b,e1,e⟩:=ZO.mp (show (eqE t1 (.tup as)).bind _=some r from e);obtain⟨r',e2,rfl⟩:=Yr.mp e;obtain⟨g1,g2⟩:=z8 I hu aw fw rz tq h2 q2 e2
  have key:SeqAt.EqAt A s u1 (.ref q) (eqW s.heap ws u1)/\eqW s.heap ws u1=b:=by
   obtain⟨Oc,e3,e4⟩:=ZO.mp (show (gn t1).bind _=some b from e1);cases t1 with
   | tup ts'' =>
    cases e3;obtain⟨p,vs',rfl,sq,_,ar⟩:=h1;cases q1;obtain⟨XD,rv,tp,_⟩:=I.tuple sq;obtain⟨ev,k1,k2,k3⟩:=p5 (A:=A.in1) (s:=s) e4 ar aw rv rz
    have ew:eqW s.heap ws (.ref p)=b:=by
     obtain⟨o,o1,_,n,o3⟩:=id tp;show (match s.heap.get? p with | some o=>_ | none=>false)=b;rw[o1];show (match o.data with | .seq XD _=>A3 XD.toList ws | _=>false)=b;rw[o3];exact k3
    rw[ew];refine⟨?_,rfl⟩;by_cases z:p=q
    .subst z
     have ez:XD=zs:=by
      obtain⟨o,o1,_,n,o3⟩:=tp;obtain⟨o',o1',_,n',o3'⟩:=tq;rw[o1]at o1';cases o1';rw[o3]at o3';cases o3';rfl
     subst ez;rw[<-k3,Ft rz (Fb aw fw)];exact SeqAt.EqAt.same _
    .have:=SeqAt.RcAt.tuples (A:=A) (e:=ev) (show s.heap.IsTuple p XD.toArray from tp) (show s.heap.IsTuple q zs.toArray from tq) hu (λj h1 h2=>k1 j (by simpa using h1) (by simpa using h2));rw[Ul,Ul,k2]at this;exact SeqAt.EqAt.of_refs z this
   | _=>cases e3
  refine⟨λu m=>?_,by rw[List.any_cons,key.2,g2]⟩;rcases Y8.mp m with rfl | m
  .exact key.1
  .exact g1 u m
theorem r8{ts:ZZ}{vs:ZQ}{p:Addr}{b:Bool}(I:Inv X XB Z H s)(un:X.A.units+150<cLine)(rx:RelV x v)(s1:Bb X.K X.mg H F t x)(ar:Zj X.K X.mg H F ts vs)(hq:Uq X.K H p vs\/Vn X.K H p vs)(e:inF t ts=some b) :
  (Q (.bl b) H->wpAny (model X.prog X.w) X.A (compareOp .In v (.ref p)) (EP X XB Z Q) X.xe s)/\(Q (.bl (!b)) H->wpAny (model X.prog X.w) X.A (compareOp .NotIn v (.ref p)) (EP X XB Z Q) X.xe s):=by
 have h1:X.A.in1.units<cLine:=by show X.A.units+1<cLine;omega
 have go:∀{us:ZM},Zd vs us->∃f:Value->Bool,(∀u∈us,SeqAt.EqAt X.A.in1 s u v (f u))/\us.any f=b:=λ{us} r=>by
  unfold inF at e;cases ht:gn t with
  | none =>
   split at e
   .exact⟨_,ra I h1 rx s1 ht ar r e⟩
   .cases e
  | some as =>
   split at e
   .rename_i hf
    cases t with
    | tup as' =>
     cases ht;obtain⟨q,ws,rfl,sq,_,aw⟩:=s1;cases rx;obtain⟨zs,rz,tq,_⟩:=I.tuple sq;exact⟨_,z8 I h1 aw hf rz tq ar r e⟩
    | _=>cases ht
   .cases e
 rcases hq with hq | hq
 .obtain⟨XD,r,pl,_⟩:=I.list hq;obtain⟨f,g1,rfl⟩:=go r;exact⟨λq=>SeqAt.in_listAt _ pl.isList (λy m=>g1 y (by simpa using m)) ⟨.bl _,H,I,rfl,by rw[List.any_toArray];exact q⟩,λq=>SeqAt.notIn_listAt _ pl.isList (λy m=>g1 y (by simpa using m)) ⟨.bl _,H,I,rfl,by rw[List.any_toArray];exact q⟩⟩
 .obtain⟨XD,r,pl,_⟩:=I.tuple hq;obtain⟨f,g1,rfl⟩:=go r;exact⟨λq=>SeqAt.in_tupleAt _ pl (λy m=>g1 y (by simpa using m)) ⟨.bl _,H,I,rfl,by rw[List.any_toArray];exact q⟩,λq=>SeqAt.notIn_tupleAt _ pl (λy m=>g1 y (by simpa using m)) ⟨.bl _,H,I,rfl,by rw[List.any_toArray];exact q⟩⟩
theorem eq_nil{ts:ZZ}(I:Inv X XB Z H s)(un:X.A.units+150<cLine)(rx:RelV x v)(ry:RelV y u)(s1:Bb X.K X.mg H F (.tup ts) x)(s2:Bb X.K X.mg H F (.tup []) y) :
  (Q (.bl ts.isEmpty) H->wpAny (model X.prog X.w) X.A (compareOp .Eq v u) (EP X XB Z Q) X.xe s)/\(Q (.bl (!ts.isEmpty)) H->wpAny (model X.prog X.w) X.A (compareOp .NotEq v u) (EP X XB Z Q) X.xe s):=by
 obtain⟨a,vs,rfl,q1,_,a1⟩:=s1;obtain⟨b,ws,rfl,q2,_,a2⟩:=s2;cases(show ws=[] from a2);cases rx;cases ry;obtain⟨i1,r1,p1,_⟩:=I.tuple q1;obtain⟨i2,r2,p2,_⟩:=I.tuple q2;have e2:i2=[]:=by cases r2;rfl
 subst e2
 have ev:((List.range (min i1.toArray.size ([]:ZM).toArray.size)).all (λ_=>true)&&i1.toArray.size==([]:ZM).toArray.size)=ts.isEmpty:=by
  have l1:=a1.length;have l2:=r1.length;have l3:ts.length=i1.length:=l1.trans l2;cases ts with
  | nil=>cases i1 with
   | nil=>rfl
   | cons _ _=>simp at l3
  | cons _ _=>cases i1 with
   | nil=>simp at l3
   | cons _ _=>simp
 have hu:X.A.units<cLine:=XS
 exact⟨λq=>SeqAt.eq_tupleAt (e:=λ_=>true) p1 p2 hu (λj h1 h2=>absurd h2 XA) ⟨.bl _,H,I,rfl,by rw[ev];exact q⟩,
  λq=>SeqAt.RcNeAt.tuples (e:=λ_=>true) p1 p2 hu (λj h1 h2=>absurd h2 XA) X.prog X.w X.xe _ ⟨.bl _,H,I,rfl,by rw[ev];exact q⟩⟩
theorem Tz{b:Bool}(c:Cm)(I:Inv X XB Z H s)(fh:∀a o,F a=some o->H a=some o)(un:X.A.units+150<cLine)(rx:RelV x v)(ry:RelV y u)(s1:Bb X.K X.mg H F t x)(s2:Bb X.K X.mg H F t' y)(e:B9 c t t'=some b)(q:Q (.bl b) H) :
  wpAny (model X.prog X.w) X.A (compareOp (Mg c) v u) (EP X XB Z Q) X.xe s:=by
 have pIn:∀{b:Bool},r9 t t'=some b->(Q (.bl b) H->wpAny (model X.prog X.w) X.A (compareOp .In v u) (EP X XB Z Q) X.xe s)/\(Q (.bl (!b)) H->wpAny (model X.prog X.w) X.A (compareOp .NotIn v u) (EP X XB Z Q) X.xe s):=λ{b} e=>by
  unfold r9 at e
  split at e
  .obtain⟨a,vs,rfl,q1,z,ar⟩:=s2;cases ry;exact r8 I un rx s1 ar (.inl (.inl q1)) e
  .obtain⟨a,vs,rfl,q1,z,ar⟩:=s2;cases ry;exact r8 I un rx s1 ar (.inr q1) e
  .rename_i XM _
   obtain⟨a,ks,rfl,q1,z,ar⟩:=s2;obtain⟨k,e1,rfl⟩:=Yr.mp e;cases Nh e1 s1;cases ry;have hu:X.A.units+1<cLine:=XS
   have g:Nq H a (kV k) (G9 ks k):=.inl ⟨ks,k,q1,rfl,rfl⟩;obtain⟨i1,i2⟩:=Zu.val k ar
   have es:(G9 ks k).isSome=(Zb XM k).isSome:=by
    cases e2:Zb XM k with
    | none=>rw[i2 e2];rfl
    | some t=>obtain⟨v,h1,_⟩:=i1 t e2;rw[h1];rfl
   exact⟨λq=>d_in hu I g rx λs' I'=>⟨.bl _,H,I',rfl,by rw[es];exact q⟩,λq=>Zjj hu I g rx λs' I'=>⟨.bl _,H,I',rfl,by rw[es];exact q⟩⟩
  .unfold Zwb at e
   split at e
   .cases e;cases(show x=_ from s1);cases(show y=_ from s2);exact⟨λq=>j5 XB s Z H _ _ v u Q I rx ry ⟨_,_,rfl,rfl,q⟩,λq=>Qo XB s Z H _ _ v u Q I rx ry ⟨_,_,rfl,rfl,q⟩⟩
   .cases e
  .cases e
 have pIs:∀{b:Bool},isT t t'=some b->(Q (.bl b) H->wpAny (model X.prog X.w) X.A (compareOp .Is v u) (EP X XB Z Q) X.xe s)/\(Q (.bl (!b)) H->wpAny (model X.prog X.w) X.A (compareOp .IsNot v u) (EP X XB Z Q) X.xe s):=λ{b} e=>by
  unfold isT at e
  split at e
  .cases e;cases(show x=_ from s1);cases(show y=_ from s2);exact⟨λq=>n5 XB s Z H _ _ v u Q I rx ry ⟨rfl,q⟩,λq=>zv XB s Z H _ _ v u Q I rx ry ⟨rfl,q⟩⟩
  .rename_i n1 n2
   cases e;cases(show y=_ from s2)
   have ne:x≠.non:=λz=>by
    subst z;cases t with
    | non=>first | exact n1 rfl | exact n2 rfl
    | tup _=>obtain⟨_,_,z,_⟩:=s1;cases z
    | lst _=>obtain⟨_,_,z,_⟩:=s1;cases z
    | dct _=>obtain⟨_,_,z,_⟩:=s1;cases z
    | fn _=>obtain⟨_,z,_⟩:=s1;cases z
    | _=>cases(show V.non=_ from s1)
   exact⟨λq=>n5 XB s Z H _ _ v u Q I rx ry ⟨rfl,by rw[Bf ne];exact q⟩,λq=>zv XB s Z H _ _ v u Q I rx ry ⟨rfl,by rw[Bf ne];exact q⟩⟩
  .cases e
 cases c with
 | eq =>
  have e:eqL t t'=some b:=e;unfold eqL at e
  split at e
  .cases e;obtain⟨a,vs,rfl,q1,_,a1⟩:=s1;obtain⟨c,ws,rfl,q2,_,a2⟩:=s2;cases(show ws=[] from a2);refine n6 XB s Z H _ _ v u Q I rx ry ⟨a,c,vs,rfl,rfl,.inl q1,.inl q2,by omega,?_⟩;rw[<-Pa a1.length];exact q
  .unfold eqC at e
   split at e
   .cases e;exact(eq_nil I un rx ry s1 s2).1 q
   .exact(Zj9 I XS rx ry s1 s2 e).1 X.prog X.w X.xe _ ⟨.bl _,H,I,rfl,q⟩
 | ne =>
  have e:(eqL t t').map not=some b:=e;obtain⟨r,e1,rfl⟩:=Yr.mp e
  clear e
  unfold eqL at e1
  split at e1
  .cases e1;obtain⟨a,vs,rfl,q1,_,a1⟩:=s1;obtain⟨c,ws,rfl,q2,_,a2⟩:=s2;cases(show ws=[] from a2);refine n4 XB s Z H _ _ v u Q I rx ry ⟨a,c,vs,rfl,rfl,.inl q1,.inl q2,by omega,?_⟩;rw[<-Pa a1.length];exact q
  .unfold eqC at e1
   split at e1
   .cases e1;exact(eq_nil I un rx ry s1 s2).2 q
   .exact(Zj9 I XS rx ry s1 s2 e1).2 X.prog X.w X.xe _ ⟨.bl _,H,I,rfl,q⟩
 | lt =>
  have e:ltT t t'=some b:=e;unfold ltT at e
  split at e
  .cases e;cases(show x=_ from s1);cases(show y=_ from s2);exact op_lt XB s Z H _ _ v u Q I rx ry ⟨_,_,rfl,rfl,q⟩
  .cases e
 | gt =>
  have e:ltT t' t=some b:=e;unfold ltT at e
  split at e
  .cases e;cases(show x=_ from s1);cases(show y=_ from s2);exact op_gt XB s Z H _ _ v u Q I rx ry ⟨_,_,rfl,rfl,q⟩
  .cases e
 | le =>
  have e:(ltT t' t).map not=some b:=e;obtain⟨b',e2,rfl⟩:=Yr.mp e
  clear e
  unfold ltT at e2
  split at e2
  .cases e2;cases(show x=_ from s1);cases(show y=_ from s2);refine op_le XB s Z H _ _ v u Q I rx ry ⟨_,_,rfl,rfl,?_⟩;exact(le_not _ _).symm ▸ q
  .cases e2
 | ge =>
  have e:geT t t'=some b:=e;unfold geT at e
  split at e
  .cases e;cases(show x=_ from s1);cases(show y=_ from s2);exact op_ge XB s Z H _ _ v u Q I rx ry ⟨_,_,rfl,rfl,q⟩
  .cases e
 | isin=>exact(pIn e).1 q
 | notin =>
  have e:(r9 t t').map not=some b:=e;obtain⟨b',e2,rfl⟩:=Yr.mp e;exact(pIn e2).2 q
 | is=>exact(pIs e).1 q
 | isnt =>
  have e:(isT t t').map not=some b:=e;obtain⟨b',e2,rfl⟩:=Yr.mp e;exact(pIs e2).2 q
end
section
variable{X:Cx}{XB:ZY}{Z:L2.St}{H F₀ G:Hp}{s:Shared}{Q:VK}{x y:V}{v u:Value}{t t':T}{p:P}
theorem lstR{l:Addr}{xs:ZQ}(I:Inv X XB Z H s)(r:Rd H l (.lst xs)):xs.length<=sizeLine/\∃(XD:ZM) (n:Nat),Zd xs XD/\xs.length=XD.length/\s.heap.get? l=some { cls:=.type "list",data:=.seq XD.toArray n }:=by
 obtain⟨z,XD,n,r,e⟩:=r.ok I.hok;exact⟨z,XD,n,r,r.length,e⟩
theorem Zxa{l b:Addr}{xs zs:ZQ}(I:Inv X XB Z H s)(hH:Rd H l (.lst xs))(hB:Rd H b (.lst zs))(hz:xs.length+zs.length<=sizeLine)(q:∀p,H p=none->Q (.ref p) (upd H p (.lst (xs++zs)))) :
  wpAny (model X.prog X.w) X.A (binaryOp .Add (.ref l) (.ref b)) (EP X XB Z Q) X.xe s:=by
 obtain⟨z,XD,n,r,hl,e⟩:=lstR I hH;obtain⟨z2,So,n2,r2,hl2,e2⟩:=lstR I hB;refine PySem.P.add_list e e2 ?_ (by rw[Ul,Ul];omega);have ea:XD.toArray++So.toArray=(XD++So).toArray:=by simp
 rw[ea];exact⟨.ref _,_,I.lnew (t':=s.toks) (r.append r2) (by rw[W7];omega),rfl,q _ I.fresh⟩
theorem ni{i:Str}{n:Int}{w w':Tok}(I:Inv X XB Z H s)(n0:0<=n)(n1:n<=1000)(i1:i.length<=1000)(q:Q (.str (repS i n.toNat)) H):wpAny (model X.prog X.w) X.A (binaryOp .Mult (.str i w) (.int n w')) (EP X XB Z Q) X.xe s:=by
 by_cases c1:n<1
 .have:n=0:=XS
  subst this;refine PySem.P.mul_str_none XU XU ⟨.str Str.empty,H,I.tok _,⟨_,rfl⟩,?_⟩;exact q
 by_cases c2:(n==1 || i.length==0)=true
 .have e:repS i n.toNat=i:=by
   rw[Bool.or_eq_true,beq_iff_eq,beq_iff_eq]at c2
   have:(repS i n.toNat).cps.toList=i.cps.toList:=by
    rw[Mu];rcases c2 with rfl | c2
    .simp
    .have:i.cps.toList=[]:=by
      have:i.cps.size=0:=c2;exact List.eq_nil_of_length_eq_zero (by simpa using this)
     rw[this];simp
   cases i;cases hr:repS _ n.toNat;rw[hr]at this;simp at this;simp[this]
  rw[e]at q;refine PySem.P.mul_str ?_ (λ_ z=>?_) (λ_ z=>?_) ?_
  .rw[Bool.or_eq_false_iff];exact⟨Bf XS,Bf XS⟩
  .rw[c2]at z;cases z
  .rw[c2]at z;cases z
  .rw[if_neg c1,if_pos c2];exact⟨.str i,H,I,⟨_,rfl⟩,q⟩
 .rw[Bool.or_eq_true,beq_iff_eq,beq_iff_eq]at c2;exact Zxh XB s Z H (.str i) (.int n) _ _ Q I ⟨w,rfl⟩ ⟨w',rfl⟩ ⟨i,n,rfl,rfl,by omega,n1,λz=>c2 (.inr z),i1,q⟩
def Fin(X:Cx)(F G:Hp)(p:P)(Z:L2.St)(H:Hp)(r:Sl)(Q:VK):Prop:=∀F' H' v,Le F F'->Up X.K H H'->Rel X.K X.mg F' G p Z H'->Res X.K X.mg F' G p Z H' r v->Q v H'
theorem Fin.f{r:T}(k:Fin X F G p Z H (.f r) Q)(rel:Rel X.K X.mg F G p Z H){H':Hp}{v:V}(s:Zp H H')(h:IsT X.K X.mg H' F r v):Q v H':=k F H' v (Le.refl F) s.up (rel.same s) h
theorem Fin.h{r:T}(k:Fin X F G p Z H (.f r) Q)(rel:Rel X.K X.mg F G p Z H){v:V}(h:IsT X.K X.mg H F r v):Q v H:=k.f rel (Zp.refl H) h
theorem Fin.l{ts:ZZ}(k:Fin X F G p Z H (.o (.lst ts)) Q)(rel:Rel X.K X.mg F G p Z H){l:Addr}{vs:ZQ}(hl:H l=none)(z:vs.length<=sizeLine)(h:Zj X.K X.mg H F ts vs):Q (.ref l) (upd H l (.lst vs)) :=
 let ⟨a,b⟩:=rel.newL hl z h
 k F _ _ (Le.refl F) (Zp.lay hl).up a b
theorem R7{f:Int->Int->Option Sl}{t t':T}{r:Sl}(e:Zqr f t t'=some r):∃a b,t=.int a/\t'=.int b/\f a b=some r:=by
 cases t with
 | int a=>cases t' with
  | int b=>exact⟨a,b,rfl,rfl,e⟩
  | _=>cases e
 | _=>cases e
theorem Dv{c:Prop}[Decidable c]{x r:Sl}(e:(if c then some x else none)=some r):c/\x=r:=by
 by_cases h:c
 .rw[if_pos h]at e;exact⟨h,D8 e⟩
 .rw[if_neg h]at e;cases e
theorem op_run{r:Sl}{σ':L2.St}(o:Op)(I:Inv X XB σ' H s)(rel:Rel X.K X.mg F G p Z H)(rx:RelV x v)(ry:RelV y u)(s1:Bb X.K X.mg H F t x)(s2:Bb X.K X.mg H F t' y)(e:opT o t t'=some r)(q:Fin X F G p Z H r Q) :
  wpAny (model X.prog X.w) X.A (binaryOp (opOf o) v u) (EP X XB σ' Q) X.xe s:=by
 cases o with
 | add=>cases t with
  | int a=>cases t' with
   | int b =>
    cases e;cases(show x=_ from s1);cases(show y=_ from s2);exact op_add XB s σ' H _ _ v u Q I rx ry ⟨_,_,rfl,rfl,q.h rel rfl⟩
   | _=>cases e
  | str a=>cases t' with
   | str b =>
    obtain⟨hz,rfl⟩:=Dv e;cases(show x=_ from s1);cases(show y=_ from s2);exact Af XB s σ' H _ _ v u Q I rx ry ⟨_,_,rfl,rfl,hz,q.h rel rfl⟩
   | _=>cases e
  | lst a=>cases t' with
   | lst b =>
    obtain⟨hz,rfl⟩:=Dv e;obtain⟨a,vs,rfl,h1,z1,Dh⟩:=s1;obtain⟨b,us,rfl,h2,z2,Wh⟩:=s2;cases rx;cases ry;have l1:=Dh.length;have l2:=Wh.length;exact Zxa I h1 h2 XS λl hl=>q.l rel hl (by rw[W7];omega) (Dh.append Wh)
   | _=>cases e
  | tup a=>cases t' with
   | tup b =>
    obtain⟨hz,rfl⟩:=Dv e;obtain⟨a,vs,rfl,h1,z1,Dh⟩:=s1;obtain⟨b,us,rfl,h2,z2,Wh⟩:=s2;have l1:=Dh.length;have l2:=Wh.length;exact Zxo XB s σ' H _ _ v u Q I rx ry ⟨a,b,vs,us,rfl,rfl,h1,h2,by omega,λl H' sm hq=>q.f rel sm ⟨l,_,rfl,hq,by rw[W7];omega,(Zj.up sm.up (Le.refl F) _ _ Dh).append (Zj.up sm.up (Le.refl F) _ _ Wh)⟩⟩
   | _=>cases e
  | bl a=>cases t' with
   | int b =>
    cases e;cases(show x=_ from s1);cases(show y=_ from s2);exact TNM.j6 XB s σ' H _ _ v u Q I rx ry ⟨_,_,rfl,rfl,q.h rel rfl⟩
   | _=>cases e
  | _=>cases e
 | sub=>cases e
 | mul=>cases t with
  | int a=>cases t' with
   | int b =>
    obtain⟨hz,rfl⟩:=Dv e;cases(show x=_ from s1);cases(show y=_ from s2);exact op_mul XB s σ' H _ _ v u Q I rx ry ⟨_,_,rfl,rfl,hz,q.h rel rfl⟩
   | _=>cases e
  | str a=>cases t' with
   | int b =>
    obtain⟨hz,rfl⟩:=Dv e;cases(show x=_ from s1);cases(show y=_ from s2);obtain⟨_,rfl⟩:=rx;obtain⟨_,rfl⟩:=ry;exact ni I hz.1 hz.2.1 hz.2.2 (q.h rel rfl)
   | _=>cases e
  | _=>cases e
 | fdiv =>
  obtain⟨a,b,rfl,rfl,e⟩:=R7 e;obtain⟨hz,rfl⟩:=Dv e;cases(show x=_ from s1);cases(show y=_ from s2);exact Zxp XB s σ' H _ _ v u Q I rx ry ⟨_,_,rfl,rfl,hz,q.h rel rfl⟩
 | mod =>
  obtain⟨a,b,rfl,rfl,e⟩:=R7 e;obtain⟨hz,rfl⟩:=Dv e;cases(show x=_ from s1);cases(show y=_ from s2);exact op_mod XB s σ' H _ _ v u Q I rx ry ⟨_,_,rfl,rfl,hz,q.h rel rfl⟩
 | pow =>
  obtain⟨a,b,rfl,rfl,e⟩:=R7 e;obtain⟨hz,rfl⟩:=Dv e;cases(show x=_ from s1);cases(show y=_ from s2);exact op_pow XB s σ' H _ _ v u Q I rx ry ⟨_,_,rfl,rfl,hz,q.h rel rfl⟩
end
section
variable{K:W.Frag}{mg:ZV}{H F G:Hp}
theorem Zu.map{k:Key}{t:T}{v:V}(h:IsT K mg H F t v):∀{XM:ZX} {ks:List (Key×V)},Zu K mg H F XM ks->Zu K mg H F (XM.map λp=>if p.1=k then (p.1,t) else p) (ks.map λp=>if p.1=k then (p.1,v) else p)
 | [],ks,a=>by cases(show ks=[] from a);rfl
 | (k',t')::XM,ks,a=>by
  obtain⟨⟨k2,v'⟩,r,rfl,⟨e,h1⟩,h2⟩:=a;obtain rfl:k2=k':=e;rw[C9,C9];refine⟨_,_,rfl,?_,Zu.map h h2⟩;by_cases q:k2=k
  .rw[if_pos (show (k2,t').1=k from q),if_pos (show (k2,v').1=k from q)];exact⟨rfl,h⟩
  .rw[if_neg (show ¬ (k2,t').1=k from q),if_neg (show ¬ (k2,v').1=k from q)];exact⟨rfl,h1⟩
theorem Zu.any{k:Key}:∀{XM:ZX} {ks:List (Key×V)},Zu K mg H F XM ks->(XM.any λp=>decide (p.1=k))=ks.any λp=>decide (p.1=k)
 | [],ks,a=>by cases(show ks=[] from a);rfl
 | (k',t')::XM,ks,a=>by
  obtain⟨⟨k2,v'⟩,r,rfl,⟨e,h1⟩,h2⟩:=a;obtain rfl:k2=k':=e;rw[List.any_cons,List.any_cons,Zu.any h2]
theorem Zu.snoc{k:Key}{t:T}{v:V}(h:IsT K mg H F t v):∀{XM:ZX} {ks:List (Key×V)},Zu K mg H F XM ks->Zu K mg H F (XM++[(k,t)]) (ks++[(k,v)])
 | [],ks,a=>by cases(show ks=[] from a);exact⟨_,_,rfl,⟨rfl,h⟩,rfl⟩
 | p::XM,ks,a=>by
  obtain⟨q,r,rfl,h1,h2⟩:=a;exact⟨q,_,rfl,h1,Zu.snoc h h2⟩
theorem Zu.put{k:Key}{t:T}{v:V}(h:IsT K mg H F t v){XM:ZX}{ks:List (Key×V)}(a:Zu K mg H F XM ks):Zu K mg H F (Y9 XM k t) (putK ks k v):=by
 unfold Y9 putK;rw[<-Zu.any a]
 split
 .exact Zu.map h a
 .exact Zu.snoc h a
theorem Zu.keys:∀{XM:ZX} {ks:List (Key×V)},Zu K mg H F XM ks->XM.map (·.1)=ks.map (·.1)
 | [],ks,h=>by cases(show ks=[] from h);rfl
 | (k,t)::XM,ks,h=>by
  obtain⟨q,r,rfl,⟨e,_⟩,h2⟩:=h;rw[C9,C9,Zu.keys h2,e]
theorem zo(k:Key):IsT K mg H F (Bc k) (kV k):=by cases k<;>rfl
theorem Zu.keyT{XM:ZX}{ks:List (Key×V)}(h:Zu K mg H F XM ks):Zj K mg H F (XM.map λp=>Bc p.1) (ks.map λp=>kV p.1):=by
 have go:∀l:List Key,Zj K mg H F (l.map Bc) (l.map kV):=λl=>by
  induction l with
  | nil=>rfl
  | cons k r ih=>exact⟨_,_,rfl,zo k,ih⟩
 have e:=h.keys;have:=go (XM.map (·.1));rw[List.map_map,List.map_map]at this
 have e2:(ks.map λp=>kV p.1)=(XM.map λp=>kV p.1):=by
  have:=congrArg (List.map kV) e;rw[List.map_map,List.map_map]at this;exact this.symm
 rw[e2];exact this
theorem Kt:∀(zs:ZL),Zj K mg H F (zs.map T.int) (zs.map V.int)
 | []=>rfl
 | _::zs=>⟨_,_,rfl,rfl,Kt zs⟩
theorem Km:∀(zs:ZD),Zj K mg H F (zs.map T.str) (zs.map V.str)
 | []=>rfl
 | _::zs=>⟨_,_,rfl,rfl,Km zs⟩
theorem Zj.pairs:∀{ts:ZZ} {vs:ZQ} {XM:ZX},Zj K mg H F ts vs->Mo ts=some XM->∃ks:List (Key×V),Zu K mg H F XM ks/\vs.length=ks.length/\∀(j:Nat) (k:Key) (v:V),ks[j]?=some (k,v)->∃p,vs[j]?=some (.ref p)/\Vn K H p [kV k,v]
 | [],vs,XM,h,e=>by
  cases e;cases(show vs=[] from h);exact⟨[],rfl,rfl,λj k v e=>by simp at e⟩
 | t::ts,vs,XM,h,e=>by
  obtain⟨v,r,rfl,q,w⟩:=h;unfold Mo at e
  split at e
  .rename_i e0;cases e0
  .rename_i a b r' e0
   cases e0;obtain⟨k,ek,e2⟩:=ZO.mp e;obtain⟨kvs',e1,rfl⟩:=Yr.mp e2;obtain⟨ks,g1,g2,g3⟩:=Zj.pairs w e1;obtain⟨p,us,rfl,sq,_,ar⟩:=q;obtain⟨u1,r1,rfl,i1,ar⟩:=ar;obtain⟨u2,r2,rfl,i2,ar⟩:=ar;cases(show r2=[] from ar)
   have:u1=kV k:=by
    unfold keyT at ek
    split at ek<;>cases ek<;>exact i1
   subst this;refine⟨(k,u2)::ks,⟨_,_,rfl,⟨rfl,i2⟩,g1⟩,by simp[g2],λj k' v' e=>?_⟩;cases j with
   | zero=>cases(show some (k,u2)=some (k',v') from e);exact⟨p,rfl,sq⟩
   | succ j=>exact g3 j k' v' e
  .cases e
theorem Zu.fold:∀{XM:ZX} {ks:List (Key×V)} {a:ZX} {b:List (Key×V)},Zu K mg H F XM ks->Zu K mg H F a b->Zu K mg H F (XM.foldl (λacc kv=>Y9 acc kv.1 kv.2) a) (ks.foldl (λacc kv=>putK acc kv.1 kv.2) b)
 | [],ks,a,b,h,h'=>by cases(show ks=[] from h);exact h'
 | (k,t)::XM,ks,a,b,h,h'=>by
  obtain⟨⟨k2,v⟩,r,rfl,⟨e,h1⟩,h2⟩:=h;obtain rfl:k2=k:=e;rw[List.foldl_cons,List.foldl_cons];exact Zu.fold h2 (Zu.put h1 h')
theorem fk{X:Cx}{F₁ H₁:Hp}{ts us:ZZ}{vs:ZQ}(h:Zj X.K X.mg H₁ F₁ ts vs)(e:Qf ts=some us):∃ws,SRT.v8 X H₁ vs ws/\Zj X.K X.mg H₁ F₁ us ws/\ws.length<64:=by
 unfold Qf at e
 split at e
 .rename_i hz
  split at e
  .rename_i zs e1
   cases e;have e2:=h.ints e1;have hl:zs.length<64:=by rw[h.length,e2,Vq]at hz;exact hz
   subst e2;exact⟨_,SRT.qi hl,Kt _,by rw[Vq,(SRT.D0 zs).length_eq];exact hl⟩
  .obtain⟨zs,e1,rfl⟩:=Yr.mp e;have e2:=h.strs e1;have hl:zs.length<64:=by rw[h.length,e2,Vq]at hz;exact hz
   subst e2;exact⟨_,SRT.qo hl,Km _,by rw[Vq,(SRT.Yn zs).length_eq];exact hl⟩
 .cases e
theorem Zj.heads:∀{ts:ZZ} {vs:ZQ} {hs:ZL},Zj K mg H F ts vs->B2 ts=some hs->ts.length=hs.length/\∀i,i<vs.length->∃b ws,vs.getD i .non=.ref b/\Vn K H b (.int (hs.getD i 0)::ws)
 | [],vs,hs,h,e=>by cases e;cases(show vs=[] from h);exact⟨rfl,λi hi=>absurd hi XA⟩
 | t::ts,vs,hs,h,e=>by
  obtain⟨v,r,rfl,q,w⟩:=h;unfold B2 at e
  split at e
  .rename_i e0;cases e0
  .rename_i i0 tr r' e0
   cases e0;obtain⟨Jt,e1,rfl⟩:=Yr.mp e;obtain⟨g1,g2⟩:=Zj.heads w e1;obtain⟨b,us,rfl,sq,_,ar⟩:=q;obtain⟨u1,r1,rfl,i1,ar⟩:=ar;cases(show u1=.int i0 from i1);refine⟨by simp[g1],λi hi=>?_⟩;cases i with
   | zero=>exact⟨b,r1,rfl,sq⟩
   | succ i=>simpa using g2 i (by simpa using hi)
  .cases e
theorem Zj.pick{ts:ZZ}{vs:ZQ}(h:Zj K mg H F ts vs):∀(p:List Nat),(∀i∈p,i<ts.length)->Zj K mg H F (p.map λi=>ts.getD i .non) (p.map λi=>vs.getD i .non)
 | [],_=>rfl
 | i::p,g=>by
  have hi:=g i V4;obtain⟨v,e1,h2⟩:=h.get (Tc hi);refine⟨_,_,rfl,?_,Zj.pick h p λj m=>g j (Uz _ m)⟩;show IsT K mg H F (ts.getD i .non) (vs.getD i .non);rw[List.getD_eq_getElem?_getD,List.getD_eq_getElem?_getD,e1,Tc hi];exact h2
end
section
variable{X:Cx}{XB:ZY}{Z:L2.St}{H F:Hp}{s:Shared}
end
section
variable{X:Cx}{XB:ZY}{Z:L2.St}{H F:Hp}{s:Shared}
end
section
variable{X:Cx}{XB:ZY}{Z:L2.St}{H F:Hp}{s:Shared}{Q:VK}{x:V}{u:Value}{t:T}
end
section
variable{X:Cx}
theorem zg{ns:ZL}{XD:ZM}(rv:Zd (ns.map V.int) XD):∃zs:Array (Int×Tok),XD.toArray=intItems zs/\zs.toList.map (·.1)=ns:=by
 have hi:=intsAre_of rv;obtain⟨zs,e⟩:=hi.allInts.items;refine⟨zs,e,?_⟩;have b:=nums_intItems zs;rw[<-e]at b;exact b.symm.trans hi.numsOf
theorem zm{zs:Array (Int×Tok)}{ns:ZL}(en:zs.toList.map (·.1)=ns){i:Nat}(hi:i<ns.length):numAt zs i∈ns:=by rw[numAt_eq,en];exact getD_mem hi
theorem lx{zs:Array (Int×Tok)}{ns:ZL}(en:zs.toList.map (·.1)=ns){m:Int}(hm:m∈ns):∃j,j<ns.length/\numAt zs j=m:=by
 obtain⟨j,hj,ej⟩:=mem_getD hm;exact⟨j,hj,by rw[numAt_eq,en];exact ej⟩
inductive Ig(R:Int->Int->Prop)(K:W.Frag)(xs:ZQ)(H:Hp)(Q:VK):Prop
 | mk(p:Addr)(ns:ZL)(m:Int)(h0:xs=[.ref p])(h1:Uq K H p (ns.map V.int))(h2:m∈ns)(h3:∀a∈ns,R a m)(h4:Q (.int m) H):Ig R K xs H Q
theorem vd(hc:X.calm=true):Y0 X (.builtin "max") (Ig (λa m=>a<=m) X.K):=by
 intro XB s Z H xs us Q I r h;obtain⟨p,ns,m,rfl,hq,hm,hb,q⟩:=h;obtain⟨u,rfl,rx⟩:=vals1 r;cases rx;obtain⟨XD,rv,pl,hz⟩:=I.list hq;obtain⟨zs,e,en⟩:=zg rv;have len:zs.size=ns.length:=by rw[<-en,Vq,yf]
 have pos:=List.length_pos_of_mem hm;refine max_intList (xs:=zs) (I.ok.hd hc) (by rw[<-e];exact pl.isList) XS λv h' tk hv hk=>?_;obtain⟨t,rfl⟩:=intItems_at hv;obtain⟨hi,top⟩:=argBest_gt (numAt zs) (zs.size-1);obtain⟨j,hj,ej⟩:=lx en hm;have h1:=top j XS;have h2:=hb _ (zm en (i:=argBest (λi j=>decide (numAt zs i>numAt zs j)) (zs.size-1)) XS);exact⟨.int m,H,I.kept hk,⟨t,by rw[show numAt zs (argBest (λi j=>decide (numAt zs i>numAt zs j)) (zs.size-1))=m by omega]⟩,q⟩
theorem vb(hc:X.calm=true):Y0 X (.builtin "min") (Ig (λa m=>m<=a) X.K):=by
 intro XB s Z H xs us Q I r h;obtain⟨p,ns,m,rfl,hq,hm,hb,q⟩:=h;obtain⟨u,rfl,rx⟩:=vals1 r;cases rx;obtain⟨XD,rv,pl,hz⟩:=I.list hq;obtain⟨zs,e,en⟩:=zg rv;have len:zs.size=ns.length:=by rw[<-en,Vq,yf]
 have pos:=List.length_pos_of_mem hm;refine min_intList (xs:=zs) (I.ok.hd hc) (by rw[<-e];exact pl.isList) XS λv h' tk hv hk=>?_;obtain⟨t,rfl⟩:=intItems_at hv;obtain⟨hi,top⟩:=argBest_lt (numAt zs) (zs.size-1);obtain⟨j,hj,ej⟩:=lx en hm;have h1:=top j XS;have h2:=hb _ (zm en (i:=argBest (λi j=>decide (numAt zs i<numAt zs j)) (zs.size-1)) XS);exact⟨.int m,H,I.kept hk,⟨t,by rw[show numAt zs (argBest (λi j=>decide (numAt zs i<numAt zs j)) (zs.size-1))=m by omega]⟩,q⟩
inductive rp(xs:ZQ)(H:Hp)(Q:VK):Prop
 | mk(x:Str)(n:Int)(h0:xs=[.str x])(h1:PySem.intText? x=some n)(h2:x.length<=640)(h3:Q (.int n) H):rp xs H Q
theorem vc:Y0 X (.type "int") rp:=by
 intro XB s Z H xs us Q I r h;obtain⟨x,n,rfl,hn,hl,q⟩:=h;obtain⟨u,rfl,t,rfl⟩:=vals1 r;exact W.KIN.call_text hn hl ⟨.int n,H,I.tok _,⟨_,rfl⟩,q⟩
end
end PV
namespace TLT
open PySem PySem.Calls PyProof.Rows SeqAt
section
variable{prog:Program}{w:World}{A:Around}{E:ZW}{s:Shared}
end
section
variable{prog:Program}{w:World}{A:Around}{R:Result->Shared->Prop}{I:Addr}{fp wr:ZU}{n:Nat}{P:Nat->Value->Prop}{St:Nat->Heap->Prop}
end
end TLT
namespace TLT
open PySem PySem.Spec PyProof.Rows L2 PV
section
variable{X:Cx}
end
end TLT
namespace PV
open PySem PySem.Spec PyProof.Rows L2
theorem Zjc{Z:Type}{xs:List Z}{i:Int}{x:Z}(h:Tq xs i=some x):∃j,Q6 xs.length i=some j/\xs[j]?=some x:=by
 unfold Tq at h;cases e:Q6 xs.length i with
 | none=>rw[e]at h;cases h
 | some j=>rw[e]at h;exact⟨j,rfl,h⟩
theorem Zj.at{K:W.Frag}{mg:ZV}{H F:Hp}{ts:ZZ}{vs:ZQ}{i:Int}{t:T}(h:Zj K mg H F ts vs)(e:Tq ts i=some t):∃v,Tq vs i=some v/\IsT K mg H F t v:=by
 obtain⟨j,e1,e2⟩:=Zjc e;obtain⟨v,e3,h2⟩:=h.get e2;exact⟨v,by unfold Tq;rw[<-h.length,e1];exact e3,h2⟩
theorem Zj.cut{K:W.Frag}{mg:ZV}{H F:Hp}{ts:ZZ}{vs:ZQ}(h:Zj K mg H F ts vs)(lo hi:ZR):Zj K mg H F (G6 ts lo hi) (B8 vs lo hi):=by
 unfold G6 B8;rw[h.length];exact(h.drop _).take _
theorem Zj.bools{K:W.Frag}{mg:ZV}{H F:Hp}:∀{ts:ZZ} {vs:ZQ} {bs:List Bool},Zj K mg H F ts vs->allB ts=some bs->vs=bs.map V.bl
 | [],vs,bs,h,e=>by cases e;exact h
 | t::ts,vs,bs,h,e=>by
  obtain⟨v,r,rfl,q,w⟩:=h;cases t with
  | bl b =>
   obtain⟨bs',e1,rfl⟩:=Yr.mp (show (allB ts).map (b::·)=some bs from e);rw[Zj.bools w e1];cases(show v=.bl b from q)
   rfl
  | _=>cases e
section
variable{X:Cx}{XB:ZY}{Z σ':L2.St}{H F₁ G:Hp}{s:Shared}{Q:VK}{x y:V}{v u:Value}{t t':T}{p:P}{r:Sl}
theorem ix_run{z:T}{value slice:Expr}(I:Inv X XB σ' H s)(un:X.A.units+150<cLine)(rx:RelV x v)(ry:RelV y u)(s1:Bb X.K X.mg H F₁ t x)(s2:Bb X.K X.mg H F₁ t' y)(e:K2 t t'=some z)(q:∀w,IsT X.K X.mg H F₁ z w->Q w H)
  (hs:subscripted slice false v u=operate [v,u] (getItem v u)):wpAny (model X.prog X.w) X.A (subscriptTail value slice v u) (EP X XB σ' Q) X.xe s:=by
 unfold K2 at e
 split at e
 .cases(show y=_ from s2);obtain⟨a,vs,rfl,h1,z1,ar⟩:=s1;obtain⟨w,e1,e2⟩:=ar.at e;exact As value slice XB s σ' H _ _ v u Q I rx ry ⟨a,vs,_,w,rfl,rfl,h1,e1,q w e2⟩ hs
 .cases(show y=_ from s2);obtain⟨a,vs,rfl,h1,z1,ar⟩:=s1;obtain⟨w,e1,e2⟩:=ar.at e;exact Zqm value slice XB s σ' H _ _ v u Q I rx ry ⟨a,vs,_,w,rfl,rfl,.inl h1,e1,q w e2⟩ hs
 .split at e
  .rename_i hz
   cases(show x=_ from s1);cases(show y=_ from s2);obtain⟨c,e1,rfl⟩:=Yr.mp e;exact ix_str value slice XB s σ' H _ _ v u Q I rx ry ⟨_,_,c,rfl,rfl,hz,e1,q _ rfl⟩ hs
  .cases e
 .obtain⟨a,ks,rfl,h1,z1,ar⟩:=s1;obtain⟨k,e1,e2⟩:=ZO.mp e;cases Nh e1 s2;obtain⟨w,h2,h3⟩:=(Zu.val k ar).1 z e2;cases rx;have g:Nq H a (kV k) (some w):=.inl ⟨ks,k,h1,rfl,h2.symm⟩;exact tail_any (Eu I g) slot_dict_getitem.lookup (vg XS I g ry λw' s' I' Qc=>⟨w,H,I',Qc,q w h3⟩) hs
 .cases e
theorem Zzf{lo hi:ZR}{vl vu:Value}{sl:Addr}{z:Str}{tk:Tok}(I:Inv X XB σ' H s)(hs:s.heap.IsSliceOf sl vl vu .none)(pl:IsPart vl lo)(pu:IsPart vu hi)(hz:z.length<=sizeLine)(q:Q (.str (Txt.slice z lo hi)) H) :
  ∃T id,typeLookup (.type T) "__getitem__"=pure (some (.builtin id))/\s.TypeIs (.str z tk) T/\wpAny (model X.prog X.w) X.A (getItem (.str z tk) (.ref sl)) (EP X XB σ' Q) X.xe s:=by
 have q':∀(t':Tok) (k:Nat),EP X XB σ' Q (.str (Txt.slice z lo hi) t') { s with toks:=k }:=λt' k=>⟨.str _,H,I.tok _,⟨t',rfl⟩,q⟩;refine⟨"str",_,PySem.F.slot_str_getitem.lookup,typeIs_str _ _ _,?_⟩;cases pl with
 | none=>cases pu with
  | none=>exact wpAny_getItem_str_slice (l:=none) (u:=none) (st:=none) hs rfl (post_val_or_str ⟨Tg (Txt.slice_le z _ _) hz,λt' k=>q' t' k⟩)
  | int j uj=>exact wpAny_getItem_str_slice (l:=none) (u:=some (j,uj)) (st:=none) hs rfl (post_val_or_str ⟨Tg (Txt.slice_le z _ _) hz,λt' k=>q' t' k⟩)
 | int i ui=>cases pu with
  | none=>exact wpAny_getItem_str_slice (l:=some (i,ui)) (u:=none) (st:=none) hs rfl (post_val_or_str ⟨Tg (Txt.slice_le z _ _) hz,λt' k=>q' t' k⟩)
  | int j uj=>exact wpAny_getItem_str_slice (l:=some (i,ui)) (u:=some (j,uj)) (st:=none) hs rfl (post_val_or_str ⟨Tg (Txt.slice_le z _ _) hz,λt' k=>q' t' k⟩)
theorem bh{lo hi:ZR}{vl vu:Value}{sl:Addr}(I:Inv X XB σ' H s)(rel:Rel X.K X.mg F₁ G p Z H)(rx:RelV x v)(s1:Bb X.K X.mg H F₁ t x)(hs:s.heap.IsSliceOf sl vl vu .none)(pl:IsPart vl lo)(pu:IsPart vu hi)(e:slT t lo hi=some r)(q:Fin X F₁ G p Z H r Q) :
  ∃T id,typeLookup (.type T) "__getitem__"=pure (some (.builtin id))/\s.TypeIs v T/\wpAny (model X.prog X.w) X.A (getItem v (.ref sl)) (EP X XB σ' Q) X.xe s:=by
 unfold slT at e
 split at e
 .cases e;obtain⟨a,vs,rfl,h1,z1,ar⟩:=s1;exact Xr XB s σ' H _ v vl vu lo hi sl Q I rx hs pl pu ⟨a,vs,rfl,h1,λl H' sm hq=>q.f rel sm ⟨l,_,rfl,hq,Tg (Jf _ _ _) z1,Zj.up sm.up (Le.refl _) _ _ (ar.cut lo hi)⟩⟩
 .cases e;obtain⟨a,vs,rfl,h1,z1,ar⟩:=s1;exact Zzb XB s σ' H _ v vl vu lo hi sl Q I rx hs pl pu ⟨a,vs,rfl,.inl h1,λl hl=>q.l rel hl (Tg (Jf _ _ _) z1) (ar.cut lo hi)⟩
 .split at e
  .rename_i hz
   cases e;cases(show x=_ from s1);obtain⟨_,rfl⟩:=rx;exact Zzf I hs pl pu hz (q.h rel rfl)
  .cases e
 .cases e
noncomputable def btV:Pr->Option (Str×Value)
 | .len=>some ("len",.builtin "len")
 | .all=>some ("all",.builtin "all")
 | .any=>some ("any",.builtin "any")
 | .list=>some ("list",.type "list")
 | .tuple=>some ("tuple",.type "tuple")
 | .min=>some ("min",.builtin "min")
 | .max=>some ("max",.builtin "max")
 | .int=>some ("int",.type "int")
 | .abs=>some ("abs",.builtin "abs")
 | .dict=>some ("dict",.type "dict")
 | .sorted=>some ("sorted",.builtin "sorted")
 | .repr=>some ("repr",.builtin "repr")
 | .str=>some ("str",.type "str")
 | .sum=>some ("sum",.builtin "sum")
 | _=>none
theorem Yg{Z U:Type}{R:Z->U->Prop}{a:Z}{bs:List U}(h:Paired R [a] bs):∃b,bs=[b]/\R a b:=by
 cases h with
 | cons h t=>cases t;exact⟨_,rfl,h⟩
theorem C1{Z U:Type}{R:Z->U->Prop}{a a':Z}{bs:List U}(h:Paired R [a,a'] bs):∃b b',bs=[b,b']/\R a b/\R a' b':=by
 cases h with
 | cons h t=>obtain⟨b,rfl,h2⟩:=Yg t;exact⟨_,_,rfl,h,h2⟩
theorem rm{K:W.Frag}{mg:ZV}{H F:Hp}{c:Bool}{t t':T}{v v':V}(h:IsT K mg H F t v)(h':IsT K mg H F t' v'):IsT K mg H F (if c=true then t else t') (if c=true then v else v'):=by
 cases c with
 | true=>exact h
 | false=>exact h'
theorem bt_run{bq:Pr}{nm:Str}{fv:Value}{ts:ZZ}{xs:ZQ}{us:ZM}(hb:btV bq=some (nm,fv))(hc:X.calm=true)(un:X.A.units+150<cLine)(gd:X.A.guards=some [])(I:Inv X XB σ' H s)(rel:Rel X.K X.mg F₁ G p Z H)(rs:Zd xs us)(se:Paired (Bb X.K X.mg H F₁) ts xs)(e:Ki bq ts=some r)(q:Fin X F₁ G p Z H r Q) :
  wpAny (model X.prog X.w) X.A (call fv us) (EP X XB σ' Q) X.xe s:=by
 unfold Ki at e
 split at e<;>first | cases hb | skip
 .unfold pLen at e
  split at e
  rotate_left
  .cases e
  obtain⟨n,e1,rfl⟩:=Yr.mp e;obtain⟨x,rfl,s1⟩:=Yg se;unfold Zqj at e1
  split at e1
  .cases e1;obtain⟨a,vs,rfl,h1,z1,ar⟩:=s1;exact Bx XB s σ' H _ us Q I rs ⟨a,vs,rfl,.inr h1,q.h rel (by rw[ar.length];rfl)⟩
  .cases e1;obtain⟨a,vs,rfl,h1,z1,ar⟩:=s1;exact Bx XB s σ' H _ us Q I rs ⟨a,vs,rfl,.inl (.inl h1),q.h rel (by rw[ar.length];rfl)⟩
  .cases e1;obtain⟨a,vs,rfl,h1,z1,ar⟩:=s1;obtain⟨u,rfl,rx⟩:=vals1 rs;cases rx;exact d_len I h1 λt s' I'=>⟨.int vs.length,H,I',⟨t,rfl⟩,q.h rel (by rw[ar.length];rfl)⟩
  .split at e1
   .rename_i hz
    cases e1;cases(show x=_ from s1);exact ub XB s σ' H _ us Q I rs ⟨_,_,rfl,⟨hz,rfl⟩,q.h rel rfl⟩
   .cases e1
  .cases e1
 .unfold pAll at e
  split at e
  rotate_left
  .cases e
  obtain⟨bs,e1,rfl⟩:=Yr.mp e;obtain⟨x,rfl,a,vs,rfl,h1,z1,ar⟩:=Yg se;exact vn hc XB s σ' H _ us Q I rs ⟨a,bs,rfl,.inl (by rw[<-ar.bools e1];exact h1),q.h rel rfl⟩
 .unfold Zwv at e
  split at e
  rotate_left
  .cases e
  cases e;obtain⟨x,rfl,a,vs,rfl,h1,z1,ar⟩:=Yg se;exact P5 XB s σ' H _ us Q I rs ⟨a,vs,rfl,.inr h1,λl hl=>q.l rel hl z1 ar⟩
 .unfold zw at e
  split at e
  .obtain⟨ws,e1,rfl⟩:=Yr.mp e;obtain⟨x,rfl,a,vs,rfl,h1,z1,ar⟩:=Yg se;unfold jz at e1
   split at e1
   .rename_i hs eh
    split at e1
    .rename_i hn
     cases e1;obtain⟨g1,g2⟩:=ar.heads eh;have vl:=ar.length;by_cases h2:vs.length<2
     .have ew:(SRT.Rk (hs.zip _)).map (·.2)=_:=SRT.ff (d:=T.non) g1 XS;rw[ew]at q;exact SRT.Bz XB s σ' H _ us Q I rs ⟨a,vs,vs,rfl,.inl (.inl h1),SRT.Hc h2,λl hl=>q.l rel hl z1 ar⟩
     .refine SRT.P2 XB s σ' H _ us Q I rs ⟨a,vs,hs,rfl,.inl h1,by omega,g2,hn.1,by omega,by omega,λl p hl op=>?_⟩;rw[<-SRT.nu (d:=T.non) g1 op]at q;refine q.l rel hl ?_ (ar.pick _ λi m=>by have:=List.mem_range.mp (op.1.mem_iff.mp m);omega);rw[Vq,op.1.length_eq,XJ];have:=sizeLine_eq;omega
    .cases e1
   .obtain⟨ys,k1,k2,k3⟩:=fk ar e1;exact SRT.Bz XB s σ' H _ us Q I rs ⟨a,vs,ys,rfl,.inl (.inl h1),k1,λl hl=>q.l rel hl (by have:=sizeLine_eq;omega) k2⟩
  .obtain⟨ws,e1,rfl⟩:=Yr.mp e;obtain⟨x,rfl,a,ks,rfl,h1,z1,ar⟩:=Yg se;obtain⟨ys,k1,k2,k3⟩:=fk ar.keyT e1;exact SRT.P4 hc XB s σ' H _ us Q I rs ⟨a,ks,ys,rfl,h1,k1,λl hl=>q.l rel hl (by have:=sizeLine_eq;omega) k2⟩
  .cases e
 .unfold nr at e
  split at e
  rotate_left
  .cases e
  cases e;obtain⟨x,rfl,a,vs,rfl,h1,z1,ar⟩:=Yg se;exact Wg XB s σ' H _ us Q I rs ⟨a,vs,rfl,.inl (.inl h1),λl H' sm hq=>q.f rel sm ⟨l,vs,rfl,hq,z1,Zj.up sm.up (Le.refl _) _ _ ar⟩⟩
 .unfold pMin at e
  split at e
  .cases e;obtain⟨x,y,rfl,s1,s2⟩:=C1 se;cases(show x=_ from s1);cases(show y=_ from s2);exact vm hc XB s σ' H _ us Q I rs ⟨_,_,rfl,q.h rel rfl⟩
  .cases e;obtain⟨x,y,rfl,s1,s2⟩:=C1 se;cases(show x=_ from s1);cases(show y=_ from s2);refine TNM.A7 hc XB s σ' H _ us Q I rs ⟨_,_,_,_,rfl,rfl,rfl,q.h rel ?_⟩;exact rm rfl rfl
  .unfold Zx8 at e;obtain⟨x,rfl,a,vs,rfl,h1,z1,ar⟩:=Yg se;obtain⟨zs,e1,e⟩:=ZO.mp e;obtain⟨m,e2,rfl⟩:=Yr.mp e;obtain⟨m1,m2⟩:=Qe e2;exact vb hc XB s σ' H _ us Q I rs ⟨a,zs,m,rfl,.inl (by rw[<-ar.ints e1];exact h1),m1,m2,q.h rel rfl⟩
  .cases e
 .unfold pMax at e
  split at e
  .cases e;obtain⟨x,y,rfl,s1,s2⟩:=C1 se;cases(show x=_ from s1);cases(show y=_ from s2);exact vt hc XB s σ' H _ us Q I rs ⟨_,_,rfl,q.h rel rfl⟩
  .cases e;obtain⟨x,y,rfl,s1,s2⟩:=C1 se;cases(show x=_ from s1);cases(show y=_ from s2);refine TNM.A8 hc XB s σ' H _ us Q I rs ⟨_,_,_,_,rfl,rfl,rfl,q.h rel ?_⟩;exact rm rfl rfl
  .obtain⟨zs,e1,e⟩:=ZO.mp e;obtain⟨m,e2,rfl⟩:=Yr.mp e;obtain⟨x,rfl,a,vs,rfl,h1,z1,ar⟩:=Yg se;obtain⟨m1,m2⟩:=Zx9 e2;exact vd hc XB s σ' H _ us Q I rs ⟨a,zs,m,rfl,.inl (by rw[<-ar.ints e1];exact h1),m1,m2,q.h rel rfl⟩
  .cases e
 .unfold pInt at e
  split at e
  .cases e;obtain⟨x,rfl,s1⟩:=Yg se;cases(show x=_ from s1);exact Fc XB s σ' H _ us Q I rs (.inl ⟨_,rfl,q.h rel rfl⟩)
  .cases e;obtain⟨x,rfl,s1⟩:=Yg se;cases(show x=_ from s1);exact Fc XB s σ' H _ us Q I rs (.inr ⟨_,rfl,q.h rel rfl⟩)
  .split at e
   .rename_i hz
    obtain⟨n,e1,rfl⟩:=Yr.mp e;obtain⟨x,rfl,s1⟩:=Yg se;cases(show x=_ from s1);exact vc XB s σ' H _ us Q I rs ⟨_,n,rfl,e1,hz,q.h rel rfl⟩
   .cases e
  .cases e
 .unfold pAbs at e
  split at e
  rotate_left
  .cases e
  cases e;obtain⟨x,rfl,s1⟩:=Yg se;cases(show x=_ from s1);exact um XB s σ' H _ us Q I rs ⟨_,rfl,q.h rel rfl⟩
 .unfold Zwy at e
  split at e
  .cases e;obtain⟨x,rfl,a,ks,rfl,h1,z1,ar⟩:=Yg se;exact E1 XB s σ' H _ us Q I rs ⟨a,ks,rfl,h1,λl hl=>let ⟨r1,r2⟩:=rel.newD hl z1 ar;q _ _ _ (Le.refl _) (Zp.lay hl).up r1 r2⟩
  .obtain⟨XM,e1,rfl⟩:=Yr.mp e;obtain⟨x,rfl,a,vs,rfl,h1,z1,ar⟩:=Yg se;obtain⟨ks,k1,k2,k3⟩:=ar.pairs e1;refine Cr hc XB s σ' H _ us Q I rs ⟨a,vs,ks,rfl,.inl h1,k2,k3,λl hl=>?_⟩
   have kl:(Ff ks).length<=sizeLine:=by
    have:=B3 ks [];unfold Ff;simp only[List.length_nil,Nat.zero_add]at this;omega
   obtain⟨r1,r2⟩:=rel.newD hl kl (Zu.fold k1 (show Zu X.K X.mg H F₁ [] [] from rfl));exact q _ _ _ (Le.refl _) (Zp.lay hl).up r1 r2
  .cases e
 .unfold pStr at e
  split at e
  rotate_left
  .cases e
  split at e
  .rename_i hz
   cases e;obtain⟨x,rfl,s1⟩:=Yg se;cases(show x=_ from s1);exact P1 XB s σ' H _ us Q I rs ⟨_,rfl,hz,q.h rel rfl⟩
  .cases e
 .unfold pSum at e
  split at e
  rotate_left
  .cases e
  obtain⟨zs,e1,rfl⟩:=Yr.mp e;obtain⟨x,rfl,a,vs,rfl,h1,z1,ar⟩:=Yg se;exact vf hc XB s σ' H _ us Q I rs ⟨a,zs,rfl,.inl (by rw[<-ar.ints e1];exact h1),q.h rel rfl⟩
 .cases e
end
noncomputable def kdS:Kd->String
 | .int => "int"
 | .bool => "bool"
 | .str => "str"
 | .tuple => "tuple"
 | .list => "list"
 | .dict => "dict"
section
variable{X:Cx}{XB:ZY}{Z σ':L2.St}{H F₁ G:Hp}{s:Shared}{Q:VK}{x y:V}{v u:Value}{t t':T}{p:P}{r:Sl}
theorem Zqn{n:Kd}{b:Bool}(I:Inv X XB σ' H s)(rx:RelV x v)(s1:Bb X.K X.mg H F₁ t x)(e:isiT n t=some b)(q:Q (.bl b) H):wpAny (model X.prog X.w) X.A (call (.builtin "isinstance") [v,.type (kdS n)]) (EP X XB σ' Q) X.xe s:=by
 have fin:∀tk,EP X XB σ' Q (.bool b) { s with toks:=tk }:=λtk=>⟨.bl _,H,I.tok _,rfl,q⟩;cases t with
 | non=>cases(show x=_ from s1);exact Ut I rx .non (by cases n<;>cases e<;>rfl) fin
 | bl k=>cases(show x=_ from s1);exact Ut I rx (.bl k) (by cases n<;>cases e<;>rfl) fin
 | int k=>cases(show x=_ from s1);exact Ut I rx (.int k) (by cases n<;>cases e<;>rfl) fin
 | str k=>cases(show x=_ from s1);exact Ut I rx (.str k) (by cases n<;>cases e<;>rfl) fin
 | tup ts =>
  obtain⟨a,vs,rfl,hq,_⟩:=s1;cases rx;exact Zqc I hq (by cases n<;>cases e<;>rfl) fin
 | lst ts =>
  obtain⟨a,vs,rfl,hq | ⟨o,hq⟩,_⟩:=s1
  .exact Ut I rx (.lst hq) (by cases n<;>cases e<;>rfl) fin
  .exact Ut I rx (.frz hq) (by cases n<;>cases e<;>rfl) fin
 | dct ts =>
  obtain⟨a,ks,rfl,hq,_⟩:=s1;cases rx;obtain⟨_,_,vs,_,o,es,ep,h1,h2,_⟩:=hq.ok I.hok;exact W.kia_one W.kitx_dict I.kIn ⟨o,h1,h2.1⟩ (by cases n<;>cases e<;>rfl) (λz=>nomatch z) fin
 | fn _=>cases n<;>cases e
def rO(X:Cx)(f:Value->Value->Sem Value):R2:=λx y H Q=>∀XB s Z v u,Inv X XB Z H s->RelV x v->RelV y u->wpAny (model X.prog X.w) X.A (f v u) (EP X XB Z Q) X.xe s
theorem opr{f:Value->Value->Sem Value}:Mh X f (rO X f):=λXB s Z _ _ _ v u _ I rx ry h=>h XB s Z v u I rx ry
def rC(X:Cx)(f:Value):ZQ->Hp->VK->Prop:=λxs H Q=>∀XB s Z us,Inv X XB Z H s->Zd xs us->wpAny (model X.prog X.w) X.A (call f us) (EP X XB Z Q) X.xe s
theorem uf{f:Value}:Y0 X f (rC X f):=λXB s Z _ _ us _ I rs h=>h XB s Z us I rs
def rX(X:Cx):R2:=λx y H Q=>∀value slice XB s Z v u,Inv X XB Z H s->RelV x v->RelV y u->subscripted slice false v u=operate [v,u] (getItem v u)->wpAny (model X.prog X.w) X.A (subscriptTail value slice v u) (EP X XB Z Q) X.xe s
theorem ixr:IxR X (rX X):=λvalue slice XB s Z _ _ _ v u _ I rx ry h hs=>h value slice XB s Z v u I rx ry hs
def rL(X:Cx):V->ZR->ZR->Hp->VK->Prop:=λx lo hi H Q=>∀XB s Z v vl vu sl,Inv X XB Z H s->RelV x v->s.heap.IsSliceOf sl vl vu .none->IsPart vl lo->IsPart vu hi ->
 ∃T id,typeLookup (.type T) "__getitem__"=pure (some (.builtin id))/\s.TypeIs v T/\wpAny (model X.prog X.w) X.A (getItem v (.ref sl)) (EP X XB Z Q) X.xe s
theorem slr:SlR X (rL X):=λXB s Z _ _ v vl vu _ _ sl _ I rx hs pl pu h=>h XB s Z v vl vu sl I rx hs pl pu
end
noncomputable def vis(sc:ZK)(x:Str):Bool:=match sc.lookup x with
 | some .local=>true
 | some .cell=>true
 | some .free=>true
 | _=>false
noncomputable def Fg(sc:ZK)(x:Str):Bool:=sc.lookup x==some .globalImplicit && !(x==("__debug__" : Str))
noncomputable def U1(N:ZD)(sc:ZK)(i:Nat)(x:Str):Bool:=N[i]? == some x&&vis sc x && !(x==("__debug__" : Str)) && !(x==("__classdict__" : Str))
def Ua:Expr->Bool
 | .Slice _ _ _ _=>false
 | _=>true
def Am:Expr->Bool
 | .Call _ [] _ _=>false
 | _=>true
def Nl:Expr->Bool
 | .Call _ _ _ _=>false
 | _=>true
def con2:Expr->Bool
 | .Constant k _ _=>(match k with
  | .int i=>decide (i=2)
  | _=>false)
 | _=>false
theorem Zjv{x:Expr}(h:con2 x=true):∃a b,x=.Constant (.int 2) a b:=by
 cases x
 case Constant k a b =>
  cases k
  case int i=>cases D9 (show decide (i=2)=true from h);exact⟨a,b,rfl⟩
  all_goals cases h
 all_goals cases h
inductive Shp where
 | name(y:Str) | bin(a:Expr)(op:Operator)(b:Expr) | cmp(a:Expr)(ops:List CmpOp)(bs:ZC) | un(op:UnaryOp)(a:Expr) | sub(a b:Expr) | dct(ks:List (Option Expr))(vs:ZC)
 | callN (f:Str) (xs:ZC) | callA (o:Expr) (m:Str) (ap:Pos) (xs:ZC) (cp:Pos) | tup (xs:ZC) | lst (xs:ZC) | boo (o:BoolOp) (xs:ZC) (p:Pos) | ife (c a b:Expr) | lc (e:Expr) (g:List Comprehension) (s:Scope) | slc (l h s:Option Expr) | non
noncomputable def shpC:Expr->ZC->List Keyword->Pos->Shp
 | .Name f _,xs,[],_=>.callN f xs
 | .Attribute o m ap,xs,[],cp=>.callA o m ap xs cp
 | _,_,_,_=>.non
noncomputable def Tr:Expr->Shp
 | .Name y _=>.name y
 | .BinOp a op b _=>.bin a op b
 | .Compare a ops bs _=>.cmp a ops bs
 | .UnaryOp op a _=>.un op a
 | .Subscript a b _=>.sub a b
 | .Dict ks vs _=>.dct ks vs
 | .Call f xs ks cp=>shpC f xs ks cp
 | .Tuple xs _ _=>.tup xs
 | .List xs _=>.lst xs
 | .BoolOp o xs p=>.boo o xs p
 | .IfExp c a b _=>.ife c a b
 | .ListComp e g s _=>.lc e g s
 | .Slice l h s _=>.slc l h s
 | _=>.non
def ShpI:Shp->Expr->Prop
 | .name y,x=>∃p,x=.Name y p
 | .bin a op b,x=>∃p,x=.BinOp a op b p
 | .cmp a ops bs,x=>∃p,x=.Compare a ops bs p
 | .un op a,x=>∃p,x=.UnaryOp op a p
 | .sub a b,x=>∃p,x=.Subscript a b p
 | .dct ks vs,x=>∃p,x=.Dict ks vs p
 | .callN f xs,x=>∃q p,x=.Call (.Name f q) xs [] p
 | .callA o m ap xs cp,x=>x=.Call (.Attribute o m ap) xs [] cp
 | .tup xs,x=>∃j p,x=.Tuple xs j p
 | .lst xs,x=>∃p,x=.List xs p
 | .boo o xs p,x=>x=.BoolOp o xs p
 | .ife c a b,x=>∃p,x=.IfExp c a b p
 | .lc e g s,x=>∃p,x=.ListComp e g s p
 | .slc l h s,x=>∃p,x=.Slice l h s p
 | .non,_=>True
theorem Zzd(x:Expr):ShpI (Tr x) x:=by
 cases x
 case Call f xs ks cp =>
  cases f
  case Name=>cases ks with
   | nil=>exact⟨_,_,rfl⟩
   | cons _ _=>trivial
  case Attribute=>cases ks with
   | nil=>rfl
   | cons _ _=>trivial
  all_goals exact True.intro
 case BoolOp=>rfl
 case Tuple=>exact⟨_,_,rfl⟩
 all_goals first | exact⟨_,rfl⟩ | exact True.intro
theorem Yx{x:Expr}{s:Shp}(e:Tr x=s):ShpI s x:=e ▸ Zzd x
noncomputable def vOp(o:Op)(x:Expr):Option (ZC):=match Tr x with
 | .bin a op b=>if op=opOf o then some [a,b] else none
 | _=>none
theorem vOp_ex{o:Op}{x:Expr}{xs:ZC}(h:vOp o x=some xs):∃a op b p,x=.BinOp a op b p/\(if op=opOf o then some [a,b] else none)=some xs:=by
 unfold vOp at h
 split at h
 .rename_i e
  obtain⟨p,rfl⟩:=Yx e;exact⟨_,_,_,p,rfl,h⟩
 .cases h
noncomputable def ij(x:Expr):Option (Expr×List CmpOp×ZC):=match Tr x with
 | .cmp a ops bs=>some (a,ops,bs)
 | _=>none
theorem Xw{x a:Expr}{ops:List CmpOp}{bs:ZC}(h:ij x=some (a,ops,bs)):∃p,x=.Compare a ops bs p:=by
 unfold ij at h
 split at h
 .rename_i e
  cases h;exact Yx e
 .cases h
noncomputable def vCm(c:Cm)(x:Expr):Option (ZC):=match ij x with
 | some (a,[op],[b])=>if op=Mg c/\behindInMarks op b=false then some [a,b] else none
 | _=>none
theorem gv{c:Cm}{x:Expr}{xs:ZC}(h:vCm c x=some xs):∃a op b p,x=.Compare a [op] [b] p/\(if op=Mg c/\behindInMarks op b=false then some [a,b] else none)=some xs:=by
 unfold vCm at h
 split at h
 .rename_i e
  obtain⟨p,rfl⟩:=Xw e;exact⟨_,_,_,p,rfl,h⟩
 .cases h
noncomputable def vC2(c:Cm)(d:Cm)(x:Expr):Option (ZC):=match ij x with
 | some (a,[op,Ke],[b,e])=>if op=Mg c/\Ke=Mg d/\lastMarks [op,Ke] [b,e]=false then some [a,b,e] else none
 | _=>none
theorem gy{c d:Cm}{x:Expr}{xs:ZC}(h:vC2 c d x=some xs):∃a op Ke b e p,x=.Compare a [op,Ke] [b,e] p/\(if op=Mg c/\Ke=Mg d/\lastMarks [op,Ke] [b,e]=false then some [a,b,e] else none)=some xs:=by
 unfold vC2 at h
 split at h
 .rename_i e
  obtain⟨p,rfl⟩:=Xw e;exact⟨_,_,_,_,_,p,rfl,h⟩
 .cases h
noncomputable def vNeg(x:Expr):Option (ZC):=match Tr x with
 | .un op a=>if op=.USub then some [a] else none
 | _=>none
theorem o9{x:Expr}{xs:ZC}(h:vNeg x=some xs):∃a p,x=.UnaryOp .USub a p/\some [a]=some xs:=by
 unfold vNeg at h
 split at h
 .rename_i e
  obtain⟨p,rfl⟩:=Yx e
  split at h
  .rename_i z;subst z;exact⟨_,p,rfl,h⟩
  .cases h
 .cases h
noncomputable def o7(x:Expr):Option (Expr×Expr):=match Tr x with
 | .sub a b=>some (a,b)
 | _=>none
theorem Xq{x a b:Expr}(h:o7 x=some (a,b)):∃p,x=.Subscript a b p:=by
 unfold o7 at h
 split at h
 .rename_i e
  cases h;exact Yx e
 .cases h
noncomputable def vIx(x:Expr):Option (ZC):=match o7 x with
 | some (a,b)=>if Ua b=true then some [a,b] else none
 | none=>none
theorem vIx_ex{x:Expr}{xs:ZC}(h:vIx x=some xs):∃a b p,x=.Subscript a b p/\(if Ua b=true then some [a,b] else none)=some xs:=by
 unfold vIx at h
 split at h
 .rename_i e
  obtain⟨p,rfl⟩:=Xq e;exact⟨_,_,p,rfl,h⟩
 .cases h
noncomputable def iq(x:Expr):Option (Expr×Option Expr×Option Expr×Option Expr):=match o7 x with
 | some (a,b)=>(match Tr b with
  | .slc l h s=>some (a,l,h,s)
  | _=>none)
 | none=>none
theorem Xj{x a:Expr}{l hh s:Option Expr}(h:iq x=some (a,l,hh,s)):∃q p,x=.Subscript a (.Slice l hh s q) p:=by
 unfold iq at h
 split at h
 .rename_i e
  obtain⟨p,rfl⟩:=Xq e
  split at h
  .rename_i e'
   cases h;obtain⟨q,rfl⟩:=Yx e';exact⟨q,p,rfl⟩
  .cases h
 .cases h
noncomputable def kr(x:Expr):Option (ZC):=match iq x with
 | some (a,some l,none,none)=>some [a,l]
 | _=>none
theorem kc{x:Expr}{xs:ZC}(h:kr x=some xs):∃a l q p,x=.Subscript a (.Slice (some l) none none q) p/\some [a,l]=some xs:=by
 unfold kr at h
 split at h
 .rename_i e
  obtain⟨q,p,rfl⟩:=Xj e;exact⟨_,_,q,p,rfl,h⟩
 .cases h
noncomputable def ko(x:Expr):Option (ZC):=match iq x with
 | some (a,none,some l,none)=>some [a,l]
 | _=>none
theorem kh{x:Expr}{xs:ZC}(h:ko x=some xs):∃a l q p,x=.Subscript a (.Slice none (some l) none q) p/\some [a,l]=some xs:=by
 unfold ko at h
 split at h
 .rename_i e
  obtain⟨q,p,rfl⟩:=Xj e;exact⟨_,_,q,p,rfl,h⟩
 .cases h
noncomputable def gw(x:Expr):Option (ZC):=match Tr x with
 | .dct [] []=>some []
 | _=>none
theorem gj{x:Expr}{xs:ZC}(h:gw x=some xs):∃p,x=.Dict [] [] p/\some ([]:ZC)=some xs:=by
 unfold gw at h
 split at h
 .rename_i e
  obtain⟨p,rfl⟩:=Yx e;exact⟨p,rfl,h⟩
 .cases h
noncomputable def ao:Expr->Bool
 | .Constant (.int i) _ _=>decide (i=1)
 | _=>false
noncomputable def qb(x:Expr):Option (Str×ZC):=match Tr x with
 | .callN f xs=>some (f,xs)
 | _=>none
theorem Ci{x:Expr}{f:Str}{xs:ZC}(h:qb x=some (f,xs)):∃q p,x=.Call (.Name f q) xs [] p:=by
 unfold qb at h
 split at h
 .rename_i e
  cases h;exact Yx e
 .cases h
noncomputable def ke(x:Expr):Option Str:=match Tr x with
 | .name y=>some y
 | _=>none
theorem Qw{x:Expr}{y:Str}(h:ke x=some y):∃p,x=.Name y p:=by
 unfold ke at h
 split at h
 .rename_i e
  cases h;exact Yx e
 .cases h
noncomputable def vIsi(sc:ZK)(n:Kd)(x:Expr):Option (ZC):=match qb x with
 | some (f,[a,k])=>(match ke k with
  | some k=>if f="isinstance" /\ Fg sc f=true/\k=kdS n/\Fg sc k=true then some [a] else none
  | none=>none)
 | _=>none
theorem iz{sc:ZK}{n:Kd}{x:Expr}{xs:ZC}(h:vIsi sc n x=some xs):∃f q a k q' p,x=.Call (.Name f q) [a,.Name k q'] [] p/\(if f="isinstance" /\ Fg sc f=true/\k=kdS n/\Fg sc k=true then some [a] else none)=some xs:=by
 unfold vIsi at h
 split at h
 .rename_i e
  obtain⟨q,p,rfl⟩:=Ci e
  split at h
  .rename_i e'
   obtain⟨q',rfl⟩:=Qw e';exact⟨_,q,_,_,q',p,rfl,h⟩
  .cases h
 .cases h
def conS:Expr->Option Str
 | .Constant k _ _=>(match k with
  | .str y=>some y
  | _=>none)
 | _=>none
theorem Zjw{x:Expr}{y:Str}(h:conS x=some y):∃a b,x=.Constant (.str y) a b:=by
 cases x
 case Constant k a b=>cases k<;>first | (cases h;exact⟨a,b,rfl⟩) | cases h
 all_goals cases h
noncomputable def gq(x:Expr):Option (ZC):=match Tr x with
 | .callA o m ap [a] cp=>if m="get" /\ Nl o=true/\(ap.endLine==cp.line)=true then some [o,a] else none
 | _=>none
theorem gz{x:Expr}{xs:ZC}(h:gq x=some xs):∃o m ap a cp,x=.Call (.Attribute o m ap) [a] [] cp/\(if m="get" /\ Nl o=true/\(ap.endLine==cp.line)=true then some [o,a] else none)=some xs:=by
 unfold gq at h
 split at h
 .rename_i e;exact⟨_,_,_,_,_,Yx e,h⟩
 .cases h
noncomputable def k9(x:Expr):Option (ZC):=match Tr x with
 | .callA o m ap [a,b] cp=>if m="get" /\ Nl o=true/\(ap.endLine==cp.line)=true then some [o,a,b] else none
 | _=>none
theorem k8{x:Expr}{xs:ZC}(h:k9 x=some xs):∃o m ap a b cp,x=.Call (.Attribute o m ap) [a,b] [] cp/\(if m="get" /\ Nl o=true/\(ap.endLine==cp.line)=true then some [o,a,b] else none)=some xs:=by
 unfold k9 at h
 split at h
 .rename_i e;exact⟨_,_,_,_,_,_,Yx e,h⟩
 .cases h
noncomputable def k7(x:Str)(z:Expr):Option (ZC):=match Tr z with
 | .callA o m ap [a] cp=>(match conS o with
  | some y=>if m="join" /\ y=x/\(ap.endLine==cp.line)=true then some [a] else none
  | none=>none)
 | _=>none
theorem k6{x:Str}{z:Expr}{xs:ZC}(h:k7 x z=some xs):∃y k1 k2 m ap a cp,z=.Call (.Attribute (.Constant (.str y) k1 k2) m ap) [a] [] cp/\(if m="join" /\ y=x/\(ap.endLine==cp.line)=true then some [a] else none)=some xs:=by
 unfold k7 at h
 split at h
 .rename_i e
  split at h
  .rename_i e'
   obtain⟨k1,k2,rfl⟩:=Zjw e';exact⟨_,k1,k2,_,_,_,_,Yx e,h⟩
  .cases h
 .cases h
noncomputable def Hj(sc:ZK)(x:Expr):Option (ZC):=match qb x with
 | some (f,[y])=>(match Tr y with
  | .callA o m ap [] cp=>if f="list" /\ Fg sc f=true/\m="values" /\ Am o=true/\(ap.endLine==cp.line)=true then some [o] else none
  | _=>none)
 | _=>none
theorem qf{sc:ZK}{x:Expr}{xs:ZC}(h:Hj sc x=some xs):∃f q o m ap cp p,x=.Call (.Name f q) [.Call (.Attribute o m ap) [] [] cp] [] p/\(if f="list" /\ Fg sc f=true/\m="values" /\ Am o=true/\(ap.endLine==cp.line)=true then some [o] else none)=some xs:=by
 unfold Hj at h
 split at h
 .rename_i e
  obtain⟨q,p,rfl⟩:=Ci e
  split at h
  .rename_i e'
   cases Yx e';exact⟨_,q,_,_,_,_,p,rfl,h⟩
  .cases h
 .cases h
noncomputable def km(x:Expr):Option (ZC):=match Tr x with
 | .tup [a]=>some [a]
 | _=>none
theorem kb{x:Expr}{xs:ZC}(h:km x=some xs):∃a j p,x=.Tuple [a] j p/\some [a]=some xs:=by
 unfold km at h
 split at h
 .rename_i e
  obtain⟨j,p,e⟩:=Yx e;exact⟨_,j,p,e,h⟩
 .cases h
noncomputable def vSl2(x:Expr):Option (ZC):=match Tr x with
 | .sub a b=>(match Tr b with
  | .slc none none (some s)=>if con2 s=true then some [a] else none
  | _=>none)
 | _=>none
theorem o8{x:Expr}{xs:ZC}(h:vSl2 x=some xs):∃a s q p,x=.Subscript a (.Slice none none (some s) q) p/\(if con2 s=true then some [a] else none)=some xs:=by
 unfold vSl2 at h
 split at h
 .rename_i e
  obtain⟨p,rfl⟩:=Yx e
  split at h
  .rename_i e'
   obtain⟨q,rfl⟩:=Yx e';exact⟨_,_,q,p,rfl,h⟩
  .cases h
 .cases h
noncomputable def vBt(sc:ZK)(q:Pr)(x:Expr):Option (ZC):=match qb x with
 | some (f,a::r)=>(match btV q with
  | some (n,_)=>if f=n/\Fg sc f=true then some (a::r) else none
  | none=>none)
 | _=>none
theorem vBt_ex{sc:ZK}{q:Pr}{x:Expr}{xs:ZC}(h:vBt sc q x=some xs):∃f p0 a r p,x=.Call (.Name f p0) (a::r) [] p/\(match btV q with
  | some (n,_)=>if f=n/\Fg sc f=true then some (a::r) else none
  | none=>none)=some xs:=by
 unfold vBt at h
 split at h
 .rename_i e
  obtain⟨p0,p,rfl⟩:=Ci e;exact⟨_,p0,_,_,p,rfl,h⟩
 .cases h
noncomputable def view(sc:ZK):Pr->Expr->Option (ZC)
 | .op o=>vOp o
 | .cm c=>vCm c
 | .c2 c d=>vC2 c d
 | .neg=>vNeg
 | .ix=>vIx
 | .sl true false=>kr
 | .sl false true=>ko
 | .dnew=>gw
 | .isi n=>vIsi sc n
 | .get1=>gq
 | .get2=>k9
 | .join x=>k7 x
 | .lvals=>Hj sc
 | .tup1=>km
 | .sl2=>vSl2
 | q=>vBt sc q
noncomputable def J2:ZD:=["len","all","any","list","tuple","min","max","int","abs","dict","isinstance","sorted","set","range","zip","enumerate","sum","repr","str","bool"]
structure Ctx(X:Cx)(w:W)(k:Nat)(N:ZD)(sc:ZK):Prop where
 nN:X.N=N
 nd:N.Nodup
 nm:∀x c,sc.lookup x=some c->X.env.scope.names.lookup x=some c\/(c=.free/\X.env.scope.names.lookup x=some .cell)
 calm:X.calm=true
 room:Ue k X.A
 bn:∀x∈J2,X.mg x=none
 fn:∀f as r,w.C f as=some r->∃ps,as.length=ps.length/\Fn X.prog X.w X.K X.mg X.base k f ps (fm X.K X.mg ps.length (w.C f))
 gl:∀x t,w.gl x=some t->∃v u,X.mg x=some u/\RelV v u/\∀H F,IsT X.K X.mg H F t v
 xe:X.xe=aa
 cl:∀x,sc.lookup x=some .cell->X.fn x=true
 lam:sc=Ti->∀T,gu=some T->LamAt X T.P/\X.env.qual++Str.ofString "<lambda>"=T.q
section
variable{X:Cx}{w:W}{k:Nat}{N:ZD}{sc:ZK}
theorem Ctx.un(c:Ctx X w k N sc):X.A.units+150<cLine:=by have:=c.room.un;omega
theorem Ctx.gl'(c:Ctx X w k N sc){x:Str}(h:Fg sc x=true):Gl X x/\(x==("__debug__" : Str))=false:=by
 unfold Fg at h;rw[Vl,beq_iff_eq]at h;rcases c.nm x _ h.1 with e | ⟨z,_⟩
 .exact⟨e,by simpa using h.2⟩
 .cases z
theorem Ctx.vis(c:Ctx X w k N sc){x:Str}(h:PV.vis sc x=true):Vis X.env.scope x:=by
 unfold PV.vis at h
 split at h
 .rename_i e
  rcases c.nm x _ e with e | ⟨z,_⟩
  .exact .inl e
  .cases z
 .rename_i e
  rcases c.nm x _ e with e | ⟨z,_⟩
  .exact .inr (.inl e)
  .cases z
 .rename_i e
  rcases c.nm x _ e with e | ⟨_,e⟩
  .exact .inr (.inr e)
  .exact .inr (.inl e)
 .cases h
theorem Ctx.var(c:Ctx X w k N sc){i:Nat}{x:Str}{pos:Pos}(h:U1 N sc i x=true):PE X (.Name x pos) (tVar i):=by
 unfold U1 at h;simp only[Vl,beq_iff_eq]at h;obtain⟨⟨⟨h1,h2⟩,h3⟩,h4⟩:=h;exact cz (by rw[c.nN];exact h1) (c.vis h2) (by simpa using h3) (by simpa using h4)
theorem xm{q:Pr}{es:E}{p p':P}{r:Sl}(e:ev w (.pr q es) p=some (r,p')):∃as ts,Gb w true es p=some (as,p')/\looks p' as=some ts/\Ki q ts=some r:=by
 replace e:=(ev_prQ _ _).symm.trans e
 obtain⟨a,e1,e⟩:=ZO.mp e;obtain⟨ts,e2,e⟩:=ZO.mp e;obtain⟨s,e3,e⟩:=Yr.mp e;cases e;exact⟨a.1,ts,e1,e2,e3⟩
mutual
def ug:E->Bool
 | .k _=>true
 | .g _=>true
 | .v _=>true
 | .pr _ es=>T2 es
 | _=>false
def T2:E->Bool
 | .nil=>true
 | .cons a r=>ug a&&T2 r
 | _=>false
end
mutual
theorem calm_h:∀(a:E) {p p':P} {a':A},ug a=true->S9 true a p (toT (ev w a p))=some (a',p')->p'=p
 | .v i,p,p',a',_,e=>by
  unfold S9 at e;dsimp only at e;rw[if_pos rfl]at e
  split at e
  .cases e;rfl
  .cases e
 | .k t,p,p',a',_,e=>by cases e;rfl
 | .g x,p,p',a',_,e=>by
  have e:(toT ((w.gl x).map λt=>(Sl.f t,p))).map (λq=>(A.t q.1,q.2))=some (a',p'):=e;cases q:w.gl x with
  | none=>rw[q]at e;cases e
  | some t=>rw[q]at e;cases e;rfl
 | .pr q es,p,p',a',h,e=>by
  have e:(toT (ev w (.pr q es) p)).map (λq=>(A.t q.1,q.2))=some (a',p'):=e;obtain⟨z,e1,e2⟩:=Yr.mp e;cases e2;unfold toT at e1;obtain⟨y,e3,e4⟩:=ZO.mp e1;obtain⟨t,e5,e6⟩:=Yr.mp e4;cases e6;obtain⟨as,ts,e7,_,_⟩:=xm (r:=y.1) (p':=y.2) e3;exact Tx es h e7
 | .mv _,_,_,_,h,_=>by cases h
 | .io _,_,_,_,h,_=>by cases h
 | .nil,_,_,_,h,_=>by cases h
 | .cons _ _,_,_,_,h,_=>by cases h
 | .tup _,_,_,_,h,_=>by cases h
 | .lst _,_,_,_,h,_=>by cases h
 | .and _ _,_,_,_,h,_=>by cases h
 | .or _ _,_,_,_,h,_=>by cases h
 | .not _,_,_,_,h,_=>by cases h
 | .ite _ _ _,_,_,_,h,_=>by cases h
 | .call _ _,_,_,_,h,_=>by cases h
 | .cal _ _,_,_,_,h,_=>by cases h
 | .mt _ _ _,_,_,_,h,_=>by cases h
 | .comp _ _ _ _ _ _,_,_,_,h,_=>by cases h
 | .itr _ _,_,_,_,h,_=>by cases h
 | .tmp _,_,_,_,h,_=>by cases h
theorem Tx:∀(es:E) {p p':P} {as:List A},T2 es=true->Gb w true es p=some (as,p')->p'=p
 | .nil,p,p',as,_,e=>(Vo e).2
 | .cons a r,p,p',as,h,e=>by
  obtain⟨a',p1,as',e1,e2,rfl⟩:=Z6 e;have h:(ug a&&T2 r)=true:=h;rw[Vl]at h;exact(Tx r h.2 e2).trans (calm_h a h.1 e1)
 | .v _,_,_,_,h,_=>by cases h
 | .k _,_,_,_,h,_=>by cases h
 | .g _,_,_,_,h,_=>by cases h
 | .pr _ _,_,_,_,h,_=>by cases h
 | .mv _,_,_,_,h,_=>by cases h
 | .io _,_,_,_,h,_=>by cases h
 | .tup _,_,_,_,h,_=>by cases h
 | .lst _,_,_,_,h,_=>by cases h
 | .and _ _,_,_,_,h,_=>by cases h
 | .or _ _,_,_,_,h,_=>by cases h
 | .not _,_,_,_,h,_=>by cases h
 | .ite _ _ _,_,_,_,h,_=>by cases h
 | .call _ _,_,_,_,h,_=>by cases h
 | .cal _ _,_,_,_,h,_=>by cases h
 | .mt _ _ _,_,_,_,h,_=>by cases h
 | .comp _ _ _ _ _ _,_,_,_,h,_=>by cases h
 | .itr _ _,_,_,_,h,_=>by cases h
 | .tmp _,_,_,_,h,_=>by cases h
end
noncomputable def quiet:Pr->E->Bool
 | .c2 _ _,.cons _ (.cons _ r)=>T2 r
 | .sl true true,.cons _ (.cons _ r)=>T2 r
 | .get1,.cons _ r=>T2 r
 | .get2,.cons _ r=>T2 r
 | .c2 _ _,_=>false
 | .sl true true,_=>false
 | .get1,_=>false
 | .get2,_=>false
 | _,_=>true
theorem t5{b:Expr}(h:Ua b=true):x9 b:=λo i=>by cases b<;>first | rfl | cases h
theorem Bw{o:Expr}(h:Nl o=true)(m:Str)(env:Env)(wh:Sem Value):attributeBase o m env wh=wh:=by
 cases o<;>first | rfl | cases h
theorem sup_of{o:Expr}(h:Am o=true)(m:Str)(env:Env)(wh:Sem Value):attributeBase o m env wh=wh:=by
 unfold attributeBase
 split
 .cases h
 .rfl
theorem Zu.valT{K:W.Frag}{mg:ZV}{H F:Hp}:∀{XM:ZX} {ks:List (Key×V)},Zu K mg H F XM ks->Zj K mg H F (XM.map (·.2)) (ks.map (·.2))
 | [],ks,h=>by cases(show ks=[] from h);rfl
 | p::r,ks,h=>by
  obtain⟨q,rs,rfl,i,w⟩:=h;obtain⟨k,t⟩:=p;exact⟨_,_,rfl,i.2,Zu.valT w⟩
theorem Zjd(n:Kd):bootBuiltins (kdS n:Str)=some (.type (kdS n)):=by cases n<;>decide +kernel
theorem Zqf(n:Kd):(kdS n:Str) ≠ "__name__" := by cases n<;>decide +kernel
theorem Zjb{q:Pr}{n:Str}{fv:Value}(h:btV q=some (n,fv)):bootBuiltins n=some fv/\n ≠ "__name__" /\ n∈J2/\((∃i,fv=.builtin i)\/∃t,fv=.type t):=by
 cases q<;>cases h
 all_goals exact⟨by decide +kernel,by decide +kernel,by decide +kernel,by first | exact .inl ⟨_,rfl⟩ | exact .inr ⟨_,rfl⟩⟩
theorem Pw{es:ZC}{env:Env}{cpos:Pos}(h:∀e∈es,noStar e=true)(hl:es.length<30):((backTo cpos (starEach es env)).all (λx=>!x.1)&&(backToKw cpos (keywordEach [] env)).all (λx=>x.1.isSome)
  && decide (es.length+([]:List Keyword).length+(if ([]:List Keyword).isEmpty then 0 else 1)<30))=true:=by
 have h1:(backTo cpos (starEach es env)).all (λx=>!x.1)=true:=by
  rw[List.all_eq_not_any_not];have:=Vc es env cpos h;simp only[Bool.not_not];rw[this];rfl
 rw[h1];show (true&&true&&decide (es.length+0+0<30))=true;rw[Mz XS]
 rfl
theorem tz(c:Ctx X w k N sc){q:Pr}{es:E}{x:Expr}{xs:ZC}(hv:view sc q x=some xs)(hs:Hs X w true es xs)(h3:quiet q es=true):PE X x (LE X.K X.mg w (.pr q es)):=by
 intro XB s Z H Q I h;obtain⟨F,G,p,r,p',rel,e,kq⟩:=h;obtain⟨as,ts,e1,e2,e3⟩:=xm e;have un:=c.un;have kf:∀{F2 H2:Hp},Le F F2->Up X.K H H2->Fin X F2 G p' Z H2 r Q:=λl u F3 H3 v l3 u3=>kq F3 H3 v (l.trans l3) (u.trans u3);unfold view at hv
 split at hv
 .replace hv:=vOp_ex hv
  obtain⟨a,op,b,pp,rfl,hv⟩:=hv
  split at hv
  .rename_i ho
   cases hv;subst ho;cases hs with | cons ha _ t=>cases t with | cons hb _ t=>cases t with | nil =>
   refine pe_op opr ha hb XB s Z H Q I (L6 e1 e2 rel λF2 H2 x y t1 t2 et l u Z0 s1 s2=>?_);subst et;exactλXB s σ' v u' I rx ry=>op_run _ I Z0 rx ry s1 s2 e3 (kf l u)
  .cases hv
 .replace hv:=gv hv
  obtain⟨a,op,b,pp,rfl,hv⟩:=hv
  split at hv
  .rename_i ho
   cases hv;obtain⟨ho,hm⟩:=ho;subst ho;cases hs with | cons ha _ t=>cases t with | cons hb _ t=>cases t with | nil =>
   refine Zxk opr ha hb hm XB s Z H Q I (L6 e1 e2 rel λF2 H2 x y t1 t2 et l u Z0 s1 s2=>?_);subst et;obtain⟨b,e4,rfl⟩:=Yr.mp e3;exactλXB s σ' v u' I rx ry=>Tz _ I Z0.b.f un rx ry s1 s2 e4 ((kf l u).h Z0 rfl)
  .cases hv
 .replace hv:=gy hv
  obtain⟨a,op,Ke,b,e0,pp,rfl,hv⟩:=hv
  split at hv
  .rename_i ho
   cases hv;obtain⟨ho,B1,hm⟩:=ho;subst ho B1;cases hs with | cons ha _ t=>cases t with | cons hb _ t=>cases t with | cons hc _ t=>cases t with | nil =>
   obtain⟨a',p1,as1,q1,q2,rfl⟩:=Z6 e1;obtain⟨b',p2,as2,q3,q4,rfl⟩:=Z6 q2;obtain⟨c',p3,as3,q5,q6,rfl⟩:=Z6 q4;obtain⟨rfl,rfl⟩:=Vo q6;obtain⟨t1,r1,l1,l2,rfl⟩:=Za e2;obtain⟨t2,r2,l3,l4,rfl⟩:=Za l2;obtain⟨t3,r3,l5,l6,rfl⟩:=Za l4;cases l6;have ep:=Tx _ h3 q4;subst ep;obtain⟨b1,c1,e3⟩:=ZO.mp e3;refine cy opr opr ha hb hc hm XB s Z H Q I ⟨F,G,p,a',p1,rel,q1,λF1 H1 x wy u1 rl1 Dh=>⟨F1,G,p1,b',_,rl1,q3,λF2 H2 y K1 u2 O6 Wh=>?_⟩⟩;have s1:=O6.look l1 (Ar.up u2 K1 Dh);have s2:=O6.look l3 Wh;refineλXB s σ' v u' I rx ry=>Tz _ I O6.b.f un rx ry s1 s2 c1 ⟨b1,rfl,?_⟩;cases b1 with
   | false=>cases e3;exact(kf (wy.trans K1) (u1.trans u2)).h O6 rfl
   | true =>
    obtain⟨b2,c2,rfl⟩:=Yr.mp e3;refine⟨F2,G,_,c',_,O6,q5,λF3 H3 z le3 u3 Xo ar3=>?_⟩;exactλXB s σ' v u' I rx ry=>Tz _ I Xo.b.f un rx ry (Xo.look l3 (Ar.up u3 le3 Wh)) (Xo.look l5 ar3) c2 ((kf ((wy.trans K1).trans le3) ((u1.trans u2).trans u3)).h Xo rfl)
  .cases hv
 .replace hv:=o9 hv
  obtain⟨a,pp,rfl,hv⟩:=hv;cases hv;cases hs with | cons ha _ t=>cases t with | nil =>
  refine pe_un un_neg ha XB s Z H Q I (L7 e1 e2 rel λF2 H2 x t1 et l u Z0 s1=>?_);subst et;cases t1<;>cases e3
  cases(show x=_ from s1);exact⟨_,rfl,(kf l u).h Z0 rfl⟩
 .replace hv:=vIx_ex hv
  obtain⟨a,b,pp,rfl,hv⟩:=hv
  split at hv
  .rename_i hn
   cases hv;cases hs with | cons ha _ t=>cases t with | cons hb _ t=>cases t with | nil =>
   refine zx ixr ha hb (t5 hn) XB s Z H Q I (L6 e1 e2 rel λF2 H2 x y t1 t2 et l u Z0 s1 s2=>?_);subst et;obtain⟨z,e4,rfl⟩:=Yr.mp e3;exactλvalue slice XB s σ' v u' I rx ry hs=>ix_run I un rx ry s1 s2 e4 (λv h=>(kf l u).h Z0 h) hs
  .cases hv
 .replace hv:=kc hv
  obtain⟨a,l,qq,pp,rfl,hv⟩:=hv;cases hv;cases hs with | cons ha _ t=>cases t with | cons hb _ t=>cases t with | nil =>
  refine Rl slr ha (Qs hb) Qh XB s Z H Q I (L6 e1 e2 rel λF2 H2 x y t1 t2 et l u Z0 s1 s2=>?_);subst et;obtain⟨i,e4,e5⟩:=ZO.mp e3;cases t2<;>cases e4
  cases(show y=_ from s2);exact⟨_,rfl,λXB s σ' v vl vu sl I rx hs pl pu=>bh I Z0 rx s1 hs pl pu e5 (kf l u)⟩
 .replace hv:=kh hv
  obtain⟨a,l,qq,pp,rfl,hv⟩:=hv;cases hv;cases hs with | cons ha _ t=>cases t with | cons hb _ t=>cases t with | nil =>
  refine Rl slr ha Qh (Qs hb) XB s Z H Q I (L6 e1 e2 rel λF2 H2 x y t1 t2 et l u Z0 s1 s2=>?_);subst et;obtain⟨i,e4,e5⟩:=ZO.mp e3;cases t2<;>cases e4
  cases(show y=_ from s2);exact⟨_,rfl,λXB s σ' v vl vu sl I rx hs pl pu=>bh I Z0 rx s1 hs pl pu e5 (kf l u)⟩
 .replace hv:=gj hv
  obtain⟨pp,rfl,hv⟩:=hv;cases hv;cases hs;obtain⟨rfl,rfl⟩:=Vo e1;cases e2;cases e3;exact cw XB s Z H Q I λl hl=>let ⟨r1,r2⟩:=rel.newD (ts:=[]) (vs:=[]) hl (Io _) rfl;kq F _ _ (Le.refl _) (Zp.lay hl).up r1 r2
 .rename_i n
  replace hv:=iz hv
  obtain⟨f,qq,a,k',q1,pp,rfl,hv⟩:=hv
  split at hv
  .rename_i ho
   cases hv;obtain⟨hf,g1,hk,g2⟩:=ho;subst hf hk;cases hs with | cons ha sa t=>cases t with | nil =>
   obtain⟨gg1,gd1⟩:=c.gl' g1;obtain⟨gg2,gd2⟩:=c.gl' g2;refine Sy uf gg1 (c.bn _ XH) (show bootBuiltins "isinstance"=some (.builtin "isinstance") by decide +kernel) (Gw ha (Gw (cb gg2 (c.bn _ (by cases n<;>decide +kernel)) (Zjd n) (Zqf n) gd2) Bp rfl) (Yk sa)) XH gd1 (Yk sa) rfl XB s Z H Q I (L7 e1 e2 rel λF2 H2 x t1 et l u Z0 s1=>?_);subst et;obtain⟨b,e4,rfl⟩:=Yr.mp e3;intro XB s σ' us I rs;obtain⟨v1,v2,rfl,r1,r2⟩:=vals2 rs;cases r2;exact Zqn I r1 s1 e4 ((kf l u).h Z0 rfl)
  .cases hv
 .replace hv:=gz hv
  obtain⟨o,m,ap,a,cp,rfl,hv⟩:=hv
  split at hv
  .rename_i ho
   cases hv;obtain⟨hm,hn,hl⟩:=ho;subst hm;cases hs with | cons ha sa t=>cases t with | cons hb sb t=>cases t with | nil =>
   obtain⟨a',p1,as1,q1,q2,rfl⟩:=Z6 e1;have ep:=Tx _ h3 q2;subst ep;obtain⟨b',p2,as2,q3,q4,rfl⟩:=Z6 q2;obtain⟨rfl,rfl⟩:=Vo q4;obtain⟨t1,r1,l1,l2,rfl⟩:=Za e2;obtain⟨t2,r2,l3,l4,rfl⟩:=Za l2;cases l4;cases t1<;>first | cases e3 | skip
   obtain⟨kk,e4,rfl⟩:=Yr.mp e3;refine cv XS ha hb ⟨Bw hn _ _ _,Pw (λe m=>by cases F8.mp m;exact sb) (F7 (Nat.lt_succ_self 1) XU),hl,by rw[Yk sb];rfl⟩ XB s Z H Q I ⟨F,G,p,a',_,rel,q1,λF1 H1 x wy u1 rl1 Dh=>?_⟩;obtain⟨a,ks,rfl,h1,z1,ar⟩:=rl1.look l1 Dh;refine⟨a,rfl,.inl ⟨ks,h1⟩,F1,G,_,b',_,rl1,q3,λF2 H2 y K1 u2 O6 Wh=>?_⟩;obtain⟨a2,ks2,ea,h2,z2,ar'⟩:=O6.look l1 (Ar.up u2 K1 Dh);cases ea;cases Nh e4 (O6.look l3 Wh);obtain⟨i1,i2⟩:=Zu.val kk ar';refine⟨_,.inl ⟨ks2,kk,h2,rfl,rfl⟩,?_⟩;refine(kf (wy.trans K1) (u1.trans u2)).h O6 ?_;cases e5:Zb _ kk with
   | none=>rw[i2 e5];rfl
   | some t=>obtain⟨v,h3,h4⟩:=i1 t e5;rw[h3];exact h4
  .cases hv
 .replace hv:=k8 hv
  obtain⟨o,m,ap,a,b,cp,rfl,hv⟩:=hv
  split at hv
  .rename_i ho
   cases hv;obtain⟨hm,hn,hl⟩:=ho;subst hm;cases hs with | cons ha sa t=>cases t with | cons hb sb t=>cases t with | cons hc sc' t=>cases t with | nil =>
   obtain⟨a',p1,as1,q1,q2,rfl⟩:=Z6 e1;have ep:=Tx _ h3 q2;subst ep;obtain⟨b',p2,as2,q3,q4,rfl⟩:=Z6 q2;obtain⟨c',p3,as3,q5,q6,rfl⟩:=Z6 q4;obtain⟨rfl,ep⟩:=Vo q6;subst ep;obtain⟨t1,r1,l1,l2,rfl⟩:=Za e2;obtain⟨t2,r2,l3,l4,rfl⟩:=Za l2;obtain⟨t3,r3,l5,l6,rfl⟩:=Za l4;cases l6;cases t1<;>first | cases e3 | skip
   rename_i XM
   have e3:(if ctn t3=true then none else (keyT t2).map λk=>Sl.f ((Zb XM k).getD t3))=some r:=e3
   split at e3
   .cases e3
   rename_i hct
   obtain⟨kk,e4,rfl⟩:=Yr.mp e3;refine Sv XS ha hb hc ⟨Bw hn _ _ _,Pw (λe m=>by rcases Y8.mp m with rfl | m;exact sb;cases F8.mp m;exact sc') (F7 (Nat.lt_succ_self 2) XU),hl,by rw[Yk sb,Yk sc'];rfl⟩ XB s Z H Q I ⟨F,G,p,a',_,rel,q1,λF1 H1 x wy u1 rl1 Dh=>?_⟩;obtain⟨a,ks,rfl,h1,z1,ar⟩:=rl1.look l1 Dh;refine⟨a,rfl,.inl ⟨ks,h1⟩,F1,G,_,b',_,rl1,q3,λF2 H2 y K1 u2 O6 Wh=>⟨F2,G,_,c',_,O6,q5,λF3 H3 z le3 u3 Xo ar3=>?_⟩⟩;obtain⟨a2,ks2,ea,h2,z2,ar'⟩:=Xo.look l1 (Ar.up (u2.trans u3) (K1.trans le3) Dh);cases ea;cases Nh e4 (Xo.look l3 (Ar.up u3 le3 Wh));obtain⟨i1,i2⟩:=Zu.val kk ar';refine⟨_,.inl ⟨ks2,kk,h2,rfl,rfl⟩,?_⟩;refine(kf (wy.trans (K1.trans le3)) (u1.trans (u2.trans u3))).h Xo ?_;cases e5:Zb _ kk with
   | none =>
    rw[i2 e5];have s3:=Xo.look l5 ar3;cases t3 with
    | lst _=>exact absurd rfl hct
    | dct _=>exact absurd rfl hct
    | _=>exact s3
   | some t=>obtain⟨v,h3,h4⟩:=i1 t e5;rw[h3];exact h4
  .cases hv
 .replace hv:=k6 hv
  obtain⟨y,k1,k2,m,ap,a,cp,rfl,hv⟩:=hv
  split at hv
  .rename_i ho
   cases hv;obtain⟨hm,hy,hl⟩:=ho;subst hm hy;cases hs with | cons ha sa t=>cases t with | nil =>
   refine Sk PySem.F.plainAttrs_str PySem.F.slot_str_join PySem.F.type_str_join (λXB s Z H x xs v us Q I rx rs h=>Zx5 XB s Z H x xs v us Q I rx rs h) Qu (Gw ha Bp (Yk sa)) rfl (Pw (λe m=>by cases F8.mp m;exact sa) (F7 (Nat.lt_succ_self 1) XU)) hl (Yk sa) rfl XB s Z H Q I ⟨?_,L7 e1 e2 rel λF2 H2 x t1 et l u Z0 s1=>?_⟩
   .rfl
   subst et;cases t1<;>first | cases e3 | skip
   obtain⟨ss,e4,e5⟩:=ZO.mp e3
   split at e5
   .rename_i hz
    cases e5;obtain⟨a,vs,rfl,h1,z1,ar⟩:=s1;exact⟨_,a,ss,rfl,rfl,.inl (by rw[<-ar.strs e4];exact h1),hz,(kf l u).h Z0 rfl⟩
   .cases e5
  .cases hv
 .replace hv:=qf hv
  obtain⟨f,qq,o,m,ap,cp,pp,rfl,hv⟩:=hv
  split at hv
  .rename_i ho
   cases hv;obtain⟨hf,g1,hm,hn,hl⟩:=ho;subst hf hm;cases hs with | cons ha sa t=>cases t with | nil =>
   obtain⟨gg1,gd1⟩:=c.gl' g1;refine Sw c.calm gg1 (c.bn _ XH) ha (sup_of hn _ _ _) hl rfl XB s Z H Q I (L7 e1 e2 rel λF2 H2 x t1 et l u Z0 s1=>?_);subst et;cases t1<;>first | cases e3 | skip
   obtain⟨a,ks,rfl,h1,z1,ar⟩:=s1;exact⟨a,ks,rfl,h1,λl' hl'=>(kf l u).l Z0 hl' (by rw[Vq];exact z1) ar.valT⟩
  .cases hv
 .replace hv:=kb hv
  obtain⟨a,jj,pp,rfl,hv⟩:=hv;cases hv;cases hs with | cons ha sa t=>cases t with | nil =>
  refine Qp (Gw ha Bp (Yk sa)) XB s Z H Q I (L7 e1 e2 rel λF2 H2 x t1 et l u Z0 s1=>?_);subst et;have e3:(if scal t1=true then some (Sl.f (.tup [t1])) else none)=some r:=e3
  split at e3
  .rename_i hz
   cases e3;have it:IsT X.K X.mg H2 F2 t1 x:=by cases t1<;>first | exact s1 | cases hz
   have one:(1:Nat)<=sizeLine:=by have:=sizeLine_eq;omega
   exact⟨one,λq hq=>(kf l u).f Z0 (Zp.lay hq) ⟨q,[x],rfl,Vn.of Zq,one,Zj.up (Zp.lay hq).up (Le.refl _) _ _ (Zj.one it)⟩⟩
  .cases e3
 .replace hv:=o8 hv
  obtain⟨a,s0,qq,pp,rfl,hv⟩:=hv
  split at hv
  .rename_i ho
   cases hv;obtain⟨k1,k2,rfl⟩:=Zjv ho;cases hs with | cons ha _ t=>cases t with | nil =>
   refine Zxw ha XB s Z H Q I (L7 e1 e2 rel λF2 H2 x t1 et l u Z0 s1=>?_);subst et;obtain⟨q,e4,rfl⟩:=Yr.mp e3;cases thr_is e4;obtain⟨a,vs,rfl,h1,z1,v1,r1,rfl,i1,v2,r2,rfl,i2,v3,r3,rfl,i3,e5⟩:=s1;cases(show r3=[] from e5);exact⟨a,v1,v2,v3,rfl,h1,λl' hl=>(kf l u).f Z0 (Zp.lay hl) ⟨l',_,rfl,Vn.of Zq,by have:=sizeLine_eq;show 2<=sizeLine;omega,Zj.up (Zp.lay hl).up (Le.refl _) [q.1,q.2.2] [v1,v3] ⟨_,_,rfl,i1,_,_,rfl,i3,rfl⟩⟩⟩
  .cases hv
 .replace hv:=vBt_ex hv
  obtain⟨f,p0,a,r',pp,rfl,hv⟩:=hv
  split at hv
  .rename_i n fv hb
   split at hv
   .rename_i ho
    cases hv;obtain⟨hf,g1⟩:=ho;subst hf;obtain⟨b1,b2,b3,b4⟩:=Zjb hb;obtain⟨gg,gd⟩:=c.gl' g1;have W2:=hs.star;have fin:LA X.K X.mg w true es Z H λvs H1=>rC X fv vs H1 Q:=readN e1 e2 rel λF2 H2 vs l u Z0 se=>λXB s σ' us I rs=>bt_run hb c.calm un c.room.gd I Z0 rs se e3 (kf l u);rcases b4 with ⟨i,rfl⟩ | ⟨i,rfl⟩
    .exact Sy uf gg (c.bn _ b3) b1 hs.pa b2 gd (Yk (W2 _ V4)) (Vc _ _ _ λe m=>W2 e (Uz _ m)) XB s Z H Q I fin
    .exact jo uf gg (c.bn _ b3) b1 hs.pa b2 gd (Yk (W2 _ V4)) (Vc _ _ _ λe m=>W2 e (Uz _ m)) XB s Z H Q I fin
   .cases hv
  .cases hv
end
noncomputable def conK(t:T)(c:PySem.Const):Bool:=match t with
 | .int i=>(match c with
  | .int j=>i==j
  | _=>false)
 | .str a=>(match c with
  | .str b=>a==b
  | _=>false)
 | .bl a=>(match c with
  | .bool b=>a==b
  | _=>false)
 | .non=>(match c with
  | .none=>true
  | _=>false)
 | _=>false
def repK(t:T)(x:Expr):Bool:=match x with
 | .Constant c _ _=>conK t c
 | _=>false
def isIo:E->Bool
 | .io _=>true
 | _=>false
def Jd:E->Bool
 | .cons a r=>!isIo a&&Jd r
 | _=>true
section
variable{X:Cx}{w:W}{k:Nat}{N:ZD}{sc:ZK}
theorem snd_k{t:T}{x:Expr}(h:repK t x=true):PE X x (LE X.K X.mg w (.k t)):=by
 have fin:∀{v:V},(∀H F,IsT X.K X.mg H F t v)->∀Z H Q,LE X.K X.mg w (.k t) Z H Q->tC v Z H Q:=λhv Z H Q ⟨F,G,p,r,p',rel,e,kq⟩=>by
  cases e;exact kq F H _ (Le.refl F) (Up.refl H) rel (hv H F)
 cases x with
 | Constant c q pos =>
  replace h:conK t c=true:=h
  cases t with
  | int i=>cases c with
   | int j=>cases eq_of_beq (show (i==j)=true from h);exact PE.imp Ma (fin λ_ _=>rfl)
   | _=>cases(show false=true from h)
  | str i=>cases c with
   | str j=>cases eq_of_beq (show (i==j)=true from h);exact PE.imp Qu (fin λ_ _=>rfl)
   | _=>cases(show false=true from h)
  | bl i=>cases c with
   | bool j=>cases eq_of_beq (show (i==j)=true from h);exact PE.imp pe_bl (fin λ_ _=>rfl)
   | _=>cases(show false=true from h)
  | non=>cases c with
   | none=>exact PE.imp pe_non (fin λ_ _=>rfl)
   | _=>cases(show false=true from h)
  | _=>cases(show false=true from h)
 | _=>cases(show false=true from h)
theorem snd_g(c:Ctx X w k N sc){x y:Str}{pos:Pos}(h:(x==y&&Fg sc y)=true):PE X (.Name y pos) (LE X.K X.mg w (.g x)):=by
 rw[Vl,beq_iff_eq]at h;obtain⟨rfl,h⟩:=h;obtain⟨g1,g2⟩:=c.gl' h;intro XB s Z H Q I ⟨F,G,p,r,p',rel,e,kq⟩
 replace e:=(ev_gQ _).symm.trans e
 obtain⟨t,e1,e2⟩:=Yr.mp e;cases e2;obtain⟨v,u,h1,h2,h3⟩:=c.gl x t e1;exact zq g1 h1 h2 g2 XB s Z H Q I (kq F H v (Le.refl F) (Up.refl H) rel (h3 H F))
theorem X0{F G H:Hp}{p p':P}{Z:L2.St}{i:Nat}{t:T}(rel:Rel X.K X.mg F G p Z H)(e:read p i=some (t,p')):∃F' v,Le F F'/\Rel X.K X.mg F' G p' Z H/\Z[i]?=some (some v)/\IsT X.K X.mg H F' t v:=by
 unfold read at e
 split at e
 .rename_i u q
  cases e;obtain⟨v,h1,h2⟩:=rel.fz i _ q;exact⟨F,v,Le.refl F,rel,h1,h2⟩
 .rename_i u q
  cases e;exact rel.freezeAt q
 .cases e
theorem snd_v(c:Ctx X w k N sc){i:Nat}{y:Str}{pos:Pos}(h:U1 N sc i y=true):PE X (.Name y pos) (LE X.K X.mg w (.v i)):=by
 intro XB s Z H Q I ⟨F,G,p,r,p',rel,e,kq⟩
 replace e:=(ev_vQ _).symm.trans e
 obtain⟨q,e1,e2⟩:=Yr.mp e;cases e2;obtain⟨F',v,l,Yt,hv,ht⟩:=X0 rel e1;exact c.var h XB s Z H Q I ⟨v,hv,kq F' H v l (Up.refl H) Yt ht⟩
theorem snd_mv(c:Ctx X w k N sc){i:Nat}{y:Str}{pos:Pos}(h:U1 N sc i y=true):PE X (.Name y pos) (LE X.K X.mg w (.mv i)):=by
 intro XB s Z H Q I ⟨F,G,p,r,p',rel,e,kq⟩
 replace e:=(ev_mvQ _).symm.trans e
 split at e
 .rename_i t q
  cases e;obtain⟨a,h1,h2,h3,h4⟩:=rel.ow i t q;refine c.var h XB s Z H Q I ⟨.ref a,h1,kq F H _ (Le.refl F) (Up.refl H) (rel.drop i) ⟨a,rfl,h2,h3,h4,λj u e z=>?_⟩⟩;rcases Z7 e with ⟨_,y⟩ | ⟨n,e⟩
  .cases y
  .exact n (rel.ap j i u t a e q z h1)
 .rename_i t q
  cases e;obtain⟨v,h1,h2⟩:=rel.fz i t q;exact c.var h XB s Z H Q I ⟨v,h1,kq F H _ (Le.refl F) (Up.refl H) rel h2⟩
 .cases e
theorem snd_hd{m:Bool}{a:E}{x:Expr}(hio:∀i,a≠.io i)(hv:∀i,a≠.v i)(h:PE X x (LE X.K X.mg w a)):PE X x (LH X.K X.mg w m a):=by
 intro XB s Z H Q I ⟨F,G,p,a',p',rel,e,kq⟩
 have e:(toT (ev w a p)).map (λq=>(A.t q.1,q.2))=some (a',p'):=by
  unfold S9 at e
  split at e
  .exact absurd rfl (hio _)
  .exact absurd rfl (hv _)
  .exact e
 obtain⟨z,e1,e2⟩:=Yr.mp e;cases e2;unfold toT at e1;obtain⟨y,e3,e4⟩:=ZO.mp e1;obtain⟨t,e5,e6⟩:=Yr.mp e4;cases e6;refine h XB s Z H Q I ⟨F,G,p,y.1,y.2,rel,e3,λF1 H1 v l1 u1 Z1 rs=>?_⟩;obtain⟨F2,l2,Z0,ht⟩:=Z1.thaw e5 rs;exact kq F2 H1 v (l1.trans l2) u1 Z0 ht
theorem snd_hv(c:Ctx X w k N sc){m:Bool}{i:Nat}{y:Str}{pos:Pos}(h:U1 N sc i y=true):PE X (.Name y pos) (LH X.K X.mg w m (.v i)):=by
 intro XB s Z H Q I ⟨F,G,p,a',p',rel,e,kq⟩;unfold S9 at e;dsimp only at e
 split at e
 .split at e
  .rename_i hd
   cases e;unfold done at hd
   split at hd
   .rename_i t q
    obtain⟨v,h1,h2⟩:=rel.fz i t q;exact c.var h XB s Z H Q I ⟨v,h1,kq F H v (Le.refl F) (Up.refl H) rel h1⟩
   .rename_i t q
    obtain⟨a,h1,_⟩:=rel.ow i t q;exact c.var h XB s Z H Q I ⟨_,h1,kq F H _ (Le.refl F) (Up.refl H) rel h1⟩
   .cases hd
  .cases e
 .obtain⟨q,e1,e2⟩:=Yr.mp e;cases e2;obtain⟨F',v,l,Yt,hv,ht⟩:=X0 rel e1;exact c.var h XB s Z H Q I ⟨v,hv,kq F' H v l (Up.refl H) Yt ht⟩
theorem Ra:∀(es:E) {xs:ZC},Hs X w false es xs->∀{p p':P} {as:List A},Gb w false es p=some (as,p')->Jd es=true->∀a∈as,∃t,a=A.t t
 | _,_,.nil,p,p',as,e,_,a,m=>by rw[(Vo e).1]at m;exact absurd m U2
 | .cons b r,_,.cons _ _ t,p,p',as,e,h,a,m=>by
  obtain⟨a',p1,as',e1,e2,rfl⟩:=Z6 e;have h:(!isIo b&&Jd r)=true:=h;rw[Vl]at h;rcases Y8.mp m with rfl | m
  .have key:∀x,S9 false b p x=some (a,p1)->isIo b=false->∃t,a=A.t t:=λx e h=>by
    unfold S9 at e
    split at e
    .cases h
    .obtain⟨q,_,e3⟩:=Yr.mp (show (read p _).map _=_ from e);cases e3;exact⟨_,rfl⟩
    .obtain⟨q,_,e3⟩:=Yr.mp e;cases e3;exact⟨_,rfl⟩
   exact key _ e1 (by simpa using h.1)
  .exact Ra r t e2 h.2 a m
theorem Zzq{es:E}{xs:ZC}{j:Nat}{pos:Pos}(hs:Hs X w false es xs)(hn:Jd es=true):PE X (.Tuple xs j pos) (LE X.K X.mg w (.tup es)):=by
 intro XB s Z H Q I ⟨F,G,p,r,p',rel,e,kq⟩
 replace e:=(Zq5 _).symm.trans e
 obtain⟨a,e1,e⟩:=ZO.mp e;obtain⟨ts,e2,e⟩:=ZO.mp e
 split at e
 .rename_i hz
  cases e;have nt:=Ra es hs e1 hn;refine Qp hs.pa XB s Z H Q I ⟨F,G,p,a.1,a.2,rel,e1,λF1 H1 vs l1 u1 Z1 ar=>?_⟩;have at':=By nt e2 ar;refine⟨by rw[<-at'.length];exact hz,λq hq=>kq F1 _ _ l1 (u1.trans (Zp.lay hq).up) (Z1.same (Zp.lay hq)) ⟨q,vs,rfl,Vn.of Zq,by rw[<-at'.length];exact hz,Zj.up (Zp.lay hq).up (Le.refl _) _ _ at'⟩⟩
 .cases e
theorem Zzv{es:E}{xs:ZC}{pos:Pos}(hs:Hs X w false es xs)(hn:Jd es=true):PE X (.List xs pos) (LE X.K X.mg w (.lst es)):=by
 intro XB s Z H Q I ⟨F,G,p,r,p',rel,e,kq⟩
 replace e:=(Zq7 _).symm.trans e
 obtain⟨a,e1,e⟩:=ZO.mp e;obtain⟨ts,e2,e⟩:=ZO.mp e
 split at e
 .rename_i hz
  cases e;have nt:=Ra es hs e1 hn;refine pe_lst hs.pa XB s Z H Q I ⟨F,G,p,a.1,a.2,rel,e1,λF1 H1 vs l1 u1 Z1 ar=>?_⟩;have at':=By nt e2 ar;have z:vs.length<=sizeLine:=by rw[<-at'.length];exact hz
  exact⟨z,λq hq=>let ⟨r1,r2⟩:=Z1.newL hq z at';kq F1 _ _ l1 (u1.trans (Zp.lay hq).up) r1 r2⟩
 .cases e
theorem Zwg{e:E}{Z:L2.St}{H:Hp}{R:Bool->Hp->Prop}(h:LB X.K X.mg w e Z H R):LE X.K X.mg w e Z H λv H'=>∃b,v=.bl b/\R b H':=by
 obtain⟨F,G,p,b,p',rel,e,kq⟩:=h;unfold G2 at e;obtain⟨y,e1,e2⟩:=ZO.mp e
 split at e2
 .rename_i b' q
  cases e2;refine⟨F,G,p,y.1,y.2,rel,e1,λF' H' v l u Yt rs=>?_⟩;rw[q]at rs;exact⟨_,rs,kq F' H' l u Yt⟩
 .cases e2
theorem Zj5{e:E}{x:Expr}(h:PE X x (LE X.K X.mg w e))(he:∀whole,isTrue x X.env whole=(do let v <-whole;standAt x.pos;holding [v] (truthy v))):PT X x (LB X.K X.mg w e):=λXB s Z H R I q=>by
 refine pt_val h he XB s Z H R I ?_;obtain⟨F,G,p,r,p',rel,e,kq⟩:=Zwg q;exact⟨F,G,p,r,p',rel,e,λF' H' v l u Yt rs=>let ⟨b,e1,h1⟩:=kq F' H' v l u Yt rs;⟨b,e1,h1⟩⟩
theorem Bd{o:Option (Sl×P)}{b:Bool}{p:P}(h:G2 o=some (b,p)):o=some (.f (.bl b),p):=by
 unfold G2 at h;obtain⟨y,e1,e2⟩:=ZO.mp h
 split at e2
 .rename_i b' q
  cases e2;rw[e1, <-q]
 .cases e2
theorem snd_and{a b:E}{x y:Expr}{r:ZC}{pos:Pos}(ha:PE X x (LE X.K X.mg w a))(hb:PE X (.BoolOp .And (y::r) pos) (LE X.K X.mg w b)):PE X (.BoolOp .And (x::y::r) pos) (LE X.K X.mg w (.and a b)):=by
 intro XB s Z H Q I ⟨F,G,p,r',p',rel,e,kq⟩
 replace e:=(xn _ _).symm.trans e
 obtain⟨q,e1,e2⟩:=ZO.mp e;refine pe_and ha hb XB s Z H Q I ⟨F,G,p,_,_,rel,Bd e1,λF' H' v l u Yt rs=>⟨q.1,rs,?_⟩⟩
 split
 .rename_i hq
  rw[if_pos hq]at e2;exact⟨F',G,q.2,r',p',Yt,e2,λF2 H2 v l2 u2=>kq F2 H2 v (l.trans l2) (u.trans u2)⟩
 .rename_i hq
  rw[if_neg hq]at e2;cases e2;exact kq F' H' _ l u Yt rfl
theorem snd_or{a b:E}{x y:Expr}{r:ZC}{pos:Pos}(ha:PE X x (LE X.K X.mg w a))(hb:PE X (.BoolOp .Or (y::r) pos) (LE X.K X.mg w b)):PE X (.BoolOp .Or (x::y::r) pos) (LE X.K X.mg w (.or a b)):=by
 intro XB s Z H Q I ⟨F,G,p,r',p',rel,e,kq⟩
 replace e:=(pf _ _).symm.trans e
 obtain⟨q,e1,e2⟩:=ZO.mp e;refine pe_or ha hb XB s Z H Q I ⟨F,G,p,_,_,rel,Bd e1,λF' H' v l u Yt rs=>⟨q.1,rs,?_⟩⟩
 split
 .rename_i hq
  rw[if_pos hq]at e2;cases e2;exact kq F' H' _ l u Yt rfl
 .rename_i hq
  rw[if_neg hq]at e2;exact⟨F',G,q.2,r',p',Yt,e2,λF2 H2 v l2 u2=>kq F2 H2 v (l.trans l2) (u.trans u2)⟩
theorem Zzw{a:E}{x:Expr}{pos:Pos}(ha:PE X x (LE X.K X.mg w a)):PE X (.UnaryOp .Not x pos) (LE X.K X.mg w (.not a)):=by
 intro XB s Z H Q I ⟨F,G,p,r',p',rel,e,kq⟩
 replace e:=(xt _).symm.trans e
 obtain⟨q,e1,e2⟩:=Yr.mp e;cases e2;exact pe_not ha XB s Z H Q I ⟨F,G,p,_,_,rel,Bd e1,λF' H' v l u Yt rs=>⟨q.1,rs,kq F' H' _ l u Yt rfl⟩⟩
theorem Zzk{a b c:E}{x y z:Expr}{pos:Pos}(hc:PT X z (LB X.K X.mg w c))(ha:PE X x (LE X.K X.mg w a))(hb:PE X y (LE X.K X.mg w b)):PE X (.IfExp z x y pos) (LE X.K X.mg w (.ite c a b)):=by
 intro XB s Z H Q I ⟨F,G,p,r',p',rel,e,kq⟩
 replace e:=(Zq9 _ _ _).symm.trans e
 obtain⟨q,e1,e2⟩:=ZO.mp e;refine cq hc ha hb XB s Z H Q I ⟨F,G,p,q.1,q.2,rel,e1,λF' H' l u Yt=>?_⟩;show if q.1=true then LE X.K X.mg w a Z H' Q else LE X.K X.mg w b Z H' Q
 split
 .rename_i hq
  rw[if_pos hq]at e2;exact⟨F',G,q.2,r',p',Yt,e2,λF2 H2 v l2 u2=>kq F2 H2 v (l.trans l2) (u.trans u2)⟩
 .rename_i hq
  rw[if_neg hq]at e2;exact⟨F',G,q.2,r',p',Yt,e2,λF2 H2 v l2 u2=>kq F2 H2 v (l.trans l2) (u.trans u2)⟩
theorem i6{a b:E}{x y:Expr}{r:ZC}{pos:Pos}(ha:PT X x (LB X.K X.mg w a))(hb:PW X (.BoolOp .And (y::r) pos) (LB X.K X.mg w b)):PW X (.BoolOp .And (x::y::r) pos) (LB X.K X.mg w (.and a b)):=by
 intro wh XB s Z H Q I ⟨F,G,p,c,p',rel,e,kq⟩;have e:=Bd e
 replace e:=(xn _ _).symm.trans e
 obtain⟨q,e1,e2⟩:=ZO.mp e;refine pw_and ha hb wh XB s Z H Q I ⟨F,G,p,q.1,q.2,rel,e1,λF' H' l u Yt=>?_⟩;show if q.1=true then LB X.K X.mg w b Z H' Q else Q false H'
 split
 .rename_i hq
  rw[if_pos hq]at e2;exact⟨F',G,q.2,c,p',Yt,by unfold G2;rw[e2];rfl,λF2 H2 l2 u2=>kq F2 H2 (l.trans l2) (u.trans u2)⟩
 .rename_i hq
  rw[if_neg hq]at e2;cases e2;exact kq F' H' l u Yt
theorem snt_or{a b:E}{x y:Expr}{r:ZC}{pos:Pos}(ha:PT X x (LB X.K X.mg w a))(hb:PW X (.BoolOp .Or (y::r) pos) (LB X.K X.mg w b)):PW X (.BoolOp .Or (x::y::r) pos) (LB X.K X.mg w (.or a b)):=by
 intro wh XB s Z H Q I ⟨F,G,p,c,p',rel,e,kq⟩;have e:=Bd e
 replace e:=(pf _ _).symm.trans e
 obtain⟨q,e1,e2⟩:=ZO.mp e;refine pw_or ha hb wh XB s Z H Q I ⟨F,G,p,q.1,q.2,rel,e1,λF' H' l u Yt=>?_⟩;show if q.1=true then Q true H' else LB X.K X.mg w b Z H' Q
 split
 .rename_i hq
  rw[if_pos hq]at e2;cases e2;exact kq F' H' l u Yt
 .rename_i hq
  rw[if_neg hq]at e2;exact⟨F',G,q.2,c,p',Yt,by unfold G2;rw[e2];rfl,λF2 H2 l2 u2=>kq F2 H2 (l.trans l2) (u.trans u2)⟩
theorem i5{a:E}{x:Expr}{pos:Pos}(ha:PT X x (LB X.K X.mg w a)):PT X (.UnaryOp .Not x pos) (LB X.K X.mg w (.not a)):=by
 intro XB s Z H Q I ⟨F,G,p,c,p',rel,e,kq⟩;have e:=Bd e
 replace e:=(xt _).symm.trans e
 obtain⟨q,e1,e2⟩:=Yr.mp e;cases e2;exact pt_not ha XB s Z H Q I ⟨F,G,p,q.1,q.2,rel,e1,λF' H' l u Yt=>kq F' H' l u Yt⟩
open Classical in
theorem Rel.freezeAll{K:PySem.W.Frag}{mg:ZV}{F G H:Hp}{p:P}{Z:L2.St}(r:Rel K mg F G p Z H):∃F',Le F F'/\Rel K mg F' G (frz p) Z H/\∀(i:Nat) (t:T) (a:Addr),p[i]?=some (Sl.o t)->Z[i]?=some (some (V.ref a))->F' a=H a:=by
 let F':Hp:=λa=>if ∃(i:Nat) (t:T),p[i]?=some (Sl.o t)/\Z[i]?=some (some (V.ref a)) then H a else F a
 have fI:∀{a:Addr} {i:Nat} {t:T},p[i]?=some (Sl.o t)->Z[i]?=some (some (V.ref a))->F' a=H a:=λ{a i t} h1 h2=>if_pos ⟨i,t,h1,h2⟩;have fO:∀{a:Addr},(¬ ∃(i:Nat) (t:T),p[i]?=some (Sl.o t)/\Z[i]?=some (some (V.ref a)))->F' a=F a:=λ{a} h=>if_neg h
 have l:Le F F':=λa o e=>by
  refine(fO λ⟨i,t,h1,h2⟩=>?_).trans e;obtain⟨b,h3,h4,_⟩:=r.ow i t h1;rw[h2]at h3;cases h3;rw[e]at h4;cases h4
 refine⟨F',l,⟨⟨λa o e=>?_,r.b.g,λa e=>?_,λT e=>let ⟨f1,g1,t1⟩:=r.b.t T e;⟨(fO λ⟨i,t,h1,h2⟩=>by
  obtain⟨b,h3,_,_,h4⟩:=r.ow i t h1;rw[h2]at h3;cases h3;exact h4.ne t1 rfl).trans f1,g1,t1⟩⟩,λi t e=>?_,λi t e=>?_,λi j t u a e=>?_,by unfold frz;rw[Vq];exact r.ln⟩,λi t a h1 h2=>fI h1 h2⟩
 .by_cases h:∃(i:Nat) (t:T),p[i]?=some (Sl.o t)/\Z[i]?=some (some (V.ref a))
  .obtain⟨i,t,h1,h2⟩:=h;rw[fI h1 h2]at e;exact e
  .rw[fO h]at e;exact r.b.f a o e
 .by_cases h:∃(i:Nat) (t:T),p[i]?=some (Sl.o t)/\Z[i]?=some (some (V.ref a))
  .obtain⟨i,t,h1,h2⟩:=h;obtain⟨b,h3,_,h5,_⟩:=r.ow i t h1;rw[h2]at h3;cases h3;exact h5
  .rw[fO h]at e;exact r.b.d a e
 .unfold frz at e;rw[Oj]at e;obtain⟨x,e1,e2⟩:=Yr.mp e;cases x with
  | no=>cases e2
  | f u =>
   cases e2;obtain⟨v,h1,h2⟩:=r.fz i _ e1;exact⟨v,h1,IsT.up (Up.refl H) l _ v h2⟩
  | o u =>
   cases e2;obtain⟨a,h1,h2,h3,h4⟩:=r.ow i _ e1;obtain⟨o,ho⟩:=h4.some;exact⟨_,h1,Rh h4 ho l ((fI e1 h1).trans ho)⟩
 .unfold frz at e;rw[Oj]at e;obtain⟨x,e1,e2⟩:=Yr.mp e;cases x<;>cases e2
 .unfold frz at e;rw[Oj]at e;obtain⟨x,e1,e2⟩:=Yr.mp e;cases x<;>cases e2
theorem Ol{o:Option (Sl×P)}{q:T×P}(e:toF o=some q):∃y:Sl×P,o=some y/\y=(.f q.1,q.2):=by
 unfold toF at e;obtain⟨⟨r,p⟩,e1,e2⟩:=ZO.mp e;cases r with
 | f t=>cases e2;exact⟨_,e1,rfl⟩
 | _=>cases e2
theorem Zzj{a:E}{x:Expr}(ha:PE X x (LE X.K X.mg w a)):PE X x (LE X.K X.mg w (.tmp a)):=by
 intro XB s Z H Q I ⟨F,G,p,r,p',rel,e,kq⟩
 replace e:=(Zq6 _).symm.trans e
 obtain⟨q,e1,e2⟩:=ZO.mp e
 split at e2
 .rename_i hs
  cases e2;obtain⟨F1,l1,Z1,own⟩:=rel.freezeAll;obtain⟨⟨y,p1⟩,e3,e4⟩:=Ol e1;cases e4;refine ha XB s Z H Q I ⟨F1,G,frz _,_,_,Z1,e3,λF2 H2 v l2 u2 Z0 rs=>?_⟩;obtain⟨F3,l3,Bs,ht⟩:=Z0.thaw (t:=q.1) rfl rs;have l13:=l2.trans l3
  have rel0:Rel X.K X.mg F G _ Z H2:=⟨⟨λa o e=>Bs.b.f a o (l13 a o (l1 a o e)),Bs.b.g,rel.b.d,λT e=>⟨(rel.b.t T e).f,(rel.b.t T e).g,(Bs.b.t T e).h⟩⟩,λi t e=>let ⟨v,h1,h2⟩:=rel.fz i t e;⟨v,h1,IsT.up u2 (Le.refl F) t v h2⟩,λi t e=>by
   obtain⟨a,h1,h2,h3,h4⟩:=rel.ow i t e;obtain⟨o,ho⟩:=h4.some;exact⟨a,h1,h2,h3,h4.up u2 (Le.refl F) ((Bs.b.f a o (l13 a o ((own i t a e h1).trans ho))).trans ho.symm)⟩,rel.ap,rel.ln⟩
  refine kq F H2 v (Le.refl F) u2 rel0 ?_;obtain⟨t,_⟩:=q;cases t<;>first | exact ht | cases hs
 .cases e2
theorem i4{a:E}{x:Expr}(ha:PT X x (LB X.K X.mg w a)):PT X x (LB X.K X.mg w (.tmp a)):=by
 intro XB s Z H Q I ⟨F,G,p,b,p',rel,e,kq⟩;unfold G2 at e;obtain⟨r,e0,e9⟩:=ZO.mp e;unfold ev at e0;obtain⟨q,e1,e2⟩:=ZO.mp e0
 split at e2
 .rename_i hs
  cases e2;obtain⟨F1,l1,Z1,own⟩:=rel.freezeAll;obtain⟨⟨y,p1⟩,e3,e4⟩:=Ol e1;cases e4;obtain⟨t,p2⟩:=q;cases t with
  | bl c =>
   cases e9;refine ha XB s Z H Q I ⟨F1,G,frz _,_,_,Z1,by unfold G2;rw[e3];rfl,λF2 H2 l2 u2 Bs=>?_⟩
   have rel0:Rel X.K X.mg F G _ Z H2:=⟨⟨λa o e=>Bs.b.f a o (l2 a o (l1 a o e)),Bs.b.g,rel.b.d,λT e=>⟨(rel.b.t T e).f,(rel.b.t T e).g,(Bs.b.t T e).h⟩⟩,λi t e=>let ⟨v,h1,h2⟩:=rel.fz i t e;⟨v,h1,IsT.up u2 (Le.refl F) t v h2⟩,λi t e=>by
    obtain⟨a,h1,h2,h3,h4⟩:=rel.ow i t e;obtain⟨o,ho⟩:=h4.some;exact⟨a,h1,h2,h3,h4.up u2 (Le.refl F) ((Bs.b.f a o (l2 a o ((own i t a e h1).trans ho))).trans ho.symm)⟩,rel.ap,rel.ln⟩
   exact kq F H2 (Le.refl F) u2 rel0
  | _=>cases e9
 .cases e2
end
section
variable{X:Cx}{w:W}{k:Nat}{N:ZD}{sc:ZK}
theorem bt(c:Ctx X w k N sc){f:Str}{es:E}{x:Expr}{xs:ZC}{p0 pos:Pos}(hs:Hs X w false es (x::xs))(hg:Fg sc f=true):PE X (.Call (.Name f p0) (x::xs) [] pos) (LE X.K X.mg w (.call f es)):=by
 intro XB s Z H Q I ⟨F,G,p,r,p',rel,e,kq⟩
 replace e:=(pd _ _).symm.trans e
 obtain⟨a,e1,e⟩:=ZO.mp e;obtain⟨sl,e2,e⟩:=ZO.mp e;obtain⟨rr,e3,e⟩:=ZO.mp e;obtain⟨p2,e4,e⟩:=Yr.mp e;cases e;obtain⟨ps,hl,Gf⟩:=c.fn f sl rr e3;obtain⟨gg,gd⟩:=c.gl' hg;have W2:=hs.star;refine cf Gf c.room gg hs.pa gd (Yk (W2 _ V4)) (Vc _ _ _ λe m=>W2 e (Uz _ m)) XB s Z H Q I ⟨F,G,p,a.1,a.2,rel,e1,λF1 H1 vs l1 u1 Z1 ar=>?_⟩;show fm X.K X.mg ps.length (w.C f) (vs++[]) H1 Q E0;rw[XQ];exact Z1.call ar e2 e3 e4 (by rw[<-Paired.length ar, <-Ds e2];exact hl) λF' H' v l u=>kq F' H' v (l1.trans l) (u1.trans u)
theorem Zzg(c:Ctx X w k N sc){i:Nat}{y:Str}{es:E}{x:Expr}{xs:ZC}{p0 pos:Pos}(hs:Hs X w false es (x::xs))(hg:U1 N sc i y=true):PE X (.Call (.Name y p0) (x::xs) [] pos) (LE X.K X.mg w (.cal i es)):=by
 intro XB s Z H Q I ⟨F,G,p,r,p',rel,e,kq⟩
 replace e:=(Zjz _ _).symm.trans e
 split at e
 .rename_i f ef
  obtain⟨a,e1,e⟩:=ZO.mp e;obtain⟨sl,e2,e⟩:=ZO.mp e;obtain⟨rr,e3,e⟩:=ZO.mp e;obtain⟨p2,e4,e⟩:=Yr.mp e;cases e;obtain⟨ps,hl,f',fd,Fk,b,kp,m⟩:=c.fn f sl rr e3;obtain⟨v,hv,a',rfl,hm⟩:=rel.fz i _ ef;rw[m]at hm;cases hm;have W2:=hs.star;refine cg (c.var hg) hs.pa (Yk (W2 _ V4)) (Vc _ _ _ λe m=>W2 e (Uz _ m)) XB s Z H Q I ⟨_,hv,f',ps,_,rfl,⟨⟨k,fd,Fk,b,c.room⟩,kp⟩,F,G,p,a.1,a.2,rel,e1,λF1 H1 vs l1 u1 Z1 ar=>?_⟩;exact Z1.call ar e2 e3 e4 (by rw[<-Paired.length ar, <-Ds e2];exact hl) λF' H' v l u=>kq F' H' v (l1.trans l) (u1.trans u)
 .cases e
theorem Hv{K:PySem.W.Frag}{mg:ZV}{H F:Hp}{a:Addr}{t:T}{o:HO}(h:W6 K mg H F a t):Up K H (upd H a o):=by
 cases t with
 | lst ts=>obtain⟨vs,q,_⟩:=h;exact Hw q
 | dct ts =>
  obtain⟨ks,q,_⟩:=h;intro c xs r
  have ne:∀u,H c=some u->(∀ys,u≠.dK ys)->c≠a:=λu e n z=>by
   rw[z,q]at e;cases e;exact n _ rfl
  rcases r with (r | ⟨u,r⟩) | r
  .exact .inl (.inl (by rw[Zz (ne _ r λ_ z=>nomatch z)];exact r))
  .exact .inl (.inr ⟨u,by rw[Zz (ne _ r λ_ z=>nomatch z)];exact r⟩)
  .exact .inr r
 | _=>exact h.elim
theorem Rel.mut{K:PySem.W.Frag}{mg:ZV}{F G H:Hp}{p:P}{Z:L2.St}{i:Nat}{t t':T}{a:Addr}{o:HO}(r:Rel K mg F G p Z H)(e:p[i]?=some (Sl.o t))(hσ:Z[i]?=some (some (V.ref a)))(h:W6 K mg (upd H a o) F a t'):Up K H (upd H a o)/\Rel K mg F G (p.set i (.o t')) Z (upd H a o):=by
 obtain⟨a',h1,h2,h3,h4⟩:=r.ow i t e;rw[hσ]at h1;cases h1;have u:Up K H (upd H a o):=Hv h4;obtain⟨o0,e0⟩:=h4.some;refine⟨u,⟨λb x q=>?_,λb x q=>?_,r.b.d,λT e=>let ⟨f1,g1,t1⟩:=r.b.t T e;⟨f1,g1,t1.upd e0 (h4.pln e0)⟩⟩,λj u' q=>?_,λj u' q=>?_,λj l t1 t2 b q1 q2=>?_,by rw[XY];exact r.ln⟩
 .rw[Zz λz=>by rw[z,h2]at q;cases q];exact r.b.f b x q
 .rw[Zz λz=>by rw[z,h3]at q;cases q];exact r.b.g b x q
 .rcases Z7 q with ⟨_,z⟩ | ⟨_,q⟩
  .cases z
  .obtain⟨v,g1,g2⟩:=r.fz j _ q;exact⟨v,g1,IsT.up u (Le.refl F) _ v g2⟩
 .rcases Z7 q with ⟨z,y⟩ | ⟨n,q⟩
  .cases y;subst z;exact⟨a,hσ,h2,h3,h⟩
  .obtain⟨b,g1,g2,g3,g4⟩:=r.ow j _ q;have nb:b≠a:=λz=>by subst z;exact n (r.ap j i _ _ b q e g1 hσ)
   exact⟨b,g1,g2,g3,g4.up u (Le.refl F) (Zz nb)⟩
 .have own:∀{j:Nat} {t1:T},(p.set i (Sl.o t'))[j]?=some (Sl.o t1)->∃t2,p[j]?=some (Sl.o t2):=λ{j t1} q=>by
   rcases Z7 q with ⟨z,y⟩ | ⟨_,q⟩
   .subst z;exact⟨t,e⟩
   .exact⟨_,q⟩
  obtain⟨_,q1⟩:=own q1;obtain⟨_,q2⟩:=own q2;exact r.ap j l _ _ b q1 q2
noncomputable def mtN:Mt->Str
 | .append => "append"
 | .extend => "extend"
 | .pop => "pop"
 | .popAt => "pop"
 | .insert => "insert"
noncomputable def mtI:Mt->String
 | .append => "list.append"
 | .extend => "list.extend"
 | .pop => "list.pop"
 | .popAt => "list.pop"
 | .insert => "list.insert"
def rM(X:Cx)(id:String):V->ZQ->Hp->VK->Prop:=λx xs H Q=>∀XB s Z v us,Inv X XB Z H s->RelV x v->Zd xs us->wpAny (model X.prog X.w) X.A (call (.builtin id) (v::us)) (EP X XB Z Q) X.xe s
theorem mtr{id:String}:MtR X id (rM X id):=λXB s Z _ _ _ v us _ I rx rs h=>h XB s Z v us I rx rs
theorem Zx6{XB:ZY}{s:Shared}{Z:L2.St}{H:Hp}{l b:Addr}{xs zs:ZQ}{Q:VK}(I:Inv X XB Z H s)(hH:H l=some (.lst xs))(hB:Rd H b (.lst zs))(ne:l≠b)(hz:xs.length+zs.length<=sizeLine)(q:Q .non (upd H l (.lst (xs++zs)))) :
  wpAny (model X.prog X.w) X.A (call (.builtin "list.extend") [.ref l,.ref b]) (EP X XB Z Q) X.xe s:=by
 obtain⟨z,XD,n,r,hl,e⟩:=I.lstM hH;obtain⟨z2,So,n2,r2,hl2,e2⟩:=lstR I hB;have hsz:XD.toArray.size+So.toArray.size<=sizeLine:=by rw[Ul,Ul];omega
 have hlong:¬ (!XD.toArray.isEmpty&&Builtin.List.listTooLong (XD.toArray.size+So.toArray.size))=true:=by
  rw[lq hsz,Bool.and_false];exact Nj
 refine call_meets F.slot_list_extend ⟨_,e,rfl⟩ F.entry_list_extend (F.args_list_extend_2 _ _)
  (AutoSeq1.list_extend_list_list_0 l XD.toArray n b So.toArray n2 hlong (by rw[Ul];omega) XS) ⟨e,e2,?_⟩
 refine⟨.non,_,I.lset (its':=XD++So) hH e XA (r.append r2) ?_,rfl,q⟩;rw[W7];omega
theorem Zj.erase{K:PySem.W.Frag}{mg:ZV}{H F:Hp}:∀{ts:ZZ} {vs:ZQ} (n:Nat),Zj K mg H F ts vs->Zj K mg H F (ts.eraseIdx n) (vs.eraseIdx n)
 | [],vs,n,h=>by cases(show vs=[] from h);rfl
 | t::ts,vs,0,h=>by obtain⟨v,r,rfl,q,w⟩:=h;exact w
 | t::ts,vs,n+1,h=>by obtain⟨v,r,rfl,q,w⟩:=h;exact⟨v,_,rfl,q,Zj.erase n w⟩
theorem mt_run{XB:ZY}{s:Shared}{Z σ':L2.St}{F₁ G H:Hp}{p:P}{i:Nat}{m:Mt}{t t' z:T}{ts:ZZ}{a:Addr}{vs:ZQ}{us:ZM}{Q:VK}(I:Inv X XB σ' H s)(rel:Rel X.K X.mg F₁ G p Z H)(e:p[i]?=some (Sl.o t))(hσ:Z[i]?=some (some (V.ref a)))(rs:Zd vs us)
  (at':Zj X.K X.mg H F₁ ts vs) (em:mtT m t ts=some (t',z)) (q:Fin X F₁ G (p.set i (.o t')) Z H (.f z) Q):wpAny (model X.prog X.w) X.A (call (.builtin (mtI m)) (.ref a::us)) (EP X XB σ' Q) X.xe s:=by
 obtain⟨a',h1,h2,h3,h4⟩:=rel.ow i t e;rw[hσ]at h1;cases h1
 have fin:∀{ys:ZQ} {Oc:ZZ} {v:V},t'=.lst Oc->ys.length<=sizeLine->Zj X.K X.mg H F₁ Oc ys->IsT X.K X.mg H F₁ z v->Q v (upd H a (.lst ys)):=λ{ys Oc v} et z1 ar iv=>by
  subst et;have u:Up X.K H (upd H a (.lst ys)):=Hv h4;obtain⟨u,Yt⟩:=rel.mut (t':=.lst Oc) e hσ ⟨ys,Zq,z1,Zj.up u (Le.refl _) _ _ ar⟩;exact q _ _ _ (Le.refl _) u Yt (IsT.up u (Le.refl _) _ _ iv)
 unfold mtT at em
 split at em
 .split at em
  .rename_i hz
   cases em;obtain⟨ys,g1,g2,g3⟩:=h4;obtain⟨y,r,rfl,iy,er⟩:=at';cases(show r=[] from er);have l1:=g3.length;exact Fx XB s σ' H (.ref a) _ (.ref a) us Q I rfl rs ⟨a,ys,y,rfl,rfl,g1,by omega,fin rfl (by rw[W7];simp;omega) (g3.append (Zj.one iy)) rfl⟩
  .cases em
 .split at em
  .rename_i hz
   cases em;obtain⟨ys,g1,g2,g3⟩:=h4;obtain⟨y,r,rfl,iy,er⟩:=at';cases(show r=[] from er);obtain⟨b,zs,rfl,k1,k2,k3⟩:=iy;obtain⟨u,rfl,ru⟩:=vals1 rs;cases ru;have l1:=g3.length;have l2:=k3.length;refine Zx6 I g1 (rel.b.rd k1) (λz=>?_) XS (fin rfl (by rw[W7];omega) (g3.append k3) rfl);subst z;exact Rd.none h2 k1
  .cases em
 .obtain⟨x,e1,e2⟩:=Yr.mp em;cases e2;obtain⟨ys,g1,g2,g3⟩:=h4;cases(show vs=[] from at');cases rs;have l1:=g3.length;rw[List.getLast?_eq_getElem?]at e1;obtain⟨y,e3,iy⟩:=g3.get e1;refine mt_pop XB s σ' H (.ref a) _ (.ref a) [] Q I rfl .nil ⟨a,ys,y,rfl,rfl,g1,by rw[<-l1];exact e3,fin rfl (by rw[List.length_dropLast];omega) ?_ iy⟩;rw[List.dropLast_eq_take,List.dropLast_eq_take,l1];exact g3.take _
 .obtain⟨j,e1,e2⟩:=ZO.mp em;obtain⟨x,e3,e4⟩:=Yr.mp e2;cases e4;obtain⟨ys,g1,g2,g3⟩:=h4;obtain⟨y,r,rfl,iy,er⟩:=at';cases(show r=[] from er);cases(show y=_ from iy);have l1:=g3.length;obtain⟨y,e5,iy⟩:=g3.get e3;obtain⟨q1,q2,q3,q4⟩:=Q5 e1;have hs:=sizeLine_eq;refine ls XB s σ' H (.ref a) _ (.ref a) us Q I rfl rs ⟨a,ys,_,j,y,rfl,rfl,g1,by omega,by omega,by rw[<-l1];exact q1,e5,fin rfl (by rw[List.length_eraseIdx];split<;>omega) (g3.erase j) iy⟩
 .cases em
end
section
variable{X:Cx}{XB:ZY}{Z:L2.St}{H:Hp}{s:Shared}
def NF(X:Cx)(d:Addr):Prop:=∀o u,X.H₀ d≠some (.frz o u)
theorem nf_of{d:Addr}{XM:List (Key×V)}(I:Inv X XB Z H s)(e:H d=some (.dK XM)):NF X d:=λo u z=>by
 have:=I.base.frzs d o u z;rw[e]at this;cases this
theorem melt{d:Addr}{o:Obj}{XM:List (Key×V)}(I:Inv X XB Z H s)(e:H d=some (.frz o (.dK XM)))(nf:NF X d):Inv X XB Z (upd H d (.dK XM)) s:=by
 have ne:∀{b:Addr} {u:HO},H b=some u->(∀o k,u≠.frz o k)->b≠d:=λh n z=>by
  rw[z,e]at h;cases h;exact n _ _ rfl
 have nn:∀{b:Addr},H b=none->upd H d (.dK XM) b=none:=λ{b} h=>by
  rw[Zz λz=>by rw[z,e]at h;cases h];exact h
 refine⟨I.ok,I.os,I.bare,⟨I.base.keep,I.base.slot,λb o' h1 h2 h3=>nn (I.base.free b o' h1 h2 h3),I.base.there,λb xs h=>?_,λb o' u h=>?_,λb ps h=>?_⟩,I.loc,I.cell,nn I.free,λx c h=>nn (I.freeC x c h),λp hp=>let ⟨h1,h2,h3⟩:=I.pin p hp;⟨h1,nn h2,h3⟩,λb u h=>?_,I.len⟩
 .have:=I.base.tups b xs h;rw[Zz (ne this λ_ _ z=>nomatch z)];exact this
 .have:=I.base.frzs b o' u h;rw[Zz λz=>by subst z;exact nf _ _ h];exact this
 .obtain⟨more,this⟩:=I.base.tbls b ps h;exact⟨more,by rw[Zz (ne this λ_ _ z=>nomatch z)];exact this⟩
 .by_cases q:b=d
  .subst q;rw[Zq]at h;cases h;obtain⟨ho,z,y,vs,r,o',es,ep,B1,c⟩:=(show Z4 X.prog X.w H s.heap b (.frz o (.dK XM)) from I.hok b _ e);exact⟨z,y,vs,r,o',es,ep,B1,c⟩
  .rw[Zz q]at h;refine(I.hok b u h).stay (λc v hc q=>q) (λc q=>?_) λc xs q=>?_
   .rw[Zz (ne q λ_ _ z=>nomatch z)];exact q
   .rw[Zz (ne q λ_ _ z=>nomatch z)];exact q
def Mel(X:Cx)(H H':Hp):Prop:=H'=H\/∃d o ks,H d=some (.frz o (.dK ks))/\NF X d/\H'=upd H d (.dK ks)
theorem Nu{H':Hp}(I:Inv X XB Z H s)(m:Mel X H H'):Inv X XB Z H' s:=by
 rcases m with rfl | ⟨d,o,ks,e,nf,rfl⟩
 .exact I
 .exact melt I e nf
theorem PE.mel{e:Expr}{t:TE}(h:PE X e t):PE X e (λZ H Q=>t Z H λv H1=>∃H2,Mel X H1 H2/\Q v H2):=λXB s Z H Q I q =>
 Yj (h XB s Z H _ I q) λu s1 ⟨v,H1,I1,r1,H2,m,q1⟩=>⟨v,H2,Nu I1 m,r1,q1⟩
def lh(X:Cx)(D:Ends):Ends:=⟨λZ H=>∃H2,Mel X H H2/\D.nx Z H2,λv H=>∃H2,Mel X H H2/\D.rt v H2,λZ H=>∃H2,Mel X H H2/\D.bk Z H2,λZ H=>∃H2,Mel X H H2/\D.ct Z H2⟩
theorem PS.mel{st:Stmt}{t:TS}(h:PS X st t):PS X st (λD Z H=>t (lh X D) Z H):=λXB s Z H D I q =>
 Yj (h XB s Z H _ I q) λf s1 q1=>by
  cases f with
  | next=>obtain⟨σ',H',I',H2,m,q2⟩:=q1;exact⟨σ',H2,Nu I' m,q2⟩
  | brk=>obtain⟨σ',H',I',H2,m,q2⟩:=q1;exact⟨σ',H2,Nu I' m,q2⟩
  | cont=>obtain⟨σ',H',I',H2,m,q2⟩:=q1;exact⟨σ',H2,Nu I' m,q2⟩
  | ret u=>obtain⟨v,σ',H',I',r,H2,m,q2⟩:=q1;exact⟨v,σ',H2,Nu I' m,r,q2⟩
theorem t8{tg l:Expr}{tl:TE}(hl:PE X l tl):PI X tg l (λZ H R=>tl Z H λx H1=>(∃d XM,x=.ref d/\H1 d=some (.dK XM)/\∀o,NF X d->R (Itd d o XM) (upd H1 d (.frz o (.dK XM))))\/∃d o XM,x=.ref d/\H1 d=some (.frz o (.dK XM))/\R (Itd d o XM) H1):=by
 intro XB s Z H R I h;refine Yj (hl XB s Z H _ I h) λv s1 ⟨x,H1,I1,r1,q1⟩=>?_
 have go:∀{d:Addr} {o:Obj} {XM:List (Key×V)} {H2:Hp},x=.ref d->Inv X XB Z H2 s1->H2 d=some (.frz o (.dK XM))->R (Itd d o XM) H2->wpAny (model X.prog X.w) X.A (pyIter v) (PIE X XB Z tg R) X.xe s1:=λ{d o XM H2} ex I2 e q=>by
  subst ex;cases r1;obtain⟨vs,es,ep,y,r,e',m⟩:=at_of I2 e;have ln:=r.length;refine wpAny_pyIter_dict y m ?_;refine⟨s1.heap.objs.size,[s1.heap.objs.size],_,_,_,rfl,I2.kept (t':=s1.toks) λb o e=>Vp _ e,qc d _ o XM es ep e',⟨_,Mp _ rfl,rfl,by rw[ln];rfl⟩,λb hb=>?_,q⟩;have e:b=s1.heap.objs.size:=by simpa using hb
  subst e;exact I2.fpOk (Vy _) (I2.hok.fresh (Vy _))
 rcases q1 with ⟨d,XM,ex,hd,q⟩ | ⟨d,o,XM,ex,hd,q⟩
 .obtain⟨o,ho,I2⟩:=I1.freeze hd;exact go ex I2 Zq (q o (nf_of I1 hd))
 .exact go ex I1 hd q
end
def Frz(X:Cx)(F H F' H':Hp):Prop:=(F'=F/\H'=H)\/∃d o ks,F d=some (.dK ks)/\NF X d/\F'=upd F d (.frz o (.dK ks))/\H'=upd H d (.frz o (.dK ks))
def Walk(K:W.Frag)(mg:ZV)(J:It)(F H:Hp)(xs:ZZ):Prop:=∀i F1 H1,Le F F1->Up K H H1->(∀a o,F1 a=some o->H1 a=some o) ->
 (∀t,xs[i]?=some t->J.go i H1/\∀x H2,J.yld i H1 x H2->Zp H1 H2/\IsT K mg H2 F1 t x)/\(i=xs.length->J.stop i H1)
inductive LI_I(X:Cx)(w:W)(e:E)(Z:L2.St)(H:Hp)(R:(It->Hp->Prop)):Prop
 | mk(F G p xs p')(Vd:Rel X.K X.mg F G p Z H)(Vm:au (ev w e p)=some (xs,p'))(U0:∀F1 H1 F' H' J,Le F F1->Up X.K H H1->Rel X.K X.mg F1 G p' Z H1->Frz X F1 H1 F' H'->xs.length<=sizeLine->Walk X.K X.mg J F' H' xs->R J H'):LI_I X w e Z H R
def LI(X:Cx)(w:W)(e:E):TI:=λZ H R=>LI_I X w e Z H R
theorem iw{F H:Hp}{d:Addr}{o:Obj}{ks:List (Key×V)}(e:F d=some (.dK ks)):om F (upd F d (.frz o (.dK ks))):=⟨λa vs r=>by
  by_cases z:a=d
  .subst z;rcases r with r | ⟨_,r⟩<;>rw[e]at r<;>cases r
  .unfold Rd;rw[Zz z];exact r,λa vs r=>by
  by_cases z:a=d
  .subst z;rcases r with r | ⟨_,r⟩
   .rw[e]at r;cases r;exact .inr ⟨o,Zq⟩
   .rw[e]at r;cases r
  .unfold Rd;rw[Zz z];exact r⟩
theorem Xv{F:Hp}{d:Addr}{o:Obj}{ks:List (Key×V)}(e:F d=some (.frz o (.dK ks))):om F (upd F d (.dK ks)):=⟨λa vs r=>by
  by_cases z:a=d
  .subst z;rcases r with r | ⟨_,r⟩<;>rw[e]at r<;>cases r
  .unfold Rd;rw[Zz z];exact r,λa vs r=>by
  by_cases z:a=d
  .subst z;rcases r with r | ⟨_,r⟩
   .rw[e]at r;cases r
   .rw[e]at r;cases r;exact .inl Zq
  .unfold Rd;rw[Zz z];exact r⟩
theorem Zje{K:W.Frag}{H:Hp}{d:Addr}{o o':HO}(e:H d=some o)(n:∀xs,o≠.tup xs)(n':∀u xs,o≠.frz u (.tup xs)):Up K H (upd H d o'):=λc xs q=>by
 rcases q with (q | ⟨u,q⟩) | q
 .exact .inl (.inl (by rw[Zz λz=>by rw[z,e]at q;cases q;exact n _ rfl];exact q))
 .exact .inl (.inr ⟨u,by rw[Zz λz=>by rw[z,e]at q;cases q;exact n' _ _ rfl];exact q⟩)
 .exact .inr q
section
variable{X:Cx}{w:W}{F F' G H H':Hp}{p:P}{Z:L2.St}
theorem Rel.turn{K:PySem.W.Frag}{mg:ZV}{d:Addr}{o o':HO}(r:Rel K mg F G p Z H)(e:F d=some o)(pl:Pln o)(u:Up K H (upd H d o'))(l:om F (upd F d o')):Rel K mg (upd F d o') G p Z (upd H d o'):=by
 refine⟨⟨λa x q=>?_,λa x q=>?_,λa q=>?_,λT e'=>let ⟨f1,g1,t1⟩:=r.b.t T e';⟨by rw[Zz (t1.ne (r.b.f d o e) pl).symm];exact f1,g1,t1.upd (r.b.f d o e) pl⟩⟩,λi t q=>let ⟨v,h1,h2⟩:=r.fz i t q;⟨v,h1,IsT.upR u l t v h2⟩,λi t q=>?_,r.ap,r.ln⟩
 .by_cases z:a=d
  .subst z;rw[Zq]at q ⊢;exact q
  .rw[Zz z]at q ⊢;exact r.b.f a x q
 .have gd:G d=none:=r.b.d d (by rw[e];exactλz=>nomatch z);rw[Zz λz=>by rw[z,gd]at q;cases q];exact r.b.g a x q
 .by_cases z:a=d
  .subst z;exact r.b.d a (by rw[e];exactλz=>nomatch z)
  .rw[Zz z]at q;exact r.b.d a q
 .obtain⟨a,h1,h2,h3,h4⟩:=r.ow i t q;have z:a≠d:=λz=>by subst z;rw[h2]at e;cases e
  refine⟨a,h1,by rw[Zz z];exact h2,h3,?_⟩;cases t with
  | lst ts=>obtain⟨vs,q1,q2,q3⟩:=h4;exact⟨vs,by rw[Zz z];exact q1,q2,Zj.upR u l ts vs q3⟩
  | dct ts=>obtain⟨vs,q1,q2,q3⟩:=h4;exact⟨vs,by rw[Zz z];exact q1,q2,Zu.upR u l ts vs q3⟩
  | _=>exact h4.elim
theorem Frz.rel(z:Frz X F H F' H')(r:Rel X.K X.mg F G p Z H):Rel X.K X.mg F' G p Z H'/\Up X.K H H'/\om F F':=by
 rcases z with ⟨rfl,rfl⟩ | ⟨d,o,ks,e,nf,rfl,rfl⟩
 .exact⟨r,Up.refl _,(Le.refl _).r⟩
 .have u:Up X.K H (upd H d (.frz o (.dK ks))):=Zje (r.b.f d _ e) (λ_ z=>nomatch z) λ_ _ z=>nomatch z;have l:=iw (H:=H) (o:=o) e;exact⟨r.turn e Zwq u l,u,l⟩
theorem Frz.back{p2:P}{σ2:L2.St}{F2 H2:Hp}(z:Frz X F H F' H')(l:Le F' F2)(r:Rel X.K X.mg F2 G p2 σ2 H2):∃F3 H3,Le F F3/\Rel X.K X.mg F3 G p2 σ2 H3/\Mel X H2 H3/\Up X.K H2 H3/\om F2 F3/\(∀a,F2 a=none->F3 a=none)/\∀a,F2 a=none->H3 a=H2 a:=by
 rcases z with ⟨rfl,rfl⟩ | ⟨d,o,ks,e,nf,rfl,rfl⟩
 .exact⟨F2,H2,l,r,.inl rfl,Up.refl _,(Le.refl _).r,λ_ h=>h,λ_ _=>rfl⟩
 .have e2:F2 d=some (.frz o (.dK ks)):=l d _ Zq;have eh:=r.b.f d _ e2;have u:Up X.K H2 (upd H2 d (.dK ks)):=Zje eh (λ_ z=>nomatch z) λ_ _ z=>by cases z
  refine⟨upd F2 d (.dK ks),upd H2 d (.dK ks),λa x q=>?_,r.turn e2 pln_f u (Xv e2),.inr ⟨d,o,ks,eh,nf,rfl⟩,u,Xv e2,λa h=>?_,λa h=>?_⟩
  .by_cases za:a=d
   .subst za;rw[e]at q;cases q;exact Zq
   .rw[Zz za];exact l a x (by rw[Zz za];exact q)
  .rw[Zz λz=>by rw[z,e2]at h;cases h];exact h
  .rw[Zz λz=>by rw[z,e2]at h;cases h]
end
section
variable{K:W.Frag}{mg:ZV}{F H:Hp}
theorem y3{a:Addr}{ts:ZZ}{vs:ZQ}(h1:Vn K H a vs)(ar:Zj K mg H F ts vs):Walk K mg (Itt K a) F H ts:=λi F1 H1 l u fh=>by
 have Dh:=Zj.up u l _ _ ar;refine⟨λt e=>?_,λe=>⟨vs,u _ _ h1,by rw[e,ar.length];exact Vy _⟩⟩;obtain⟨v,e1,h2⟩:=Dh.get e;refine⟨⟨vs,v,u _ _ h1,e1⟩,λx H2 y=>?_⟩;obtain⟨rfl,y⟩:=y;have:=y vs (u _ _ h1);rw[e1]at this;cases this;exact⟨Zp.refl _,h2⟩
theorem y8{a:Addr}{ts:ZZ}{vs:ZQ}(h1:Rd F a (.lst vs))(ar:Zj K mg H F ts vs):Walk K mg (Itl K a) F H ts:=λi F1 H1 l u fh=>by
 have Dh:=Zj.up u l _ _ ar
 have sq:Uq K H1 a vs:=.inl (by
  rcases l.r.l a vs h1 with q | ⟨o,q⟩
  .exact .inl (fh _ _ q)
  .exact .inr ⟨o,fh _ _ q⟩)
 refine⟨λt e=>?_,λe=>⟨vs,sq,by rw[e,ar.length];exact Vy _⟩⟩;obtain⟨v,e1,h2⟩:=Dh.get e;refine⟨⟨vs,v,sq,e1⟩,λx H2 y=>?_⟩;obtain⟨rfl,y⟩:=y;have:=y vs sq;rw[e1]at this;cases this;exact⟨Zp.refl _,h2⟩
theorem Om{d:Addr}{o:Obj}{XM:ZX}{ks:List (Key×V)}(h1:F d=some (.frz o (.dK ks)))(ek:XM.map (·.1)=ks.map (·.1)):Walk K mg (Itd d o ks) F H (XM.map λp=>Bc p.1):=λi F1 H1 l u fh=>by
 have hd:=fh _ _ (l d _ h1);have ln:XM.length=ks.length:=by have:=congrArg List.length ek;simpa using this
 refine⟨λt e=>?_,λe=>⟨by rw[e,Vq,ln];exact Vy _,hd⟩⟩;rw[Oj]at e;obtain⟨q,e1,rfl⟩:=Yr.mp e;have hi:=(W8.mp e1).1;refine⟨⟨by omega,hd⟩,λx H2 y=>?_⟩;obtain⟨rfl,k,z,e2,rfl⟩:=y;have e3:(XM.map (·.1))[i]?=some q.1:=by rw[Oj,e1];rfl
 rw[ek,Oj,e2]at e3;cases e3;exact⟨Zp.refl _,zo _⟩
theorem y4{z:Str}:Walk K mg (Its z) F H (z.cps.toList.map λc=>T.str ⟨#[c]⟩):=λi F1 H1 l u fh=>by
 refine⟨λt e=>?_,λe=>by rw[Vq,yf]at e;exact Nat.le_of_eq e.symm⟩;rw[Oj]at e;obtain⟨c,e1,rfl⟩:=Yr.mp e;have e1:z.cps[i]?=some c:=by simpa using e1
 refine⟨(Array.getElem?_eq_some_iff.mp e1).1,λx H2 y=>?_⟩;obtain⟨rfl,c',e2,rfl⟩:=y;rw[e1]at e2;cases e2;exact⟨Zp.refl _,rfl⟩
theorem y6{n:Nat}:Walk K mg (Itr 0 n) F H ((List.range n).map λk=>T.int (k:Nat)):=λi F1 H1 l u fh=>by
 refine⟨λt e=>?_,λe=>by rw[Vq,XJ]at e;exact Nat.le_of_eq e.symm⟩;rw[Oj]at e;obtain⟨c,e1,rfl⟩:=Yr.mp e;have hi:=(W8.mp e1);obtain⟨hi,e2⟩:=hi;rw[XJ]at hi;rw[List.getElem_range]at e2;subst e2;refine⟨hi,λx H2 y=>?_⟩;obtain⟨rfl,rfl⟩:=y;exact⟨Zp.refl _,by show V.int _=V.int _;rw[Int.zero_add]⟩
theorem Sf{H1 H2 F1:Hp}{q:Addr}{t u:T}{x y:V}(hq:H1 q=none)(e:H2=upd H1 q (.tup [x,y]))(ht:IsT K mg H1 F1 t x)(hu:IsT K mg H1 F1 u y):Zp H1 H2/\IsT K mg H2 F1 (.tup [t,u]) (.ref q):=by
 subst e;have s:Zp H1 (upd H1 q (.tup [x,y])):=Zp.lay hq;exact⟨s,q,_,rfl,Vn.of Zq,by show 2<=sizeLine;decide,x,_,rfl,IsT.up s.up (Le.refl _) _ _ ht,y,_,rfl,IsT.up s.up (Le.refl _) _ _ hu,rfl⟩
theorem Of{a b:ZZ}{i:Nat}{t:T}(e:(W9 a b)[i]?=some t):∃x y,a[i]?=some x/\b[i]?=some y/\t=.tup [x,y]:=by
 unfold W9 at e;rw[Oj]at e;obtain⟨q,e1,rfl⟩:=Yr.mp e;rw[List.getElem?_zip_eq_some]at e1;exact⟨_,_,e1.1,e1.2,rfl⟩
theorem Nw{a b:ZZ}:(W9 a b).length=min a.length b.length:=by unfold W9;rw[Vq,List.length_zip]
theorem qk{a b:Addr}{ts us:ZZ}{vs ws:ZQ}(h1:Vn K H a vs)(ar:Zj K mg H F ts vs)(h2:Vn K H b ws)(br:Zj K mg H F us ws):Walk K mg (Itzt K a b) F H (W9 ts us):=λi F1 H1 l u fh=>by
 have Dh:=Zj.up u l _ _ ar;have br1:=Zj.up u l _ _ br;refine⟨λt e=>?_,λe=>⟨vs,ws,u _ _ h1,u _ _ h2,by rw[Nw,ar.length,br.length]at e;omega⟩⟩;obtain⟨x,y,e1,e2,rfl⟩:=Of e;obtain⟨v,g1,g2⟩:=Dh.get e1;obtain⟨v',g3,g4⟩:=br1.get e2;refine⟨⟨vs,ws,v,v',u _ _ h1,u _ _ h2,g1,g3⟩,λz H2 yl=>?_⟩;obtain⟨q,x',y',rfl,hq,hH,k1,k2⟩:=yl;have:=k1 vs (u _ _ h1);rw[g1]at this;cases this;have:=k2 ws (u _ _ h2);rw[g3]at this;cases this;exact Sf hq hH g2 g4
theorem qg{a b:Addr}{ts us:ZZ}{vs ws:ZQ}(h1:Rd F a (.lst vs))(ar:Zj K mg H F ts vs)(h2:Rd F b (.lst ws))(br:Zj K mg H F us ws):Walk K mg (Itz K a b) F H (W9 ts us):=λi F1 H1 l u fh=>by
 have Dh:=Zj.up u l _ _ ar;have br1:=Zj.up u l _ _ br
 have sq:∀{a:Addr} {vs:ZQ},Rd F a (.lst vs)->Uq K H1 a vs:=λ{a vs} h=>.inl (by
  rcases l.r.l a vs h with q | ⟨o,q⟩
  .exact .inl (fh _ _ q)
  .exact .inr ⟨o,fh _ _ q⟩)
 refine⟨λt e=>?_,λe=>⟨vs,ws,sq h1,sq h2,by rw[Nw,ar.length,br.length]at e;omega⟩⟩;obtain⟨x,y,e1,e2,rfl⟩:=Of e;obtain⟨v,g1,g2⟩:=Dh.get e1;obtain⟨v',g3,g4⟩:=br1.get e2;refine⟨⟨vs,ws,v,v',sq h1,sq h2,g1,g3⟩,λz H2 yl=>?_⟩;obtain⟨q,x',y',rfl,hq,hH,k1,k2⟩:=yl;have:=k1 vs (sq h1);rw[g1]at this;cases this;have:=k2 ws (sq h2);rw[g3]at this;cases this;exact Sf hq hH g2 g4
end
section
variable{X:Cx}{w:W}{k:Nat}{N:ZD}{sc:ZK}
theorem Rv{o:Option (Sl×P)}{t:T}{p:P}(h:toT o=some (t,p)):∃r,o=some (r,p)/\thaw r=some t:=by
 unfold toT at h;obtain⟨y,e1,e2⟩:=ZO.mp h;obtain⟨t',e3,e4⟩:=Yr.mp e2;cases e4;exact⟨y.1,e1,e3⟩
theorem gr{o:Option (Sl×P)}{ts:ZZ}{p:P}(h:au o=some (ts,p)):∃r t,o=some (r,p)/\thaw r=some t/\Nk t=some ts:=by
 unfold au at h;obtain⟨y,e1,e2⟩:=ZO.mp h;obtain⟨t',e3,e4⟩:=Yr.mp e2;cases e4;obtain⟨r,e5,e6⟩:=Rv (p:=y.2) (t:=y.1) e1;exact⟨r,y.1,e5,e6,e3⟩
theorem bf{it:E}{tg iter:Expr}(h:PE X iter (LE X.K X.mg w it)):PI X tg iter (LI X w it):=by
 intro XB s Z H R I ⟨F,G,p,xs,p',rel,e,kq⟩;obtain⟨r,t,e1,e2,e3⟩:=gr e
 have key:∀{Q:VK},(∀F2 H1 v,Le F F2->Up X.K H H1->Rel X.K X.mg F2 G p' Z H1->IsT X.K X.mg H1 F2 t v->Q v H1)->LE X.K X.mg w it Z H Q:=λk=>⟨F,G,p,r,p',rel,e1,λF1 H1 v l1 u1 Z1 rs=>by
  obtain⟨F2,l2,Z0,ht⟩:=Z1.thaw e2 rs;exact k F2 H1 v (l1.trans l2) u1 Z0 ht⟩
 unfold Nk at e3
 split at e3
 .cases e3;refine pi_tup h XB s Z H R I (key λF2 H1 v l u Z0 ht=>?_);obtain⟨a,vs,rfl,h1,z,ar⟩:=ht;exact⟨a,rfl,⟨vs,h1⟩,kq F2 H1 F2 H1 _ l u Z0 (.inl ⟨rfl,rfl⟩) (by rw[ar.length];exact z) (y3 h1 ar)⟩
 .cases e3;refine Zxx h XB s Z H R I (key λF2 H1 v l u Z0 ht=>?_);obtain⟨a,vs,rfl,h1,z,ar⟩:=ht;exact⟨a,rfl,⟨vs,.inl (Z0.b.rd h1)⟩,kq F2 H1 F2 H1 _ l u Z0 (.inl ⟨rfl,rfl⟩) (by rw[ar.length];exact z) (y8 h1 ar)⟩
 .cases e3;refine t8 h XB s Z H R I (key λF2 H1 v l u Z0 ht=>?_);obtain⟨a,ks,rfl,h1,z,ar⟩:=ht;rcases h1 with h1 | ⟨o,h1⟩
  .exact .inl ⟨a,ks,rfl,Z0.b.f _ _ h1,λo nf=>kq F2 H1 _ _ _ l u Z0 (.inr ⟨a,o,ks,h1,nf,rfl,rfl⟩) (by rw[Vq,ar.length];exact z) (Om Zq ar.keys)⟩
  .exact .inr ⟨a,o,ks,rfl,Z0.b.f _ _ h1,kq F2 H1 F2 H1 _ l u Z0 (.inl ⟨rfl,rfl⟩) (by rw[Vq,ar.length];exact z) (Om h1 ar.keys)⟩
 .split at e3
  .rename_i hz
   cases e3;refine pi_str h XB s Z H R I (key λF2 H1 v l u Z0 ht=>?_);exact⟨_,ht,kq F2 H1 F2 H1 _ l u Z0 (.inl ⟨rfl,rfl⟩) (by rw[Vq,yf];exact hz) y4⟩
  .cases e3
 .cases e3
noncomputable def ikN:Ik->Str
 | .rng => "range"
 | .zip => "zip"
def ikL:Ik->Nat
 | .zip=>2
 | _=>1
def isTup:Expr->Bool
 | .Tuple _ _ _=>true
 | _=>false
def ikOk:Ik->Expr->Bool
 | .rng,_=>true
 | _,t=>isTup t
theorem len1{Z:Type}{xs:List Z}(h:xs.length=1):∃x,xs=[x]:=by
 cases xs with
 | nil=>cases h
 | cons x r=>cases r with
  | nil=>exact⟨x,rfl⟩
  | cons y r=>cases h
theorem len2{Z:Type}{xs:List Z}(h:xs.length=2):∃x y,xs=[x,y]:=by
 cases xs with
 | nil=>cases h
 | cons x r=>obtain⟨y,rfl⟩:=len1 (Nat.succ.inj h);exact⟨x,y,rfl⟩
theorem gc{e:Expr}(h:isTup e=true):∃a b c,e=.Tuple a b c:=by
 cases e<;>first | exact⟨_,_,_,rfl⟩ | cases h
theorem Zzy(c:Ctx X w k N sc){q:Ik}{es:E}{xs:ZC}{tg:Expr}{f:Str}{p0 pos:Pos}(hs:Hs X w false es xs)(hn:Jd es=true)(hf:(f==ikN q&&Fg sc f&&ikOk q tg)=true)(hl:xs.length=ikL q):PI X tg (.Call (.Name f p0) xs [] pos) (LI X w (.itr q es)):=by
 intro XB s Z H R I ⟨F,G,p,ys,p',rel,e,kq⟩;simp only[Vl,beq_iff_eq]at hf;obtain⟨⟨rfl,g1⟩,ht⟩:=hf;obtain⟨gg,gd⟩:=c.gl' g1;obtain⟨r,t,e1,e2,e3⟩:=gr e
 replace e1:=(Zq8 _ _).symm.trans e1
 obtain⟨a,q1,e1⟩:=ZO.mp e1;obtain⟨ts,q2,e1⟩:=ZO.mp e1;obtain⟨zs,q3,e1⟩:=Yr.mp e1;cases e1;cases e2;cases e3;have nt:=Ra es hs q1 hn;have W2:=hs.star;have key:∀{Q:ZQ->Hp->Prop},(∀F1 H1 vs,Le F F1->Up X.K H H1->Rel X.K X.mg F1 G a.2 Z H1->Zj X.K X.mg H1 F1 ts vs->Q vs H1)->LA X.K X.mg w false es Z H Q:=λk=>⟨F,G,p,a.1,a.2,rel,q1,λF1 H1 vs l1 u1 Z1 ar=>k F1 H1 vs l1 u1 Z1 (By nt q2 ar)⟩;cases q with
 | rng =>
  obtain⟨x,rfl⟩:=len1 hl;refine ja gg (c.bn _ XH) hs.pa (by rw[Yk (W2 _ V4)];rfl) XB s Z H R I (key λF1 H1 vs l u Z1 ar=>?_);unfold itT at q3
  split at q3<;>first | (rename_i z;cases z) | skip
  .rename_i tt _
   unfold rngT at q3
   split at q3
   .split at q3
    .rename_i n hz
     cases q3;obtain⟨v,r,rfl,hv,hr⟩:=ar;cases(show r=[] from hr);cases(show v=_ from hv);exact⟨n,rfl,by omega,by omega,kq F1 H1 F1 H1 _ l u Z1 (.inl ⟨rfl,rfl⟩) (by rw[Vq,XJ];have:=sizeLine_eq;omega) y6⟩
    .cases q3
   .cases q3
  all_goals cases q3
 | zip =>
  obtain⟨x,y,rfl⟩:=len2 hl;obtain⟨_,_,_,rfl⟩:=gc ht;have h2:starEach [x,y] X.env=(false,eval x X.env)::starEach [y] X.env:=Yk (W2 _ V4);have h3:(backTo pos (starEach [y] X.env)).any (·.1)=false:=Vc _ _ _ λe m=>W2 e (Uz _ m);unfold itT at q3
  split at q3<;>first | (rename_i z;cases z) | skip
  .cases q3;refine pi_zip gg (c.bn _ XH) hs.pa h2 h3 XB s Z H R I (key λF1 H1 vs l u Z1 ar=>?_);obtain⟨v,r,rfl,hv,v',r',rfl,hv',hr⟩:=ar;cases(show r'=[] from hr);obtain⟨a1,vs,rfl,k1,z1,Dh⟩:=hv;obtain⟨a2,ws,rfl,k2,z2,Wh⟩:=hv';exact⟨a1,a2,rfl,⟨vs,.inl (Z1.b.rd k1)⟩,⟨ws,.inl (Z1.b.rd k2)⟩,kq F1 H1 F1 H1 _ l u Z1 (.inl ⟨rfl,rfl⟩) (by rw[Nw,Dh.length];omega) (qg k1 Dh k2 Wh)⟩
  .cases q3;refine Zxz gg (c.bn _ XH) hs.pa h2 h3 XB s Z H R I (key λF1 H1 vs l u Z1 ar=>?_);obtain⟨v,r,rfl,hv,v',r',rfl,hv',hr⟩:=ar;cases(show r'=[] from hr);obtain⟨a1,vs,rfl,k1,z1,Dh⟩:=hv;obtain⟨a2,ws,rfl,k2,z2,Wh⟩:=hv';exact⟨a1,a2,rfl,⟨vs,k1⟩,⟨ws,k2⟩,kq F1 H1 F1 H1 _ l u Z1 (.inl ⟨rfl,rfl⟩) (by rw[Nw,Dh.length];omega) (qk k1 Dh k2 Wh)⟩
  all_goals cases q3
end
section
variable{K:W.Frag}{mg:ZV}{F G H:Hp}{p:P}{Z:L2.St}
theorem Rel.bind(r:Rel K mg F G p Z H){i:Nat}{s:Sl}{v:V}(hi:i<Z.length)(h:Res K mg F G p Z H s v):Rel K mg F G (p.set i s) (Z.set i (some v)) H:=by
 have at_:(Z.set i (some v))[i]?=some (some v):=List.getElem?_set_self hi;have ne:∀{j:Nat},j≠i->(Z.set i (some v))[j]?=Z[j]?:=λn=>List.getElem?_set_ne λz=>n z.symm;refine⟨r.b,λj t e=>?_,λj t e=>?_,λj l t u a e1 e2 h1 h2=>?_,by rw[XY,XY];exact r.ln⟩
 .rcases Z7 e with ⟨z,y⟩ | ⟨n,e⟩
  .subst z y;exact⟨v,at_,h⟩
  .obtain⟨u,h1,h2⟩:=r.fz j t e;exact⟨u,(ne n).trans h1,h2⟩
 .rcases Z7 e with ⟨z,y⟩ | ⟨n,e⟩
  .subst z y;obtain⟨a,rfl,h1,h2,h3,_⟩:=h;exact⟨a,at_,h1,h2,h3⟩
  .obtain⟨a,h1,h2⟩:=r.ow j t e;exact⟨a,(ne n).trans h1,h2⟩
 .rcases Z7 e1 with ⟨z,y⟩ | ⟨n,q1⟩
  .rcases Z7 e2 with ⟨z',_⟩ | ⟨n,q2⟩
   .rw[z,z']
   .subst z y;obtain⟨b,rfl,_,_,_,h4⟩:=h;rw[at_]at h1;cases h1;rw[ne n]at h2;exact absurd h2 (h4 l u q2)
  .rw[ne n]at h1;rcases Z7 e2 with ⟨z,y⟩ | ⟨n',q2⟩
   .subst z y;obtain⟨b,rfl,_,_,_,h4⟩:=h;rw[at_]at h2;cases h2;exact absurd h1 (h4 j t q1)
   .rw[ne n']at h2;exact r.ap j l t u a q1 q2 h1 h2
end
noncomputable def Bt:E->List Nat
 | .v i=>[i]
 | .tup es=>Bt es
 | .cons a r=>Bt a++Bt r
 | _=>[]
noncomputable def locs(sc:ZK)(x:Str):Bool:=match sc.lookup x with
 | some .local=>true
 | some .cell=>true
 | _=>false
mutual
noncomputable def Br(N:ZD)(sc:ZK):E->Expr->Bool
 | .v i,.Name x _=>N[i]? == some x&&locs sc x
 | .tup es,.Tuple xs _ _=>Nt N sc es xs
 | _,_=>false
noncomputable def Nt(N:ZD)(sc:ZK):E->ZC->Bool
 | .nil,[]=>true
 | .cons a r,x::xs=>Br N sc a x&&Nt N sc r xs
 | _,_=>false
end
def LG(K:W.Frag)(mg:ZV)(tg:E):TG:=λv Z H Q=>∃F G p t p',Rel K mg F G p Z H/\IsT K mg H F t v/\asg tg t p=some p'/\∀σ',Rel K mg F G p' σ' H->(∀j,j∉Bt tg->σ'[j]?=Z[j]?)->σ'.length=Z.length->Q σ' H
def LGs(K:W.Frag)(mg:ZV)(tg:E):oy:=λvs Z H Q=>∃F G p ts p',Rel K mg F G p Z H/\Zj K mg H F ts vs/\Im tg ts p=some p'/\∀σ',Rel K mg F G p' σ' H->(∀j,j∉Bt tg->σ'[j]?=Z[j]?)->σ'.length=Z.length->Q σ' H
section
variable{X:Cx}{w:W}{k:Nat}{N:ZD}{sc:ZK}
theorem Ctx.loc(c:Ctx X w k N sc){x:Str}(h:locs sc x=true):Loc X.env.scope x/\(X.fn x=true\/X.env.scope.names.lookup x=some .local):=by
 unfold locs at h
 split at h
 .rename_i e
  rcases c.nm x _ e with e | ⟨z,_⟩
  .exact⟨.inl e,.inr e⟩
  .cases z
 .rename_i e
  rcases c.nm x _ e with e' | ⟨z,_⟩
  .exact⟨.inr e',.inl (c.cl x e)⟩
  .cases z
 .cases h
theorem Pq:∀(es:E) {xs:ZC},Nt N sc es xs=true->(∀x∈xs,noStar x=true)
 | .nil,[],_,x,m=>absurd m U2
 | .cons a r,y::xs,h,x,m=>by
  have h:(Br N sc a y&&Nt N sc r xs)=true:=h;rw[Vl]at h;rcases Y8.mp m with rfl | m
  .cases x<;>first | rfl | (cases a<;>cases h.1)
  .exact Pq r h.2 x m
 | .nil,_::_,h,_,_=>by cases h
 | .cons _ _,[],h,_,_=>by cases h
 | .v _,_,h,_,_=>by cases h
 | .k _,_,h,_,_=>by cases h
 | .g _,_,h,_,_=>by cases h
 | .pr _ _,_,h,_,_=>by cases h
 | .mv _,_,h,_,_=>by cases h
 | .io _,_,h,_,_=>by cases h
 | .tup _,_,h,_,_=>by cases h
 | .lst _,_,h,_,_=>by cases h
 | .and _ _,_,h,_,_=>by cases h
 | .or _ _,_,h,_,_=>by cases h
 | .not _,_,h,_,_=>by cases h
 | .ite _ _ _,_,h,_,_=>by cases h
 | .call _ _,_,h,_,_=>by cases h
 | .cal _ _,_,h,_,_=>by cases h
 | .mt _ _ _,_,h,_,_=>by cases h
 | .comp _ _ _ _ _ _,_,h,_,_=>by cases h
 | .itr _ _,_,h,_,_=>by cases h
 | .tmp _,_,h,_,_=>by cases h
theorem xp{e:Expr}{es:ZC}{env:Env}(h:noStar e=true):assignEach (e::es) env=(false,assign e env)::assignEach es env:=by
 cases e<;>first | rfl | cases h
theorem Eh:∀{es:ZC} {env:Env},(∀x∈es,noStar x=true)->(assignEach es env).length=es.length/\(assignEach es env).findIdx? (·.1)=none
 | [],env,_=>⟨rfl,rfl⟩
 | e::es,env,h=>by
  rw[xp (h e V4)];obtain⟨h1,h2⟩:=Eh (env:=env) λx m=>h x (Uz _ m);exact⟨by rw[Rz,Rz,h1],by rw[List.findIdx?_cons,h2];rfl⟩
theorem Kv:∀(es:E) {xs:ZC} {ts:ZZ} {p p':P},Nt N sc es xs=true->Im es ts p=some p'->ts.length=xs.length
 | .nil,[],[],p,p',_,_=>rfl
 | .cons a r,y::xs,t::ts,p,p',h,e=>by
  have h:(Br N sc a y&&Nt N sc r xs)=true:=h;rw[Vl]at h;obtain⟨q,_,e2⟩:=ZO.mp (show (asg a t p).bind (λq=>Im r ts q)=some p' from e);rw[Rz,Rz,Kv r h.2 e2]
 | .nil,[],_::_,_,_,_,e=>by cases e
 | .cons _ _,_::_,[],_,_,_,e=>by cases e
 | .nil,_::_,_,_,_,h,_=>by cases h
 | .cons _ _,[],_,_,_,h,_=>by cases h
 | .v _,_,_,_,_,h,_=>by cases h
 | .k _,_,_,_,_,h,_=>by cases h
 | .g _,_,_,_,_,h,_=>by cases h
 | .pr _ _,_,_,_,_,h,_=>by cases h
 | .mv _,_,_,_,_,h,_=>by cases h
 | .io _,_,_,_,_,h,_=>by cases h
 | .tup _,_,_,_,_,h,_=>by cases h
 | .lst _,_,_,_,_,h,_=>by cases h
 | .and _ _,_,_,_,_,h,_=>by cases h
 | .or _ _,_,_,_,_,h,_=>by cases h
 | .not _,_,_,_,_,h,_=>by cases h
 | .ite _ _ _,_,_,_,_,h,_=>by cases h
 | .call _ _,_,_,_,_,h,_=>by cases h
 | .cal _ _,_,_,_,_,h,_=>by cases h
 | .mt _ _ _,_,_,_,_,h,_=>by cases h
 | .comp _ _ _ _ _ _,_,_,_,_,h,_=>by cases h
 | .itr _ _,_,_,_,_,h,_=>by cases h
 | .tmp _,_,_,_,_,h,_=>by cases h
mutual
theorem Rg(c:Ctx X w k N sc):∀(tg:E) {x:Expr},Br N sc tg x=true->PG X x (LG X.K X.mg tg)
 | .v i,.Name y pos,h=>λXB s Z H v u Q I r ⟨F,G,p,t,p',rel,ht,e,kq⟩=>by
  have h:(N[i]? == some y&&locs sc y)=true:=h;rw[Vl,beq_iff_eq]at h;obtain⟨l1,l2⟩:=c.loc h.2;have hi:X.N[i]?=some y:=by rw[c.nN];exact h.1
  cases e;refine Zxj (by rw[c.nN];exact c.nd) hi l1 l2 XB s Z H v u Q I r (kq _ (rel.bind (by rw[I.len];exact(W8.mp hi).1) ht) (λj hj=>List.getElem?_set_ne λz=>hj (by rw[z];exact F8.mpr rfl)) (XY ..))
 | .tup es,.Tuple xs j pos,h=>λXB s Z H v u Q I r ⟨F,G,p,t,p',rel,ht,e,kq⟩=>by
  have h:Nt N sc es xs=true:=h;obtain⟨a1,a2⟩:=Eh (env:=X.env) (Pq es h);cases t<;>first | cases e | skip
  rename_i ts
  have e:Im es ts p=some p':=e;obtain⟨a,vs,rfl,h1,z,ar⟩:=ht;have hl:=Kv es h e;exact pg_tup (n:=xs.length) c.calm (Xl c es h) a1 a2 XB s Z H _ u Q I r ⟨a,vs,rfl,h1,by rw[<-ar.length];exact hl,F,G,p,ts,p',rel,ar,e,kq⟩
 | .v _,.BoolOp ..,h=>by cases h
 | .v _,.NamedExpr ..,h=>by cases h
 | .v _,.BinOp ..,h=>by cases h
 | .v _,.UnaryOp ..,h=>by cases h
 | .v _,.Lambda ..,h=>by cases h
 | .v _,.IfExp ..,h=>by cases h
 | .v _,.Dict ..,h=>by cases h
 | .v _,.Set ..,h=>by cases h
 | .v _,.ListComp ..,h=>by cases h
 | .v _,.SetComp ..,h=>by cases h
 | .v _,.DictComp ..,h=>by cases h
 | .v _,.GeneratorExp ..,h=>by cases h
 | .v _,.Await ..,h=>by cases h
 | .v _,.Yield ..,h=>by cases h
 | .v _,.YieldFrom ..,h=>by cases h
 | .v _,.Compare ..,h=>by cases h
 | .v _,.Call ..,h=>by cases h
 | .v _,.FormattedValue ..,h=>by cases h
 | .v _,.JoinedStr ..,h=>by cases h
 | .v _,.Constant ..,h=>by cases h
 | .v _,.Attribute ..,h=>by cases h
 | .v _,.Subscript ..,h=>by cases h
 | .v _,.Starred ..,h=>by cases h
 | .v _,.List ..,h=>by cases h
 | .v _,.Tuple ..,h=>by cases h
 | .v _,.Slice ..,h=>by cases h
 | .tup _,.BoolOp ..,h=>by cases h
 | .tup _,.NamedExpr ..,h=>by cases h
 | .tup _,.BinOp ..,h=>by cases h
 | .tup _,.UnaryOp ..,h=>by cases h
 | .tup _,.Lambda ..,h=>by cases h
 | .tup _,.IfExp ..,h=>by cases h
 | .tup _,.Dict ..,h=>by cases h
 | .tup _,.Set ..,h=>by cases h
 | .tup _,.ListComp ..,h=>by cases h
 | .tup _,.SetComp ..,h=>by cases h
 | .tup _,.DictComp ..,h=>by cases h
 | .tup _,.GeneratorExp ..,h=>by cases h
 | .tup _,.Await ..,h=>by cases h
 | .tup _,.Yield ..,h=>by cases h
 | .tup _,.YieldFrom ..,h=>by cases h
 | .tup _,.Compare ..,h=>by cases h
 | .tup _,.Call ..,h=>by cases h
 | .tup _,.FormattedValue ..,h=>by cases h
 | .tup _,.JoinedStr ..,h=>by cases h
 | .tup _,.Constant ..,h=>by cases h
 | .tup _,.Attribute ..,h=>by cases h
 | .tup _,.Subscript ..,h=>by cases h
 | .tup _,.Starred ..,h=>by cases h
 | .tup _,.List ..,h=>by cases h
 | .tup _,.Name ..,h=>by cases h
 | .tup _,.Slice ..,h=>by cases h
 | .k _,_,h=>by cases h
 | .g _,_,h=>by cases h
 | .pr _ _,_,h=>by cases h
 | .mv _,_,h=>by cases h
 | .io _,_,h=>by cases h
 | .nil,_,h=>by cases h
 | .cons _ _,_,h=>by cases h
 | .lst _,_,h=>by cases h
 | .and _ _,_,h=>by cases h
 | .or _ _,_,h=>by cases h
 | .not _,_,h=>by cases h
 | .ite _ _ _,_,h=>by cases h
 | .call _ _,_,h=>by cases h
 | .cal _ _,_,h=>by cases h
 | .mt _ _ _,_,h=>by cases h
 | .comp _ _ _ _ _ _,_,h=>by cases h
 | .itr _ _,_,h=>by cases h
 | .tmp _,_,h=>by cases h
theorem Xl(c:Ctx X w k N sc):∀(es:E) {xs:ZC},Nt N sc es xs=true->PGs X xs (LGs X.K X.mg es)
 | .nil,[],_=>λXB s Z H vs us Q I r ⟨F,G,p,ts,p',rel,ht,e,kq⟩=>by
  cases ts with
  | nil =>
   cases e;exact Zxq XB s Z H vs us Q I r ⟨ht,kq Z rel (λ_ _=>rfl) rfl⟩
  | cons t ts=>cases e
 | .cons a r',y::xs,h=>λXB s Z H vs us Q I r ⟨F,G,p,ts,p',rel,ht,e,kq⟩=>by
  have W2:=Pq _ h;have h:(Br N sc a y&&Nt N sc r' xs)=true:=h;rw[Vl]at h;cases ts with
  | nil=>cases e
  | cons t ts =>
   obtain⟨v,vr,rfl,iv,av⟩:=ht;obtain⟨q,e1,e2⟩:=ZO.mp (show (asg a t p).bind (λq=>Im r' ts q)=some p' from e);refine t9 (Rg c a h.1) (Xl c r' h.2) (by rw[xp (W2 _ V4)];rfl) XB s Z H _ us Q I r ⟨v,vr,rfl,F,G,p,t,q,rel,iv,e1,λσ' Yt k' n'=>⟨F,G,q,ts,p',Yt,av,e2,λσ2 Z0 k2 n2=>kq σ2 Z0 (λj hj=>?_) (n2.trans n')⟩⟩;have hj:j∉Bt a++Bt r':=hj;rw[yk,not_or]at hj;exact(k2 j hj.2).trans (k' j hj.1)
 | .nil,_::_,h=>by cases h
 | .cons _ _,[],h=>by cases h
 | .v _,_,h=>by cases h
 | .k _,_,h=>by cases h
 | .g _,_,h=>by cases h
 | .pr _ _,_,h=>by cases h
 | .mv _,_,h=>by cases h
 | .io _,_,h=>by cases h
 | .tup _,_,h=>by cases h
 | .lst _,_,h=>by cases h
 | .and _ _,_,h=>by cases h
 | .or _ _,_,h=>by cases h
 | .not _,_,h=>by cases h
 | .ite _ _ _,_,h=>by cases h
 | .call _ _,_,h=>by cases h
 | .cal _ _,_,h=>by cases h
 | .mt _ _ _,_,h=>by cases h
 | .comp _ _ _ _ _ _,_,h=>by cases h
 | .itr _ _,_,h=>by cases h
 | .tmp _,_,h=>by cases h
end
end
theorem Wn:∀(fr:ZG) (q p:P),fr.length=q.length->(∀i1 i2 j:Nat,fr[i1]?=some (some j)->fr[i2]?=some (some j)->i1=i2) ->
  (back fr q p).length=p.length/\(∀j:Nat,(∀i:Nat,fr[i]?≠some (some j))->(back fr q p)[j]?=p[j]?)/\∀i j:Nat,fr[i]?=some (some j)->j<p.length->(back fr q p)[j]?=q[i]?
 | [],[],p,_,_=>⟨rfl,λ_ _=>rfl,λi j h=>by simp at h⟩
 | none::fr,s::q,p,hl,inj=>by
  obtain⟨h1,h2,h3⟩:=Wn fr q p (by simpa using hl) λi1 i2 j a b=>by have:=inj (i1+1) (i2+1) j (by simpa using a) (by simpa using b);omega
  refine⟨h1,λj h=>h2 j λi z=>h (i+1) (by simpa using z),λi j h hj=>?_⟩;cases i with
  | zero=>simp at h
  | succ i=>exact h3 i j (by simpa using h) hj
 | some l::fr,s::q,p,hl,inj=>by
  obtain⟨h1,h2,h3⟩:=Wn fr q (p.set l s) (by simpa using hl) λi1 i2 j a b=>by have:=inj (i1+1) (i2+1) j (by simpa using a) (by simpa using b);omega
  rw[XY]at h1;refine⟨h1,λj h=>?_,λi j h hj=>?_⟩
  .have n:l≠j:=λz=>h 0 (by simp[z]);exact(h2 j λi z=>h (i+1) (by simpa using z)).trans (List.getElem?_set_ne n)
  .cases i with
   | zero =>
    simp at h;subst h;refine(h2 l λi z=>?_).trans ((List.getElem?_set_self hj).trans XA);have:=inj 0 (i+1) l XA (by simpa using z);omega
   | succ i=>exact h3 i j (by simpa using h) (by rw[XY];exact hj)
 | [],_::_,_,hl,_=>by simp at hl
 | _::_,[],_,hl,_=>by simp at hl
section
variable{K:W.Frag}{mg:ZV}{F G H:Hp}{p:P}{Z:L2.St}{fr:ZG}
theorem xb{i:Nat}{s:Sl}(h:(yw fr p)[i]?=some s):(fr[i]?=some none/\s=.no)\/∃j,fr[i]?=some (some j)/\s=(p[j]?).getD .no:=by
 unfold yw at h;rw[Oj]at h;obtain⟨o,e1,e2⟩:=Yr.mp h;cases o with
 | none=>exact .inl ⟨e1,e2.symm⟩
 | some j=>exact .inr ⟨j,e1,e2.symm⟩
theorem N6{i j:Nat}{v:V}(h:fr[i]?=some (some j))(e:Z[j]?=some (some v)):(frees fr Z)[i]?=some (some v):=by
 unfold frees;rw[Oj,h];show some ((Z[j]?).bind id)=_;rw[e];rfl
open Classical in
noncomputable def N5(fr:ZG)(p:P)(Z:L2.St)(H G:Hp):Hp:=λa=>if ∃(j:Nat) (t:T),p[j]?=some (Sl.o t)/\Z[j]?=some (some (V.ref a))/\∀i:Nat,fr[i]?≠some (some j) then H a else G a
theorem C5{a:Addr}{j:Nat}{t:T}(h1:p[j]?=some (Sl.o t))(h2:Z[j]?=some (some (V.ref a)))(h3:∀i:Nat,fr[i]?≠some (some j)):N5 fr p Z H G a=H a:=if_pos ⟨j,t,h1,h2,h3⟩
theorem N4{a:Addr}(h:¬ ∃(j:Nat) (t:T),p[j]?=some (Sl.o t)/\Z[j]?=some (some (V.ref a))/\∀i:Nat,fr[i]?≠some (some j)):N5 fr p Z H G a=G a:=if_neg h
theorem sd(r:Rel K mg F G p Z H){a:Addr}{o:HO}(h:G a=some o):N5 fr p Z H G a=some o:=by
 refine(N4 λ⟨i,t,h1,h2,_⟩=>?_).trans h;obtain⟨b,h3,_,h4,_⟩:=r.ow i t h1;rw[h2]at h3;cases h3;rw[h]at h4;cases h4
theorem Zjy(r:Rel K mg F G p Z H)(inj:∀i1 i2 j:Nat,fr[i1]?=some (some j)->fr[i2]?=some (some j)->i1=i2){D:Addr}(hD:H D=none):Rel K mg F (upd (N5 fr p Z H G) D (.lst [])) (yw fr p) (frees fr Z) (upd H D (.lst [])):=by
 have s:Zp H (upd H D (.lst [])):=Zp.lay hD;have nD:∀{a:Addr} {o:HO},H a=some o->a≠D:=λh z=>by rw[z,hD]at h;cases h
 have own:∀{i:Nat} {t:T},(yw fr p)[i]?=some (Sl.o t)->∃j,fr[i]?=some (some j)/\p[j]?=some (Sl.o t):=λ{i t} h=>by
  rcases xb h with ⟨_,z⟩ | ⟨j,e1,e2⟩
  .cases z
  .refine⟨j,e1,?_⟩;cases q:p[j]? with
   | none=>rw[q]at e2;cases e2
   | some x=>rw[q]at e2;exact congrArg some e2.symm
 refine⟨⟨λa o e=>s a o (r.b.f a o e),λa o e=>?_,λa e=>?_,λT e=>let ⟨f1,g1,t1⟩:=r.b.t T e;⟨f1,by
   rw[Zz (t1.no hD).symm]
   exact(N4 λ⟨j,t,h1,h2,_⟩=>by
    obtain⟨b,h3,_,_,h4⟩:=r.ow j t h1;rw[h2]at h3;cases h3;exact h4.ne t1 rfl).trans g1,t1.same s⟩⟩,λi t e=>?_,λi t e=>?_,λi1 i2 t u a e1 e2 h1 h2=>?_,?_⟩
 .by_cases z:a=D
  .subst z;rw[Zq]at e ⊢;exact e
  .rw[Zz z]at e ⊢;by_cases h:∃(j:Nat) (t:T),p[j]?=some (Sl.o t)/\Z[j]?=some (some (V.ref a))/\∀i:Nat,fr[i]?≠some (some j)
   .obtain⟨j,t,g1,g2,g3⟩:=h;rw[C5 g1 g2 g3]at e;exact e
   .rw[N4 h]at e;exact r.b.g a o e
 .have ne:a≠D:=by
   cases q:F a with
   | none=>exact absurd q e
   | some o=>exact nD (r.b.f a o q)
  rw[Zz ne];refine(N4 λ⟨j,t,h1,h2,_⟩=>?_).trans (r.b.d a e);obtain⟨b,h3,h4,_⟩:=r.ow j t h1;rw[h2]at h3;cases h3;exact e h4
 .rcases xb e with ⟨_,z⟩ | ⟨j,e1,e2⟩
  .cases z
  .cases q:p[j]? with
   | none=>rw[q]at e2;cases e2
   | some x =>
    rw[q]at e2;cases(show Sl.f t=x from e2);obtain⟨v,h1,h2⟩:=r.fz j t q;exact⟨v,N6 e1 h1,IsT.up s.up (Le.refl F) t v h2⟩
 .obtain⟨j,e1,q⟩:=own e;obtain⟨a,h1,h2,h3,h4⟩:=r.ow j t q;obtain⟨o,ho⟩:=h4.some;refine⟨a,N6 e1 h1,h2,?_,h4.same s (Le.refl F)⟩;rw[Zz (nD ho)];refine(N4 λ⟨j',t',q1,q2,q3⟩=>?_).trans h3;have:=r.ap j' j t' t a q1 q q2 h1;subst this;exact q3 i e1
 .obtain⟨j1,f1,q1⟩:=own e1;obtain⟨j2,f2,q2⟩:=own e2;obtain⟨a1,k1,_⟩:=r.ow j1 t q1;obtain⟨a2,k2,_⟩:=r.ow j2 u q2;rw[N6 f1 k1]at h1;cases h1;rw[N6 f2 k2]at h2;cases h2;have:=r.ap j1 j2 t u a q1 q2 k1 k2;subst this;exact inj i1 i2 j1 f1 f2
 .unfold yw;rw[Vq,Gk]
theorem Rel.gset{D:Addr}{ys zs:ZQ}(r:Rel K mg F (upd G D (.lst ys)) p Z H):Rel K mg F (upd G D (.lst zs)) p Z (upd H D (.lst zs))/\Up K H (upd H D (.lst zs)):=by
 have hD:H D=some (.lst ys):=r.b.g D _ Zq
 have fD:F D=none:=by
  cases q:F D with
  | none=>rfl
  | some o=>have:=r.b.d D (by rw[q];exactλz=>nomatch z);rw[Zq]at this;cases this
 have u:Up K H (upd H D (.lst zs)):=Hw hD;refine⟨⟨⟨λa o e=>?_,λa o e=>?_,λa e=>?_,λT e=>let ⟨f1,g1,t1⟩:=r.b.t T e;⟨f1,by rw[Zz (t1.ne hD tm).symm]at g1 ⊢;exact g1,t1.upd hD tm⟩⟩,λi t e=>let ⟨v,h1,h2⟩:=r.fz i t e;⟨v,h1,IsT.up u (Le.refl F) t v h2⟩,λi t e=>?_,r.ap,r.ln⟩,u⟩
 .rw[Zz λz=>by rw[z,fD]at e;cases e];exact r.b.f a o e
 .by_cases z:a=D
  .subst z;rw[Zq]at e ⊢;exact e
  .rw[Zz z]at e ⊢;exact r.b.g a o (by rw[Zz z];exact e)
 .have ne:a≠D:=λz=>by rw[z]at e;exact e fD
  have:=r.b.d a e;rw[Zz ne]at this ⊢;exact this
 .obtain⟨a,h1,h2,h3,h4⟩:=r.ow i t e;have ne:a≠D:=λz=>by rw[z,Zq]at h3;cases h3
  exact⟨a,h1,h2,by rw[Zz ne]at h3 ⊢;exact h3,h4.up u (Le.refl F) (Zz ne)⟩
theorem uw{F2 H2:Hp}{q:P}{σ2:L2.St}{D:Addr}{ys:ZQ}(r:Rel K mg F G p Z H)(inj:∀i1 i2 j:Nat,fr[i1]?=some (some j)->fr[i2]?=some (some j)->i1=i2)(hj:∀i j:Nat,fr[i]?=some (some j)->j<p.length)(hD:H D=none)(l:Le F F2)(u:Up K H H2)
  (r2:Rel K mg F2 (upd (N5 fr p Z H G) D (.lst ys)) q σ2 H2) (hl:q.length=fr.length) (keep:∀i j:Nat,fr[i]?=some (some j)->σ2[i]?=(frees fr Z)[i]?):Rel K mg F2 G (back fr q p) Z H2/\F2 D=none/\G D=none/\∀(i:Nat) (t:T),(back fr q p)[i]?=some (Sl.o t)->Z[i]?≠some (some (V.ref D)):=by
 obtain⟨b1,b2,b3⟩:=Wn fr q p hl.symm inj;have nD:∀{a:Addr} {o:HO},H a=some o->a≠D:=λh z=>by rw[z,hD]at h;cases h
 have fD:F2 D=none:=by
  cases e:F2 D with
  | none=>rfl
  | some o=>have:=r2.b.d D (by rw[e];exactλz=>nomatch z);rw[Zq]at this;cases this
 have gD:G D=none:=by
  cases e:G D with
  | none=>rfl
  | some o=>have:=r.b.g D o e;rw[hD]at this;cases this
 have gN:∀{a:Addr},a≠D->upd (N5 fr p Z H G) D (.lst ys) a=none->G a=none:=λ{a} n h=>by
  rw[Zz n]at h;cases e:G a with
  | none=>rfl
  | some o=>rw[sd r e]at h;cases h
 have val:∀{i j:Nat} {v:V},fr[i]?=some (some j)->σ2[i]?=some (some v)->Z[j]?=some (some v):=λ{i j v} e h=>by
  rw[keep i j e]at h;unfold frees at h;rw[Oj,e]at h;have h:(Z[j]?).bind id=some v:=D8 h;cases q:Z[j]? with
  | none=>rw[q]at h;cases h
  | some o=>rw[q]at h;exact congrArg some h
 have cas:∀j:Nat,(∃i:Nat,fr[i]?=some (some j))\/∀i:Nat,fr[i]?≠some (some j):=λj=>by
  by_cases h:∃i:Nat,fr[i]?=some (some j)
  .exact .inl h
  .exact .inr λi z=>h ⟨i,z⟩
 have own:∀{j:Nat} {t:T},(back fr q p)[j]?=some (Sl.o t)->∃a,Z[j]?=some (some (V.ref a))/\a≠D/\F2 a=none/\G a=none/\W6 K mg H2 F2 a t:=λ{j t} e=>by
  rcases cas j with ⟨i,f1⟩ | f1
  .rw[b3 i j f1 (hj i j f1)]at e;obtain⟨a,h1,h2,h3,h4⟩:=r2.ow i t e;have n:a≠D:=λz=>by rw[z,Zq]at h3;cases h3
   exact⟨a,val f1 h1,n,h2,gN n h3,h4⟩
  .rw[b2 j f1]at e;obtain⟨a,h1,h2,h3,h4⟩:=r.ow j t e;obtain⟨o,ho⟩:=h4.some;have n:=nD ho;have g1:upd (N5 fr p Z H G) D (.lst ys) a=some o:=by rw[Zz n,C5 e h1 f1];exact ho
   refine⟨a,h1,n,?_,h3,h4.up u l ((r2.b.g a o g1).trans ho.symm)⟩;cases z:F2 a with
   | none=>rfl
   | some x=>have:=r2.b.d a (by rw[z];exactλz=>nomatch z);rw[g1]at this;cases this
 refine⟨⟨⟨r2.b.f,λa o e=>r2.b.g a o (by rw[Zz (nD (r.b.g a o e))];exact sd r e),λa e=>?_,λT e=>⟨(r2.b.t T e).f,(r.b.t T e).g,(r2.b.t T e).h⟩⟩,λj t e=>?_,λj t e=>let ⟨a,h1,_,h2,h3,h4⟩:=own e;⟨a,h1,h2,h3,h4⟩,λj1 j2 t t' a e1 e2 h1 h2=>?_,by rw[b1];exact r.ln⟩,fD,gD,λi t e z=>?_⟩
 .have n:a≠D:=λz=>by rw[z]at e;exact e fD
  exact gN n (r2.b.d a e)
 .rcases cas j with ⟨i,f1⟩ | f1
  .rw[b3 i j f1 (hj i j f1)]at e;obtain⟨v,h1,h2⟩:=r2.fz i t e;exact⟨v,val f1 h1,h2⟩
  .rw[b2 j f1]at e;obtain⟨v,h1,h2⟩:=r.fz j t e;exact⟨v,h1,IsT.up u l t v h2⟩
 .rcases cas j1 with ⟨i1,f1⟩ | f1
  .rw[b3 i1 j1 f1 (hj i1 j1 f1)]at e1;obtain⟨a1,k1,_,g1,_⟩:=r2.ow i1 t e1;have:=val f1 k1;rw[h1]at this;cases this;rcases cas j2 with ⟨i2,f2⟩ | f2
   .rw[b3 i2 j2 f2 (hj i2 j2 f2)]at e2;obtain⟨a2,k2,_⟩:=r2.ow i2 t' e2;have:=val f2 k2;rw[h2]at this;cases this;have:=r2.ap i1 i2 t t' a e1 e2 k1 k2;subst this;rw[f1]at f2;cases f2;rfl
   .rw[b2 j2 f2]at e2;obtain⟨b,c1,_,_,c4⟩:=r.ow j2 t' e2;rw[h2]at c1;cases c1;obtain⟨o,ho⟩:=c4.some;rw[Zz (nD ho),C5 e2 h2 f2,ho]at g1;cases g1
  .rw[b2 j1 f1]at e1;rcases cas j2 with ⟨i2,f2⟩ | f2
   .rw[b3 i2 j2 f2 (hj i2 j2 f2)]at e2;obtain⟨a2,k2,_,g2,_⟩:=r2.ow i2 t' e2;have:=val f2 k2;rw[h2]at this;cases this;obtain⟨b,c1,_,_,c4⟩:=r.ow j1 t e1;rw[h1]at c1;cases c1;obtain⟨o,ho⟩:=c4.some;rw[Zz (nD ho),C5 e1 h1 f1,ho]at g2;cases g2
   .rw[b2 j2 f2]at e2;exact r.ap j1 j2 t t' a e1 e2 h1 h2
 .obtain⟨a,h1,n,_⟩:=own e;rw[h1]at z;cases z;exact n rfl
end
def LT(K:PySem.W.Frag)(mg:ZV)(w:W)(c:E):TT:=if isNil c=true then Xm else LB K mg w c
theorem su{NX:ZD}{names:ZK}{ns:ZD}{fr:ZG}(h:Gg NX names ns fr=true)(nd:ns.Nodup):∀i1 i2 j:Nat,fr[i1]?=some (some j)->fr[i2]?=some (some j)->i1=i2:=λi1 i2 j e1 e2=>by
 obtain⟨x,a1,a2,_⟩:=Jo h e1;obtain⟨y,b1,b2,_⟩:=Jo h e2;rw[a2]at b2;cases b2;have h1:=(W8.mp a1);have h2:=(W8.mp b1);obtain⟨l1,g1⟩:=h1;obtain⟨l2,g2⟩:=h2;exact(List.getElem_inj nd).mp (g1.trans g2.symm)
section
variable{X:Cx}{w:W}{k:Nat}{N:ZD}{sc:ZK}
noncomputable def Zwp(w:W)(tg c el:E):T->P->Option (Option T×P):=λx s=>(asg tg x s).bind λs1=>(if isNil c=true then some (true,s1) else G2 (ev w c s1)).bind λb=>if b.1=true then (toT (ev w el b.2)).map λr=>(some r.1,r.2) else some (none,b.2)
theorem xa(c:Ctx X w k N sc){tg it cd el:E}{fr:ZG}{ns:ZD}{scope:Scope}(s2:Gg N scope.names ns fr=true)(nd:ns.Nodup)(ht:∀i∈Bt tg,fr[i]?=some none){Z:L2.St}{H:Hp}{Q:VK}(hσ:Z.length=N.length)(h:LE X.K X.mg w (.comp tg it cd el fr ns) Z H Q) :
  fj (LI X w it) fr (λ_ _ _=>LG X.K X.mg tg) (λ_ _ _=>LT X.K X.mg w cd) (λ_ _ _=>LE X.K X.mg w el) Z H λv H1=>∃H2,Mel X H1 H2/\Q v H2:=by
 obtain⟨F,G,p,r,p',rel,e,kq⟩:=h;have inj:=su s2 nd;have frl:=N7 s2
 replace e:=(pb _ _ _ _ _ _).symm.trans e
 obtain⟨⟨xs,p1⟩,e1,e⟩:=ZO.mp e;obtain⟨⟨yz,qe⟩,e2,e⟩:=Yr.mp e;cases e;have e2:Mr (Zwp w tg cd el) xs [] (yw fr p1)=some (yz,qe):=e2;refine⟨F,G,p,xs,p1,rel,e1,λF1 H1 F' H' J l u Z1 fz zl walk=>?_⟩;intro D fp sx hD;obtain⟨Yt,u',lr⟩:=fz.rel Z1
 have jl:∀i j:Nat,fr[i]?=some (some j)->j<p1.length:=λi j e=>by
  obtain⟨x,a1,a2,_⟩:=Jo s2 e;rw[Z1.ln,hσ];exact(W8.mp a2).1
 let GD:ZQ->Hp:=λys=>upd (N5 fr p1 Z H' G) D (.lst ys)
 let Wt:Nat->Nat->ZQ->L2.St->Hp->Prop:=λi m ys σ2 H2=>m=xs.length-i/\i<=xs.length/\∃F2 q acc,Le F' F2/\Up X.K H' H2/\Rel X.K X.mg F2 (GD ys) q σ2 H2/\Zj X.K X.mg H2 F2 acc ys/\ys.length<=i/\Mr (Zwp w tg cd el) (xs.drop i) acc q=some (yz,qe)/\(∀i j:Nat,fr[i]?=some (some j)->σ2[i]?=(frees fr Z)[i]?)/\σ2.length=fr.length
 refine⟨Wt,⟨xs.length,rfl,Io _,F',yw fr p1,[],Le.refl _,(Zp.lay hD).up,Zjy Yt inj hD,rfl,Vy _,e2,λ_ _ _=>rfl,Gk fr Z⟩,?_⟩;rintro i m ys σ2 H2 ⟨rfl,hi',F2,q,acc,l2,u2,r2,ar,yl,e3,keep,sl⟩;have hD2:H2 D=some (.lst ys):=r2.b.g D _ Zq;refine⟨hD2,?_⟩;obtain⟨wk1,wk2⟩:=walk i F2 H2 l2 u2 r2.b.f;by_cases xk:i<xs.length
 .have et:xs[i]?=some xs[i]:=Tc xk;rw[List.drop_eq_getElem_cons xk]at e3;unfold Mr at e3;obtain⟨⟨o,q1⟩,e4,e5⟩:=ZO.mp e3;obtain⟨s3,e6,e7⟩:=ZO.mp (show (asg tg xs[i] q).bind _=some (o,q1) from e4);obtain⟨⟨b,s4⟩,e8,e9⟩:=ZO.mp e7;obtain⟨g1,g2⟩:=wk1 _ et;refine .inr ⟨g1,λys' σ' H'=>Wt (i+1) (xs.length-(i+1)) ys' σ' H',λys' σ' H' h=>⟨_,by omega,h⟩,λx H3 yd=>?_⟩;obtain⟨sm,ix⟩:=g2 x H3 yd;refine⟨F2,GD ys,q,xs[i],s3,r2.same sm,ix,e6,λσ3 r3 k3 n3=>?_⟩;have keep3:∀i j:Nat,fr[i]?=some (some j)->σ3[i]?=(frees fr Z)[i]?:=λa j ea=>(k3 a λm=>by rw[ht a m]at ea;cases ea).trans (keep a j ea);have sl3:σ3.length=fr.length:=n3.trans sl
  have elm:∀{F4 H4:Hp},b=true->Le F2 F4->Up X.K H3 H4->Rel X.K X.mg F4 (GD ys) s4 σ3 H4->LE X.K X.mg w el σ3 H4 λy H5=>H5 D=some (.lst ys)/\ys.length<sizeLine/\Wt (i+1) (xs.length-(i+1)) (ys++[y]) σ3 (upd H5 D (.lst (ys++[y]))):=λ{F4 H4} hb l4 u4 r4=>by
   rw[if_pos hb]at e9;obtain⟨⟨t',s5⟩,e10,e11⟩:=Yr.mp e9;cases e11;obtain⟨rr,e12,e13⟩:=Rv e10;refine⟨F4,GD ys,s4,rr,s5,r4,e12,λF5 H5 y l5 u5 r5 rs=>?_⟩;obtain⟨F6,l6,r6,it6⟩:=r5.thaw e13 rs;obtain⟨r7,u7⟩:=r6.gset (zs:=ys++[y]);refine⟨r6.b.g D _ Zq,by omega,rfl,xk,F6,s5,acc++[t'],(l2.trans l4).trans (l5.trans l6),u2.trans (sm.up.trans (u4.trans (u5.trans u7))),r7,?_,?_,e5,keep3,sl3⟩
   .exact(Zj.up (sm.up.trans (u4.trans (u5.trans u7))) (l4.trans (l5.trans l6)) _ _ ar).append (Zj.one (IsT.up u7 (Le.refl _) _ _ it6))
   .rw[W7];show ys.length+1<=i+1;omega
  show (LT X.K X.mg w cd) σ3 H3 λok H4=>if ok=true then _ else _
  unfold LT;by_cases hn:isNil cd=true
  .rw[if_pos hn]at e8;cases e8;rw[if_pos hn];exact Zqt (B:=Wt (i+1) (xs.length-(i+1)) ys σ3 H3) (elm rfl (Le.refl _) (Up.refl _) r3)
  .rw[if_neg hn]at e8;rw[if_neg hn];refine⟨F2,GD ys,s3,b,s4,r3,e8,λF4 H4 l4 u4 r4=>?_⟩;cases b with
   | true =>
    exact Zqt (B:=Wt (i+1) (xs.length-(i+1)) ys σ3 H4) (elm rfl l4 u4 r4)
   | false =>
    cases e9;exact iteF ⟨rfl,xk,F4,s4,acc,l2.trans l4,u2.trans (sm.up.trans u4),r4,Zj.up (sm.up.trans u4) l4 _ _ ar,by omega,e5,keep3,sl3⟩
 .have ei:i=xs.length:=XS
  subst ei;rw[List.drop_length]at e3;cases e3;refine .inl ⟨wk2 rfl,?_⟩;obtain⟨ro,fD,gD,nD⟩:=uw Yt inj jl hD l2 u2 r2 (by rw[r2.ln];exact sl) keep;obtain⟨F3,H3,l3,r3,ml,u3,lr3,n1,n2⟩:=fz.back l2 ro;refine⟨H3,ml,kq F3 H3 (.ref D) (l.trans l3) (u.trans (u'.trans (u2.trans u3))) r3 ⟨D,rfl,n1 D fD,gD,⟨ys,(n2 D fD).trans hD2,by omega,Zj.upR u3 lr3 _ _ ar⟩,nD⟩⟩
theorem bb(c:Ctx X w k N sc)(hsc:X.env.scope.names=sc){outer:Scope}(ho:outer.names=sc){tg it cd el:E}{fr:ZG}{ns:ZD}{elt t iter:Expr}{ifs:ZC}{scope:Scope}{pos:Pos}
  (hi:PI X t iter (LI X w it)) (s1:Ha outer scope=true) (s2:Gg N scope.names ns fr=true) (nd:ns.Nodup) (ht:∀i∈Bt tg,fr[i]?=some none)
  (hg:∀fp s H,PG (Yq X scope ns fp s H) t (LG X.K X.mg tg)) (hc:∀fp s H,PTs (Yq X scope ns fp s H) ifs (LT X.K X.mg w cd)) (he:∀fp s H,PE (Yq X scope ns fp s H) elt (LE X.K X.mg w el))
  (hfold:∀x,foldedSetIterable iter X.env x=pure x):PE X (.ListComp elt [⟨t,iter,ifs,0⟩] scope pos) (LE X.K X.mg w (.comp tg it cd el fr ns)):=λXB s Z H Q I h =>
 PE.mel (Zxy (te:=λ_ _ _=>LE X.K X.mg w el) (tt:=λ_ _ _=>LT X.K X.mg w cd) (g:=λ_ _ _=>LG X.K X.mg tg) c.calm hi (NX:=N) (outer:=outer) ⟨c.nN,by rw[hsc,ho],s1,s2⟩ hg hc he hfold) XB s Z H Q I (xa c s2 nd ht (by rw[I.len,c.nN]) h)
end
def asName:Expr->Option Str:=ke
noncomputable def Ky(x:Expr):Option (ZC):=match Tr x with
 | .tup xs=>some xs
 | _=>none
noncomputable def Kf(x:Expr):Option (ZC):=match Tr x with
 | .lst xs=>some xs
 | _=>none
noncomputable def Cj(op:BoolOp)(z:Expr):Option (Expr×Expr×ZC×Pos):=match Tr z with
 | .boo o (x::y::r) pos=>if o=op then some (x,y,r,pos) else none
 | _=>none
noncomputable def Kg(z:Expr):Option Expr:=match Tr z with
 | .un o x=>if o=.Not then some x else none
 | _=>none
noncomputable def Zjl(z:Expr):Option (Expr×Expr×Expr):=match Tr z with
 | .ife c a b=>some (c,a,b)
 | _=>none
def Cq:Expr->Option (Str×ZC):=qb
noncomputable def x5(z:Expr):Option (Str×Str×ZC):=match Tr z with
 | .callA o m ap xs cp=>(match ke o with
  | some y=>if (ap.endLine==cp.line)=true then some (y,m,xs) else none
  | none=>none)
 | _=>none
noncomputable def x6(z:Expr):Option (Expr×Expr×Expr×ZC×Scope):=match Tr z with
 | .lc elt [⟨t,iter,ifs,0⟩] scope=>some (elt,t,iter,ifs,scope)
 | _=>none
noncomputable def plainT:Expr->Bool
 | .UnaryOp .Not _ _=>false
 | .BoolOp _ _ _=>false
 | .IfExp _ _ _ _=>false
 | .Compare _ _ _ _=>false
 | _=>true
def Ba:Expr->Bool
 | .Set _ _ _=>false
 | _=>true
noncomputable def Lz:E->Expr->Bool
 | .and a b,x=>match Cj .And x with
  | some (x0,y,r,pos)=>Lz a x0&&(if r.isEmpty then Lz b y else Lz b (.BoolOp .And (y::r) pos)&&(match b with
   | .and _ _=>true
   | _=>false))
  | none=>false
 | .or a b,x=>match Cj .Or x with
  | some (x0,y,r,pos)=>Lz a x0&&(if r.isEmpty then Lz b y else Lz b (.BoolOp .Or (y::r) pos)&&(match b with
   | .or _ _=>true
   | _=>false))
  | none=>false
 | .not a,x=>match Kg x with
  | some y=>Lz a y
  | none=>false
 | .tmp a,x=>Lz a x
 | .pr (.cm _) _,_=>true
 | .pr (.c2 _ _) _,_=>true
 | _,x=>plainT x
noncomputable def ik(fr:ZG)(tg:E):Bool:=(Bt tg).all λi=>fr[i]? == some none
mutual
noncomputable def rep:Bool->ZD->Scope->E->Expr->Bool
 | _,N,sc,.v i,x=>match asName x with
  | some y=>U1 N sc.names i y
  | none=>false
 | _,N,sc,.mv i,x=>match asName x with
  | some y=>U1 N sc.names i y
  | none=>false
 | _,_,_,.k t,x=>repK t x
 | _,_,sc,.g g,x=>match asName x with
  | some y=>g==y&&Fg sc.names y
  | none=>false
 | tp,N,sc,.tup es,x=>match Ky x with
  | some xs=>Jd es&&Uu tp N sc es xs
  | none=>false
 | tp,N,sc,.lst es,x=>match Kf x with
  | some xs=>Jd es&&Uu tp N sc es xs
  | none=>false
 | tp,N,sc,.pr q es,x=>match view sc.names q x with
  | some xs=>Jd es&&quiet q es&&Uu tp N sc es xs
  | none=>false
 | tp,N,sc,.and a b,x=>match Cj .And x with
  | some (x0,y,r,pos)=>rep tp N sc a x0&&(if r.isEmpty then rep tp N sc b y else rep tp N sc b (.BoolOp .And (y::r) pos))
  | none=>false
 | tp,N,sc,.or a b,x=>match Cj .Or x with
  | some (x0,y,r,pos)=>rep tp N sc a x0&&(if r.isEmpty then rep tp N sc b y else rep tp N sc b (.BoolOp .Or (y::r) pos))
  | none=>false
 | tp,N,sc,.not a,x=>match Kg x with
  | some y=>rep tp N sc a y
  | none=>false
 | tp,N,sc,.ite c a b,x=>match Zjl x with
  | some (z,x0,y)=>rep tp N sc c z&&Lz c z&&rep tp N sc a x0&&rep tp N sc b y
  | none=>false
 | tp,N,sc,.call f es,x=>match Cq x with
  | some (g,xs)=>f==g&&Fg sc.names g && !xs.isEmpty&&Uu tp N sc es xs
  | none=>false
 | tp,N,sc,.cal i es,x=>match Cq x with
  | some (g,xs)=>U1 N sc.names i g && !xs.isEmpty&&Jd es&&Uu tp N sc es xs
  | none=>false
 | tp,N,sc,.mt m i es,x=>match x5 x with
  | some (y,n,xs)=>n==mtN m&&U1 N sc.names i y&&Jd es&&Uu tp N sc es xs&&(match m with
   | .pop=>xs.isEmpty
   | _=>!xs.isEmpty&&decide (xs.length<30))
  | none=>false
 | tp,N,sc,.comp tg it c el fr ns,x=>match x6 x with
  | some (elt,t,iter,ifs,scope)=>tp&&Ql tp N sc t it iter&&Ha sc scope&&Gg N scope.names ns fr&&decide (ns.Nodup/\scope.names≠Ti)&&ik fr tg&&Ba iter&&Br ns scope.names tg t
   && (if isNil c then ifs.isEmpty else (match ifs with
    | [z]=>rep false ns scope c z&&Lz c z
    | _=>false))&&rep false ns scope el elt
  | none=>false
 | tp,N,sc,.tmp a,x=>rep tp N sc a x
 | _,_,_,_,_=>false
noncomputable def Ql:Bool->ZD->Scope->Expr->E->Expr->Bool
 | tp,N,sc,t,.itr q es,x=>match Cq x with
  | some (f,xs)=>f==ikN q&&Fg sc.names f&&ikOk q t&&decide (xs.length=ikL q)&&Jd es&&Uu tp N sc es xs
  | none=>false
 | tp,N,sc,_,.v i,x=>match asName x with
  | some y=>U1 N sc.names i y
  | none=>false
 | tp,N,sc,_,.pr q es,x=>match view sc.names q x with
  | some xs=>Jd es&&quiet q es&&Uu tp N sc es xs
  | none=>false
 | tp,N,sc,_,.call f es,x=>match Cq x with
  | some (g,xs)=>f==g&&Fg sc.names g && !xs.isEmpty&&Uu tp N sc es xs
  | none=>false
 | tp,N,sc,_,.lst es,x=>match Kf x with
  | some xs=>Jd es&&Uu tp N sc es xs
  | none=>false
 | tp,N,sc,_,.tup es,x=>match Ky x with
  | some xs=>Jd es&&Uu tp N sc es xs
  | none=>false
 | _,_,_,_,_,_=>false
noncomputable def Uu:Bool->ZD->Scope->E->ZC->Bool
 | _,_,_,.nil,[]=>true
 | tp,N,sc,.cons a r,x::xs=>noStar x&&(match a with
  | .io i=>(match asName x with
   | some y=>U1 N sc.names i y
   | none=>false)
  | _=>rep tp N sc a x)&&Uu tp N sc r xs
 | _,_,_,_,_=>false
end
theorem mn{tp:Bool}{N:ZD}{sc:Scope}{x:Expr}:∀i,rep tp N sc (.v i) x=(match asName x with
  | some y=>U1 N sc.names i y
  | none=>false):=λ_=>rfl
theorem Zza{tp:Bool}{N:ZD}{sc:Scope}{x:Expr}:∀i,rep tp N sc (.mv i) x=(match asName x with
  | some y=>U1 N sc.names i y
  | none=>false):=λ_=>rfl
theorem rep_gQ{tp:Bool}{N:ZD}{sc:Scope}{x:Expr}:∀g,rep tp N sc (.g g) x=(match asName x with
  | some y=>g==y&&Fg sc.names y
  | none=>false):=λ_=>rfl
theorem mr{tp:Bool}{N:ZD}{sc:Scope}{x:Expr}:∀es,rep tp N sc (.tup es) x=(match Ky x with
  | some xs=>Jd es&&Uu tp N sc es xs
  | none=>false):=λ_=>rfl
theorem mh{tp:Bool}{N:ZD}{sc:Scope}{x:Expr}:∀es,rep tp N sc (.lst es) x=(match Kf x with
  | some xs=>Jd es&&Uu tp N sc es xs
  | none=>false):=λ_=>rfl
theorem Qn{tp:Bool}{N:ZD}{sc:Scope}{x:Expr}:∀q es,rep tp N sc (.pr q es) x=(match view sc.names q x with
  | some xs=>Jd es&&quiet q es&&Uu tp N sc es xs
  | none=>false):=λ_ _=>rfl
theorem O8{tp:Bool}{N:ZD}{sc:Scope}{x:Expr}:∀a b,rep tp N sc (.and a b) x=(match Cj .And x with
  | some (x0,y,r,pos)=>rep tp N sc a x0&&(if r.isEmpty then rep tp N sc b y else rep tp N sc b (.BoolOp .And (y::r) pos))
  | none=>false):=λ_ _=>rfl
theorem Xi{tp:Bool}{N:ZD}{sc:Scope}{x:Expr}:∀a b,rep tp N sc (.or a b) x=(match Cj .Or x with
  | some (x0,y,r,pos)=>rep tp N sc a x0&&(if r.isEmpty then rep tp N sc b y else rep tp N sc b (.BoolOp .Or (y::r) pos))
  | none=>false):=λ_ _=>rfl
theorem O7{tp:Bool}{N:ZD}{sc:Scope}{x:Expr}:∀a,rep tp N sc (.not a) x=(match Kg x with
  | some y=>rep tp N sc a y
  | none=>false):=λ_=>rfl
theorem me{tp:Bool}{N:ZD}{sc:Scope}{x:Expr}:∀c a b,rep tp N sc (.ite c a b) x=(match Zjl x with
  | some (z,x0,y)=>rep tp N sc c z&&Lz c z&&rep tp N sc a x0&&rep tp N sc b y
  | none=>false):=λ_ _ _=>rfl
theorem jv{tp:Bool}{N:ZD}{sc:Scope}{x:Expr}:∀f es,rep tp N sc (.call f es) x=(match Cq x with
  | some (g,xs)=>f==g&&Fg sc.names g && !xs.isEmpty&&Uu tp N sc es xs
  | none=>false):=λ_ _=>rfl
theorem m4{tp:Bool}{N:ZD}{sc:Scope}{x:Expr}:∀i es,rep tp N sc (.cal i es) x=(match Cq x with
  | some (g,xs)=>U1 N sc.names i g && !xs.isEmpty&&Jd es&&Uu tp N sc es xs
  | none=>false):=λ_ _=>rfl
theorem Zzo{tp:Bool}{N:ZD}{sc:Scope}{x:Expr}:∀m i es,rep tp N sc (.mt m i es) x=(match x5 x with
  | some (y,n,xs)=>n==mtN m&&U1 N sc.names i y&&Jd es&&Uu tp N sc es xs&&(match m with
   | .pop=>xs.isEmpty
   | _=>!xs.isEmpty&&decide (xs.length<30))
  | none=>false):=λ_ _ _=>rfl
theorem L5{tp:Bool}{N:ZD}{sc:Scope}{x:Expr}:∀tg it c el fr ns,rep tp N sc (.comp tg it c el fr ns) x=(match x6 x with
  | some (elt,t,iter,ifs,scope)=>tp&&Ql tp N sc t it iter&&Ha sc scope&&Gg N scope.names ns fr&&decide (ns.Nodup/\scope.names≠Ti)&&ik fr tg&&Ba iter&&Br ns scope.names tg t
   && (if isNil c then ifs.isEmpty else (match ifs with
    | [z]=>rep false ns scope c z&&Lz c z
    | _=>false))&&rep false ns scope el elt
  | none=>false):=λ_ _ _ _ _ _=>rfl
theorem jd{tp:Bool}{N:ZD}{sc:Scope}{t x:Expr}:∀q es,Ql tp N sc t (.itr q es) x=(match Cq x with
  | some (f,xs)=>f==ikN q&&Fg sc.names f&&ikOk q t&&decide (xs.length=ikL q)&&Jd es&&Uu tp N sc es xs
  | none=>false):=λ_ _=>rfl
theorem Ho{tp:Bool}{N:ZD}{sc:Scope}{x:Expr}{xs:ZC}:∀a r,Uu tp N sc (.cons a r) (x::xs)=(noStar x&&(match a with
  | .io i=>(match asName x with
   | some y=>U1 N sc.names i y
   | none=>false)
  | _=>rep tp N sc a x)&&Uu tp N sc r xs):=λ_ _=>rfl
theorem Rt{x:Expr}{env:Env}(h:plainT x=true):∀whole,isTrue x env whole=(do let v <-whole;standAt x.pos;holding [v] (truthy v)):=by
 intro wh;cases x<;>first | rfl | cases h | (rename_i op _ _;cases op<;>first | rfl | cases h)
theorem Dj{x:Expr}{env:Env}(h:Ba x=true):∀v,foldedSetIterable x env v=pure v:=by
 intro v;cases x<;>first | rfl | cases h
theorem Uc{x:Expr}{y:Str}(h:asName x=some y):∃pos,x=.Name y pos:=Qw h
theorem ur{x:Expr}{y:ZC}(h:Ky x=some y):∃j pos,x=.Tuple y j pos:=by
 unfold Ky at h
 split at h
 .rename_i e;cases h;exact Yx e
 .cases h
theorem ua{x:Expr}{y:ZC}(h:Kf x=some y):∃pos,x=.List y pos:=by
 unfold Kf at h
 split at h
 .rename_i e;cases h;exact Yx e
 .cases h
theorem Bv{op:BoolOp}{x x0 y:Expr}{r:ZC}{pos:Pos}(h:Cj op x=some (x0,y,r,pos)):x=.BoolOp op (x0::y::r) pos:=by
 unfold Cj at h
 split at h
 .rename_i e'
  split at h
  .rename_i e;cases h;rw[<-e];exact Yx e'
  .cases h
 .cases h
theorem Kk{x y:Expr}(h:Kg x=some y):∃pos,x=.UnaryOp .Not y pos:=by
 unfold Kg at h
 split at h
 .rename_i e'
  split at h
  .rename_i e;cases h;rw[<-e];exact Yx e'
  .cases h
 .cases h
theorem Zjn{x a b c:Expr}(h:Zjl x=some (c,a,b)):∃pos,x=.IfExp c a b pos:=by
 unfold Zjl at h
 split at h
 .rename_i e;cases h;exact Yx e
 .cases h
theorem Ws{x:Expr}{f:Str}{xs:ZC}(h:Cq x=some (f,xs)):∃p pos,x=.Call (.Name f p) xs [] pos:=Ci h
theorem uh{x:Expr}{y m:Str}{xs:ZC}(h:x5 x=some (y,m,xs)):∃p ap cp,x=.Call (.Attribute (.Name y p) m ap) xs [] cp/\(ap.endLine==cp.line)=true:=by
 unfold x5 at h
 split at h
 .rename_i e
  split at h
  .rename_i e'
   obtain⟨p,rfl⟩:=Qw e'
   split at h
   .rename_i z;cases h;exact⟨p,_,_,Yx e,z⟩
   .cases h
  .cases h
 .cases h
theorem Kb{x elt t iter:Expr}{ifs:ZC}{scope:Scope}(h:x6 x=some (elt,t,iter,ifs,scope)):∃pos,x=.ListComp elt [⟨t,iter,ifs,0⟩] scope pos:=by
 unfold x6 at h
 split at h
 .rename_i e;cases h;exact Yx e
 .cases h
def Zwu:E->Bool
 | .and _ _=>true
 | .or _ _=>true
 | _=>false
def SE(w:W)(e:E):Prop:=∀(X:Cx) (k:Nat) (N:ZD) (sc:Scope) (tp:Bool) (x:Expr),Ctx X w k N sc.names->(tp=true->X.env.scope.names=sc.names)->rep tp N sc e x=true->PE X x (LE X.K X.mg w e)
def ST(w:W)(e:E):Prop:=∀(X:Cx) (k:Nat) (N:ZD) (sc:Scope) (tp:Bool) (x:Expr),Ctx X w k N sc.names->(tp=true->X.env.scope.names=sc.names)->rep tp N sc e x=true->Lz e x=true->PT X x (LB X.K X.mg w e)/\(Zwu e=true->PW X x (LB X.K X.mg w e))
def SR(w:W)(e:E):Prop:=∀(X:Cx) (k:Nat) (N:ZD) (sc:Scope) (tp m:Bool) (xs:ZC),Ctx X w k N sc.names->(tp=true->X.env.scope.names=sc.names)->Uu tp N sc e xs=true->Hs X w m e xs
def SI(w:W)(e:E):Prop:=∀(X:Cx) (k:Nat) (N:ZD) (sc:Scope) (tp:Bool) (t x:Expr),Ctx X w k N sc.names->(tp=true->X.env.scope.names=sc.names)->Ql tp N sc t e x=true->PI X t x (LI X w e)
section
variable{w:W}
theorem Y6{e:E}(h:SE w e)(ht:∀x,Lz e x=plainT x)(ha:Zwu e=false):ST w e:=λX k N sc tp x c ct hr ht'=>⟨Zj5 (h X k N sc tp x c ct hr) (Rt (by rw[<-ht x];exact ht')),λz=>by rw[ha]at z;cases z⟩
theorem Vu{e:E}(h:∀tp N sc xs,Uu tp N sc e xs=false):SR w e:=λX k N sc tp m xs c ct hr=>by rw[h]at hr;cases hr
theorem U4{e:E}(h:∀tp N sc t x,Ql tp N sc t e x=false):SI w e:=λX k N sc tp t x c ct hr=>by rw[h]at hr;cases hr
theorem Xh{e:E}(h:∀tp N sc x,rep tp N sc e x=false):SE w e:=λX k N sc tp x c ct hr=>by rw[h]at hr;cases hr
theorem Xt{e:E}(h:∀tp N sc x,rep tp N sc e x=false):ST w e:=λX k N sc tp x c ct hr=>by rw[h]at hr;cases hr
theorem O4{e:E}(h:SE w e)(hr:∀tp N sc t x,Ql tp N sc t e x=rep tp N sc e x):SI w e:=λX k N sc tp t x c ct h'=>bf (h X k N sc tp x c ct (by rw[<-hr];exact h'))
theorem se_v(i:Nat):SE w (.v i):=λX k N sc tp x c ct hr=>by
 replace hr:=(mn _).symm.trans hr
 split at hr
 .rename_i y hy;obtain⟨pos,rfl⟩:=Uc hy;exact snd_v c hr
 .cases hr
theorem Zj6(i:Nat):SE w (.mv i):=λX k N sc tp x c ct hr=>by
 replace hr:=(Zza _).symm.trans hr
 split at hr
 .rename_i y hy;obtain⟨pos,rfl⟩:=Uc hy;exact snd_mv c hr
 .cases hr
theorem se_g(g:Str):SE w (.g g):=λX k N sc tp x c ct hr=>by
 replace hr:=(rep_gQ _).symm.trans hr
 split at hr
 .rename_i y hy;obtain⟨pos,rfl⟩:=Uc hy;exact snd_g c hr
 .cases hr
theorem se_k(t:T):SE w (.k t):=λX k N sc tp x c ct hr=>snd_k hr
theorem Hh{es:E}(ih:SR w es):SE w (.tup es):=λX k N sc tp x c ct hr=>by
 replace hr:=(mr _).symm.trans hr
 split at hr
 .rename_i xs hy
  obtain⟨j,pos,rfl⟩:=ur hy;rw[Vl]at hr;exact Zzq (ih X k N sc tp false xs c ct hr.2) hr.1
 .cases hr
theorem Hu{es:E}(ih:SR w es):SE w (.lst es):=λX k N sc tp x c ct hr=>by
 replace hr:=(mh _).symm.trans hr
 split at hr
 .rename_i xs hy
  obtain⟨pos,rfl⟩:=ua hy;rw[Vl]at hr;exact Zzv (ih X k N sc tp false xs c ct hr.2) hr.1
 .cases hr
theorem bu{q:Pr}{es:E}(ih:SR w es):SE w (.pr q es):=λX k N sc tp x c ct hr=>by
 replace hr:=(Qn _ _).symm.trans hr
 split at hr
 .rename_i xs hy
  simp only[Vl]at hr;exact tz c hy (ih X k N sc tp true xs c ct hr.2) hr.1.2
 .cases hr
theorem se_and{a b:E}(ha:SE w a)(hb:SE w b):SE w (.and a b):=λX k N sc tp x c ct hr=>by
 replace hr:=(O8 _ _).symm.trans hr
 split at hr
 .rename_i x0 y r pos hy
  rw[Bv hy];rw[Vl]at hr;obtain⟨h1,h2⟩:=hr;refine snd_and (ha X k N sc tp x0 c ct h1) ?_
  split at h2
  .rename_i hr
   rw[List.isEmpty_iff.mp hr];exact cx (hb X k N sc tp y c ct h2)
  .exact hb X k N sc tp _ c ct h2
 .cases hr
theorem se_or{a b:E}(ha:SE w a)(hb:SE w b):SE w (.or a b):=λX k N sc tp x c ct hr=>by
 replace hr:=(Xi _ _).symm.trans hr
 split at hr
 .rename_i x0 y r pos hy
  rw[Bv hy];rw[Vl]at hr;obtain⟨h1,h2⟩:=hr;refine snd_or (ha X k N sc tp x0 c ct h1) ?_
  split at h2
  .rename_i hr
   rw[List.isEmpty_iff.mp hr];exact cx (hb X k N sc tp y c ct h2)
  .exact hb X k N sc tp _ c ct h2
 .cases hr
theorem se_not{a:E}(ha:SE w a):SE w (.not a):=λX k N sc tp x c ct hr=>by
 replace hr:=(O7 _).symm.trans hr
 split at hr
 .rename_i y hy
  obtain⟨pos,rfl⟩:=Kk hy;exact Zzw (ha X k N sc tp y c ct hr)
 .cases hr
theorem ba{a b d:E}(hd:ST w d)(ha:SE w a)(hb:SE w b):SE w (.ite d a b):=λX k N sc tp x c ct hr=>by
 replace hr:=(me _ _ _).symm.trans hr
 split at hr
 .rename_i z x0 y hy
  obtain⟨pos,rfl⟩:=Zjn hy;simp only[Vl]at hr;obtain⟨⟨⟨h1,h2⟩,h3⟩,h4⟩:=hr;exact Zzk (hd X k N sc tp z c ct h1 h2).1 (ha X k N sc tp x0 c ct h3) (hb X k N sc tp y c ct h4)
 .cases hr
theorem Qt{f:Str}{es:E}(ih:SR w es):SE w (.call f es):=λX k N sc tp x c ct hr=>by
 replace hr:=(jv _ _).symm.trans hr
 split at hr
 .rename_i g xs hy
  obtain⟨p,pos,rfl⟩:=Ws hy;simp only[Vl,beq_iff_eq]at hr;obtain⟨⟨⟨rfl,h2⟩,h3⟩,h4⟩:=hr;cases xs with
  | nil=>cases h3
  | cons y ys=>exact bt c (ih X k N sc tp false _ c ct h4) h2
 .cases hr
theorem bo{i:Nat}{es:E}(ih:SR w es):SE w (.cal i es):=λX k N sc tp x c ct hr=>by
 replace hr:=(m4 _ _).symm.trans hr
 split at hr
 .rename_i g xs hy
  obtain⟨p,pos,rfl⟩:=Ws hy;simp only[Vl]at hr;obtain⟨⟨⟨h1,h2⟩,h3⟩,h4⟩:=hr;cases xs with
  | nil=>cases h2
  | cons y ys=>exact Zzg c (ih X k N sc tp false _ c ct h4) h1
 .cases hr
theorem se_tmp{a:E}(ha:SE w a):SE w (.tmp a):=λX k N sc tp x c ct hr=>Zzj (ha X k N sc tp x c ct hr)
theorem ia{a r:E}(ha:SE w a)(K3:SR w r):SR w (.cons a r):=λX k N sc tp m xs c ct hr=>by
 cases xs with
 | nil=>cases(show false=true from hr)
 | cons x xs =>
  replace hr:=(Ho _ _).symm.trans hr
  simp only[Vl]at hr;obtain⟨⟨h1,h2⟩,h3⟩:=hr;refine .cons ?_ h1 (K3 X k N sc tp m xs c ct h3)
  split at h2
  .rename_i i
   split at h2
   .rename_i y hy
    obtain⟨pos,rfl⟩:=Uc hy;intro XB s Z H Q I ⟨F,G,p,a',p',rel,e,kq⟩;unfold S9 at e;dsimp only at e
    split at e
    .rename_i hd
     cases e;unfold done at hd
     split at hd
     .rename_i t q
      obtain⟨v,h1,h2⟩:=rel.fz i t q;exact c.var ‹_› XB s Z H Q I ⟨v,h1,kq F H v (Le.refl F) (Up.refl H) rel h1⟩
     .rename_i t q
      obtain⟨a,h1,_⟩:=rel.ow i t q;exact c.var ‹_› XB s Z H Q I ⟨_,h1,kq F H _ (Le.refl F) (Up.refl H) rel h1⟩
     .cases hd
    .cases e
   .cases h2
  .rename_i n1
   by_cases hv:∃i,a=.v i
   .obtain⟨i,rfl⟩:=hv
    replace h2:=(mn _).symm.trans h2
    split at h2
    .rename_i y hy;obtain⟨pos,rfl⟩:=Uc hy;exact snd_hv c h2
    .cases h2
   .exact snd_hd (λi z=>n1 i z) (λi z=>hv ⟨i,z⟩) (ha X k N sc tp x c ct h2)
theorem Zwf{X:Cx}{e:E}{Z:L2.St}{H:Hp}{R:Bool->Hp->Prop}(h:LB X.K X.mg w e Z H R):LE X.K X.mg w e Z H λv H'=>Qy R v H':=by
 obtain⟨F,G,p,r,p',rel,e,kq⟩:=Zwg h;exact⟨F,G,p,r,p',rel,e,λF' H' v l u Yt rs=>let ⟨b,e1,h1⟩:=kq F' H' v l u Yt rs;⟨b,e1,h1⟩⟩
end
section
variable{X:Cx}{w:W}{k:Nat}{N:ZD}{sc:ZK}
theorem cm_rd(c:Ctx X w k N sc){a b:E}{cm:Cm}{Z:L2.St}{H:Hp}{Q:VK}(h:LE X.K X.mg w (.pr (.cm cm) (.cons a (.cons b .nil))) Z H Q):tOp (rO X (compareOp (Mg cm))) (LH X.K X.mg w true a) (LH X.K X.mg w true b) Z H Q:=by
 obtain⟨F,G,p,r,p',rel,e,kq⟩:=h;obtain⟨as,ts,e1,e2,e3⟩:=xm e;refine L6 e1 e2 rel λF2 H2 x y t1 t2 et l u Z0 s1 s2=>?_;subst et;obtain⟨b,e4,rfl⟩:=Yr.mp e3;exactλXB s σ' v u' I rx ry=>Tz _ I Z0.b.f c.un rx ry s1 s2 e4 (kq F2 H2 _ l u Z0 rfl)
theorem c2_rd(c:Ctx X w k N sc){a b d:E}{cm cm':Cm}{Z:L2.St}{H:Hp}{Q:VK}(h3:quiet (.c2 cm cm') (.cons a (.cons b (.cons d .nil)))=true)(h:LE X.K X.mg w (.pr (.c2 cm cm') (.cons a (.cons b (.cons d .nil)))) Z H Q) :
  Hb (rO X (compareOp (Mg cm))) (rO X (compareOp (Mg cm'))) (LH X.K X.mg w true a) (LH X.K X.mg w true b) (LH X.K X.mg w true d) Z H Q:=by
 obtain⟨F,G,p,r,p',rel,e,kq⟩:=h;obtain⟨as,ts,e1,e2,e3⟩:=xm e;obtain⟨a',p1,as1,q1,q2,rfl⟩:=Z6 e1;obtain⟨b',p2,as2,q3,q4,rfl⟩:=Z6 q2;obtain⟨c',p3,as3,q5,q6,rfl⟩:=Z6 q4;obtain⟨rfl,rfl⟩:=Vo q6;obtain⟨t1,r1,l1,l2,rfl⟩:=Za e2;obtain⟨t2,r2,l3,l4,rfl⟩:=Za l2;obtain⟨t3,r3,l5,l6,rfl⟩:=Za l4;cases l6;have ep:=Tx _ h3 q4;subst ep;obtain⟨b1,c1,e3⟩:=ZO.mp e3;refine⟨F,G,p,a',p1,rel,q1,λF1 H1 x wy u1 rl1 Dh=>⟨F1,G,p1,b',_,rl1,q3,λF2 H2 y K1 u2 O6 Wh=>?_⟩⟩;have s1:=O6.look l1 (Ar.up u2 K1 Dh);have s2:=O6.look l3 Wh;refineλXB s σ' v u' I rx ry=>Tz _ I O6.b.f c.un rx ry s1 s2 c1 ⟨b1,rfl,?_⟩;cases b1 with
 | false=>cases e3;exact kq F2 H2 _ (wy.trans K1) (u1.trans u2) O6 rfl
 | true =>
  obtain⟨b2,c2,rfl⟩:=Yr.mp e3;refine⟨F2,G,_,c',_,O6,q5,λF3 H3 z le3 u3 Xo ar3=>?_⟩;exactλXB s σ' v u' I rx ry=>Tz _ I Xo.b.f c.un rx ry (Xo.look l3 (Ar.up u3 le3 Wh)) (Xo.look l5 ar3) c2 (kq F3 H3 _ ((wy.trans K1).trans le3) ((u1.trans u2).trans u3) Xo rfl)
end
theorem o5{sc:ZK}{c:Cm}{x:Expr}{xs:ZC}(h:view sc (.cm c) x=some xs):∃a b pos,x=.Compare a [Mg c] [b] pos/\behindInMarks (Mg c) b=false/\xs=[a,b]:=by
 replace h:=gv (show vCm c x=some xs from h)
 obtain⟨a,op,b,p,rfl,h⟩:=h
 split at h
 .rename_i ho
  obtain⟨rfl,hm⟩:=ho;cases h;exact⟨_,_,_,rfl,hm,rfl⟩
 .cases h
theorem o6{sc:ZK}{c d:Cm}{x:Expr}{xs:ZC}(h:view sc (.c2 c d) x=some xs):∃a b e pos,x=.Compare a [Mg c,Mg d] [b,e] pos/\lastMarks [Mg c,Mg d] [b,e]=false/\xs=[a,b,e]:=by
 replace h:=gy (show vC2 c d x=some xs from h)
 obtain⟨a,op,Ke,b,e0,p,rfl,h⟩:=h
 split at h
 .rename_i ho
  obtain⟨rfl,rfl,hm⟩:=ho;cases h;exact⟨_,_,_,_,rfl,hm,rfl⟩
 .cases h
section
variable{w:W}
theorem st_pr{q:Pr}{es:E}(ih:SR w es):ST w (.pr q es):=λX k N sc tp x c ct hr ht=>by
 refine⟨?_,λz=>by cases z⟩;have hse:=bu (q:=q) ih X k N sc tp x c ct hr;cases q with
 | cm cm =>
  replace hr:=(Qn _ _).symm.trans hr
  split at hr
  .rename_i xs hy
   simp only[Vl]at hr;obtain⟨a,b,pos,rfl,hm,rfl⟩:=o5 hy;have hs:=ih X k N sc tp true _ c ct hr.2;cases hs with | cons ha _ t=>cases t with | cons hb _ t=>cases t with | nil =>
   exactλXB s Z H Q I h=>Zz2 opr ha hb hm XB s Z H Q I (cm_rd c (Zwf h))
  .cases hr
 | c2 cm cm' =>
  replace hr:=(Qn _ _).symm.trans hr
  split at hr
  .rename_i xs hy
   simp only[Vl]at hr;obtain⟨a,b,d,pos,rfl,hm,rfl⟩:=o6 hy;have hs:=ih X k N sc tp true _ c ct hr.2;cases hs with | cons ha _ t=>cases t with | cons hb _ t=>cases t with | cons hc _ t=>cases t with | nil =>
   exactλXB s Z H Q I h=>dn opr opr ha hb hc hm XB s Z H Q I (c2_rd c hr.1.2 (Zwf h))
  .cases hr
 | _=>exact Zj5 hse (Rt ht)
theorem st_and{a b:E}(ha:ST w a)(hb:ST w b):ST w (.and a b):=λX k N sc tp x c ct hr ht=>by
 have main:PW X x (LB X.K X.mg w (.and a b)):=by
  replace hr:=(O8 _ _).symm.trans hr
  unfold Lz at ht
  split at hr
  .rename_i x0 y r pos hy
   rw[hy]at ht;rw[Bv hy];simp only[Vl]at hr ht;obtain⟨h1,h2⟩:=hr;obtain⟨t1,t2⟩:=ht;refine i6 (ha X k N sc tp x0 c ct h1 t1).1 ?_;by_cases hr:r.isEmpty=true
   .rw[if_pos hr]at h2 t2;rw[List.isEmpty_iff.mp hr];exact pw_and1 (hb X k N sc tp y c ct h2 t2).1
   .rw[if_neg hr]at h2 t2;rw[Vl]at t2;exact(hb X k N sc tp _ c ct h2 t2.1).2 (by cases b<;>first | rfl | cases t2.2)
  .cases hr
 exact⟨main.pt,λ_=>main⟩
theorem st_or{a b:E}(ha:ST w a)(hb:ST w b):ST w (.or a b):=λX k N sc tp x c ct hr ht=>by
 have main:PW X x (LB X.K X.mg w (.or a b)):=by
  replace hr:=(Xi _ _).symm.trans hr
  unfold Lz at ht
  split at hr
  .rename_i x0 y r pos hy
   rw[hy]at ht;rw[Bv hy];simp only[Vl]at hr ht;obtain⟨h1,h2⟩:=hr;obtain⟨t1,t2⟩:=ht;refine snt_or (ha X k N sc tp x0 c ct h1 t1).1 ?_;by_cases hr:r.isEmpty=true
   .rw[if_pos hr]at h2 t2;rw[List.isEmpty_iff.mp hr];exact pw_or1 (hb X k N sc tp y c ct h2 t2).1
   .rw[if_neg hr]at h2 t2;rw[Vl]at t2;exact(hb X k N sc tp _ c ct h2 t2.1).2 (by cases b<;>first | rfl | cases t2.2)
  .cases hr
 exact⟨main.pt,λ_=>main⟩
theorem st_not{a:E}(ha:ST w a):ST w (.not a):=λX k N sc tp x c ct hr ht=>by
 refine⟨?_,λz=>by cases z⟩
 replace hr:=(O7 _).symm.trans hr
 unfold Lz at ht
 split at hr
 .rename_i y hy
  rw[hy]at ht;obtain⟨pos,rfl⟩:=Kk hy;exact i5 (ha X k N sc tp y c ct hr ht).1
 .cases hr
theorem st_tmp{a:E}(ha:ST w a):ST w (.tmp a):=λX k N sc tp x c ct hr ht=>by
 refine⟨?_,λz=>by cases z⟩;exact i4 (ha X k N sc tp x c ct hr ht).1
theorem Zj7{m:Mt}{i:Nat}{es:E}(ih:SR w es):SE w (.mt m i es):=λX k N sc tp x c ct hr=>by
 replace hr:=(Zzo _ _ _).symm.trans hr
 split at hr
 .rename_i y n xs hy
  obtain⟨p0,ap,cp,rfl,Dy⟩:=uh hy;simp only[Vl,beq_iff_eq]at hr;obtain⟨⟨⟨⟨rfl,h2⟩,h3⟩,h4⟩,h5⟩:=hr;have hs:=ih X k N sc tp false xs c ct h4;have W2:=hs.star;intro XB s Z H Q I ⟨F,G,p,r,p',rel,e,kq⟩
  replace e:=(ev_mtQ _ _ _).symm.trans e
  split at e
  .rename_i ho
   obtain⟨a,e1,e⟩:=ZO.mp e;obtain⟨ts,e2,e⟩:=ZO.mp e
   split at e
   .rename_i t et
    obtain⟨⟨t',z⟩,e3,e⟩:=Yr.mp e;cases e;have nt:=Ra es hs e1 h3
    obtain⟨b,ts0,hp⟩:∃b:Addr,∃ts0,p[i]?=some (Sl.o (.lst ts0))/\Z[i]?=some (some (V.ref b)):=by
     unfold j4 at ho
     split at ho
     .rename_i l q
      obtain⟨b,h1,_⟩:=rel.ow i _ q;exact⟨b,l,q,h1⟩
     .cases ho
    obtain⟨hp,hb⟩:=hp;obtain⟨b',k1,_,_,vs0,k4,_⟩:=rel.ow i _ hp;rw[hb]at k1;cases k1
    have fin:∀{F1 H1:Hp} {vs:ZQ},Le F F1->Up X.K H H1->Rel X.K X.mg F1 G a.2 Z H1->Zj X.K X.mg H1 F1 ts vs->rM X (mtI m) (.ref b) vs H1 Q:=λ{F1 H1 vs} l1 u1 Z1 at'=>λXB s σ' v us I rx rs=>by
     cases rx;exact mt_run I Z1 et hb rs at' e3 λF2 H2 v l2 u2=>kq F2 H2 v (l1.trans l2) (u1.trans u2)
    have lA:LA X.K X.mg w false es Z H λvs H1=>rM X (mtI m) (.ref b) vs H1 Q:=⟨F,G,p,a.1,a.2,rel,e1,λF1 H1 vs l1 u1 Z1 ar=>fin l1 u1 Z1 (By nt e2 ar)⟩;have ty:tyV X.K "list" (.ref b) H:=.inl ⟨rfl,vs0,.inl (.inl k4)⟩;have Dk:attributeBase (.Name y p0) (mtN m) X.env (eval (.Name y p0) X.env)=eval (.Name y p0) X.env:=rfl;cases xs with
    | nil =>
     cases hs;obtain⟨q1,q2⟩:=Vo e1;cases m<;>first | cases h5 | skip
     rw[q1]at e2;cases e2;rw[q2]at fin;exact pe_bm0 PySem.F.plainAttrs_list PySem.F.slot_list_pop PySem.F.type_list_pop mtr (c.var h2) Dk Dy XB s Z H Q I ⟨_,hb,ty,fin (Le.refl _) (Up.refl _) rel rfl⟩
    | cons x xr =>
     have hl:(x::xr).length<30:=by
      cases m<;>first | cases h5 | exact D9 (B0z.mp h5).2
     have st:=Yk (es:=xr) (env:=X.env) (W2 _ V4);have sa:=Vc xr X.env cp λe m=>W2 e (Uz _ m);have fw:=Pw (env:=X.env) (cpos:=cp) W2 hl;cases m with
     | append=>exact Sk PySem.F.plainAttrs_list PySem.F.slot_list_append PySem.F.type_list_append mtr (c.var h2) hs.pa Dk fw Dy st sa XB s Z H Q I ⟨_,hb,ty,lA⟩
     | extend=>exact Sk PySem.F.plainAttrs_list PySem.F.slot_list_extend PySem.F.type_list_extend mtr (c.var h2) hs.pa Dk fw Dy st sa XB s Z H Q I ⟨_,hb,ty,lA⟩
     | insert=>exact Sk PySem.F.plainAttrs_list PySem.F.slot_list_insert PySem.F.type_list_insert mtr (c.var h2) hs.pa Dk fw Dy st sa XB s Z H Q I ⟨_,hb,ty,lA⟩
     | popAt=>exact Sk PySem.F.plainAttrs_list PySem.F.slot_list_pop PySem.F.type_list_pop mtr (c.var h2) hs.pa Dk fw Dy st sa XB s Z H Q I ⟨_,hb,ty,lA⟩
     | pop=>cases h5
   .cases e
  .cases e
 .cases hr
theorem si_itr{q:Ik}{es:E}(ih:SR w es):SI w (.itr q es):=λX k N sc tp t x c ct hr=>by
 replace hr:=(jd _ _).symm.trans hr
 split at hr
 .rename_i f xs hy
  obtain⟨p,pos,rfl⟩:=Ws hy;simp only[Vl]at hr;obtain⟨⟨⟨⟨⟨h1,h2⟩,h3⟩,h4⟩,h5⟩,h6⟩:=hr;exact Zzy c (ih X k N sc tp false xs c ct h6) h5 (by simp only[Vl];exact⟨⟨h1,h2⟩,h3⟩) (D9 h4)
 .cases hr
theorem Ctx.comp{X:Cx}{k:Nat}{N ns:ZD}{sc:ZK}(c:Ctx X w k N sc){scope outer:Scope}(s1:Ha outer scope=true)(nd:ns.Nodup/\scope.names≠Ti)(fp:ZU)(s:Shared)(H:Hp):Ctx (Yq X scope ns fp s H) w k ns scope.names:=by
 refine⟨rfl,nd.1,λx kd e=>?_,c.calm,c.room,c.bn,c.fn,c.gl,rfl,λx e=>?_,λz=>absurd z nd.2⟩
 .have e2:(relabel scope X.env).names.lookup x=some (if (kd==NameKind.free&&X.env.scope.kind==.function&&X.env.kindOf x==some .cell)=true then NameKind.cell else kd):=by
   rw[Mm,V9 (f:=λn k=>if (k==NameKind.free&&X.env.scope.kind==.function&&X.env.kindOf n==some .cell)=true then NameKind.cell else k),e]
   rfl
  show (relabel scope X.env).names.lookup x=some kd\/(kd=NameKind.free/\(relabel scope X.env).names.lookup x=some NameKind.cell);rw[e2]
  split
  .rename_i h
   simp only[Vl,beq_iff_eq]at h;exact .inr ⟨h.1.1,rfl⟩
  .exact .inl rfl
 .have h1:=s1;unfold Ha at h1;simp only[Vl,decide_eq_true_eq,yq,Bool.or_eq_true]at h1;exact absurd rfl (h1.2 (x,.cell) (PySem.mem_of_lookup e)).1.1
theorem Xp{tg it cd el:E}{fr:ZG}{ns:ZD}(hit:SI w it)(Pz:ST w cd)(hel:SE w el):SE w (.comp tg it cd el fr ns):=λX k N sc tp x c ct hr=>by
 replace hr:=(L5 _ _ _ _ _ _).symm.trans hr
 split at hr
 .rename_i elt t iter ifs scope hy
  obtain⟨pos,rfl⟩:=Kb hy;simp only[Vl]at hr;obtain⟨⟨⟨⟨⟨⟨⟨⟨⟨h1,h2⟩,h3⟩,h4⟩,h5⟩,h6⟩,h7⟩,h8⟩,h9⟩,h10⟩:=hr;have nd':=D9 h5;have nd:ns.Nodup:=nd'.1;have cc:=λfp s H=>c.comp (outer:=sc) h3 nd' fp s H;refine bb c (ct h1) rfl (hit X k N sc tp t iter c ct h2) h3 h4 nd (λi m=>?_) (λfp s H=>Rg (cc fp s H) tg h8) (λfp s H=>?_) (λfp s H=>hel _ k ns scope false elt (cc fp s H) (λz=>by cases z) h10) (Dj h7)
  .unfold ik at h6;rw[yq]at h6;exact eq_of_beq (h6 i m)
  .unfold LT;by_cases hn:isNil cd=true
   .rw[if_pos hn]at h9 ⊢;rw[List.isEmpty_iff.mp h9];exact X7
   .rw[if_neg hn]at h9 ⊢
    split at h9
    .rw[Vl]at h9;exact X6 (Pz _ k ns scope false _ (cc fp s H) (λz=>by cases z) h9.1 h9.2).1
    .cases h9
 .cases hr
theorem sr_nil:SR w .nil:=λX k N sc tp m xs c ct hr=>by
 cases xs with
 | nil=>exact .nil
 | cons _ _=>cases(show false=true from hr)
theorem Gx:∀e:E,SE w e/\ST w e/\SR w e/\SI w e:=by
 intro e
 induction e with
 | v i=>exact⟨se_v i,Y6 (se_v i) (λ_=>rfl) rfl,Vu λtp N sc xs=>rfl,O4 (se_v i) λtp N sc t x=>rfl⟩
 | mv i=>exact⟨Zj6 i,Y6 (Zj6 i) (λ_=>rfl) rfl,Vu λtp N sc xs=>rfl,U4 λtp N sc t x=>rfl⟩
 | io i=>exact⟨Xh λtp N sc x=>rfl,Xt λtp N sc x=>rfl,Vu λtp N sc xs=>rfl,U4 λtp N sc t x=>rfl⟩
 | k t=>exact⟨se_k t,Y6 (se_k t) (λ_=>rfl) rfl,Vu λtp N sc xs=>rfl,U4 λtp N sc t x=>rfl⟩
 | g x=>exact⟨se_g x,Y6 (se_g x) (λ_=>rfl) rfl,Vu λtp N sc xs=>rfl,U4 λtp N sc t x=>rfl⟩
 | nil=>exact⟨Xh λtp N sc x=>rfl,Xt λtp N sc x=>rfl,sr_nil,U4 λtp N sc t x=>rfl⟩
 | cons a r ha hr=>exact⟨Xh λtp N sc x=>rfl,Xt λtp N sc x=>rfl,ia ha.1 hr.2.2.1,U4 λtp N sc t x=>rfl⟩
 | tup es ih=>exact⟨Hh ih.2.2.1,Y6 (Hh ih.2.2.1) (λ_=>rfl) rfl,Vu λtp N sc xs=>rfl,O4 (Hh ih.2.2.1) λtp N sc t x=>rfl⟩
 | lst es ih=>exact⟨Hu ih.2.2.1,Y6 (Hu ih.2.2.1) (λ_=>rfl) rfl,Vu λtp N sc xs=>rfl,O4 (Hu ih.2.2.1) λtp N sc t x=>rfl⟩
 | pr q es ih=>exact⟨bu ih.2.2.1,st_pr ih.2.2.1,Vu λtp N sc xs=>rfl,O4 (bu ih.2.2.1) λtp N sc t x=>rfl⟩
 | and a b ha hb=>exact⟨se_and ha.1 hb.1,st_and ha.2.1 hb.2.1,Vu λtp N sc xs=>rfl,U4 λtp N sc t x=>rfl⟩
 | or a b ha hb=>exact⟨se_or ha.1 hb.1,st_or ha.2.1 hb.2.1,Vu λtp N sc xs=>rfl,U4 λtp N sc t x=>rfl⟩
 | not a ha=>exact⟨se_not ha.1,st_not ha.2.1,Vu λtp N sc xs=>rfl,U4 λtp N sc t x=>rfl⟩
 | ite d a b hd ha hb=>exact⟨ba hd.2.1 ha.1 hb.1,Y6 (ba hd.2.1 ha.1 hb.1) (λ_=>rfl) rfl,Vu λtp N sc xs=>rfl,U4 λtp N sc t x=>rfl⟩
 | call f es ih=>exact⟨Qt ih.2.2.1,Y6 (Qt ih.2.2.1) (λ_=>rfl) rfl,Vu λtp N sc xs=>rfl,O4 (Qt ih.2.2.1) λtp N sc t x=>rfl⟩
 | cal i es ih=>exact⟨bo ih.2.2.1,Y6 (bo ih.2.2.1) (λ_=>rfl) rfl,Vu λtp N sc xs=>rfl,U4 λtp N sc t x=>rfl⟩
 | mt m i es ih=>exact⟨Zj7 ih.2.2.1,Y6 (Zj7 ih.2.2.1) (λ_=>rfl) rfl,Vu λtp N sc xs=>rfl,U4 λtp N sc t x=>rfl⟩
 | comp tg it cd el fr ns htg hit Pz hel=>exact⟨Xp hit.2.2.2 Pz.2.1 hel.1,Y6 (Xp hit.2.2.2 Pz.2.1 hel.1) (λ_=>rfl) rfl,Vu λtp N sc xs=>rfl,U4 λtp N sc t x=>rfl⟩
 | itr q es ih=>exact⟨Xh λtp N sc x=>rfl,Xt λtp N sc x=>rfl,Vu λtp N sc xs=>rfl,si_itr ih.2.2.1⟩
 | tmp a ha=>exact⟨se_tmp ha.1,st_tmp ha.2.1,Vu λtp N sc xs=>rfl,U4 λtp N sc t x=>rfl⟩
end
def Kp(pt:Nat->Bool)(Z σ':L2.St):Prop:=σ'.length=Z.length/\∀i,pt i=true->σ'[i]?=Z[i]?
theorem Kp.refl(pt:Nat->Bool)(Z:L2.St):Kp pt Z Z:=⟨rfl,λ_ _=>rfl⟩
theorem Kp.trans{pt:Nat->Bool}{Z σ1 σ2:L2.St}(a:Kp pt Z σ1)(b:Kp pt σ1 σ2):Kp pt Z σ2:=⟨b.1.trans a.1,λi h=>(b.2 i h).trans (a.2 i h)⟩
def Fo(K:W.Frag)(mg:ZV)(D:Ends)(F G:Hp)(p:P)(Z:L2.St)(H:Hp):Fl->Prop
 | .nx=>D.nx Z H
 | .bk=>D.bk Z H
 | .ct=>D.ct Z H
 | .rt r=>∀v,Res K mg F G p Z H r v->D.rt v H
inductive LS_I(K:PySem.W.Frag)(mg:ZV)(w:W)(pt:Nat->Bool)(s:S)(D:Ends)(Z:L2.St)(H:Hp):Prop
 | mk(F G p fl p')(Vd:Rel K mg F G p Z H)(Vm:ex w pt s p=some (fl,p'))(U0:∀F' H' σ',Le F F'->Up K H H'->Rel K mg F' G p' σ' H'->Kp pt Z σ'->Fo K mg D F' G p' σ' H' fl):LS_I K mg w pt s D Z H
def LS(K:PySem.W.Frag)(mg:ZV)(w:W)(pt:Nat->Bool)(s:S):TS:=λD Z H=>LS_I K mg w pt s D Z H
section
variable{X:Cx}{w:W}{k:Nat}{N:ZD}{sc:ZK}{pt:Nat->Bool}
theorem ed:Wo X [] (LS X.K X.mg w pt .nil):=λXB s Z H D I ⟨F,G,p,fl,p',rel,e,kq⟩=>by
 cases e;exact Zz3 XB s Z H D I (kq F H Z (Le.refl F) (Up.refl H) rel (Kp.refl pt Z))
theorem bg{a r:S}{st:Stmt}{rest:List Stmt}(ha:PS X st (LS X.K X.mg w pt a))(hr:Wo X rest (LS X.K X.mg w pt r)):Wo X (st::rest) (LS X.K X.mg w pt (.seq a r)):=λXB s Z H D I ⟨F,G,p,fl,p',rel,e,kq⟩=>by
 replace e:=(Zq1 _ _).symm.trans e
 obtain⟨⟨f,q⟩,e1,e2⟩:=ZO.mp e;refine dh ha hr XB s Z H D I ⟨F,G,p,f,q,rel,e1,λF1 H1 σ1 l1 u1 Z1 k1=>?_⟩;cases f with
 | nx=>exact⟨F1,G,q,fl,p',Z1,e2,λF2 H2 σ2 l2 u2 Z0 k2=>kq F2 H2 σ2 (l1.trans l2) (u1.trans u2) Z0 (k1.trans k2)⟩
 | rt t=>cases e2;exact kq F1 H1 σ1 l1 u1 Z1 k1
 | bk=>cases e2;exact kq F1 H1 σ1 l1 u1 Z1 k1
 | ct=>cases e2;exact kq F1 H1 σ1 l1 u1 Z1 k1
theorem i8{a:E}{x:Expr}{pos:Pos}(h:PE X x (LE X.K X.mg w a)):PS X (.Return (some x) pos) (LS X.K X.mg w pt (.ret a)):=λXB s Z H D I ⟨F,G,p,fl,p',rel,e,kq⟩=>by
 replace e:=(Zq2 _).symm.trans e
 obtain⟨⟨r,q⟩,e1,e2⟩:=Yr.mp e;cases e2;exact Aj h XB s Z H D I ⟨F,G,p,r,q,rel,e1,λF1 H1 v l1 u1 Z1 rs=>kq F1 H1 Z l1 u1 Z1 (Kp.refl pt Z) v rs⟩
theorem bz{pos:Pos}:PS X (.Return none pos) (LS X.K X.mg w pt (.ret (.k .non))):=λXB s Z H D I ⟨F,G,p,fl,p',rel,e,kq⟩=>by
 cases e;exact Zz4 XB s Z H D I (kq F H Z (Le.refl F) (Up.refl H) rel (Kp.refl pt Z) .non rfl)
noncomputable def D4:Expr->Bool
 | .ListComp _ _ _ _=>false
 | .SetComp _ _ _ _=>false
 | .DictComp _ _ _ _ _=>false
 | _=>true
theorem Xd{x:Expr}{t:Option Expr}{ln:Nat}{env:Env}(h:D4 x=true):swapsWith x t ln env=pure false:=by
 cases x<;>first | rfl | cases h
def notName:Expr->Bool
 | .Name _ _=>false
 | _=>true
theorem Qk{x t:Expr}{ln:Nat}{env:Env}(h:notName t=true):swapsWith x (some t) ln env=pure false:=by
 cases x<;>first | rfl | (cases t<;>first | rfl | cases h)
theorem sns_ex{a:E}{x:Expr}{pos:Pos}(h:PE X x (LE X.K X.mg w a))(hc:D4 x=true):PS X (.Expr x pos) (LS X.K X.mg w pt (.ex a)):=λXB s Z H D I ⟨F,G,p,fl,p',rel,e,kq⟩=>by
 replace e:=(ex_exQ _).symm.trans e
 obtain⟨⟨r,q⟩,e1,e2⟩:=Yr.mp e;cases e2;exact Zz6 h (Xd hc) XB s Z H D I ⟨F,G,p,r,q,rel,e1,λF1 H1 v l1 u1 Z1 rs=>kq F1 H1 Z l1 u1 Z1 (Kp.refl pt Z)⟩
theorem kp_set{i:Nat}{Z:L2.St}{v:Option V}(h:¬ pt i=true):Kp pt Z (Z.set i v):=⟨XY ..,λj hj=>List.getElem?_set_ne λz=>h (by rw[z];exact hj)⟩
theorem bp{i:Nat}{a:E}{Z:L2.St}{H:Hp}{D:Ends}(hi:i<Z.length)(h:LS X.K X.mg w pt (.set i a) D Z H):LE X.K X.mg w a Z H λv H1=>D.nx (Z.set i (some v)) H1:=by
 obtain⟨F,G,p,fl,p',rel,e,kq⟩:=h
 replace e:=(Zq0 _ _).symm.trans e
 split at e
 .cases e
 .rename_i hp
  obtain⟨⟨r,q⟩,e1,e2⟩:=Yr.mp e;cases e2;exact⟨F,G,p,r,q,rel,e1,λF1 H1 v l1 u1 Z1 rs=>kq F1 H1 _ l1 u1 (Z1.bind hi rs) (kp_set hp)⟩
theorem Xn(c:Ctx X w k N sc){i:Nat}{a:E}{x:Expr}{y:Str}{pos pos':Pos}(hr:(N[i]? == some y&&locs sc y)=true)(h:PE X x (LE X.K X.mg w a))(hc:swapsWith x (some (.Name y pos')) pos.line X.env=pure false):PS X (.Assign [.Name y pos'] x pos) (LS X.K X.mg w pt (.set i a)):=λXB s Z H D I hs=>by
 rw[Vl,beq_iff_eq]at hr;obtain⟨l1,l2⟩:=c.loc hr.2;have hi:X.N[i]?=some y:=by rw[c.nN];exact hr.1
 exact ps_set (by rw[c.nN];exact c.nd) hi l1 h hc l2 XB s Z H D I (bp (by rw[I.len];exact(W8.mp hi).1) hs)
theorem i7(c:Ctx X w k N sc){tg a:E}{x t:Expr}{pos:Pos}(hg:Br N sc tg t=true)(ht:isTup t=true)(h:PE X x (LE X.K X.mg w a))(hx:isTup x=false):PS X (.Assign [t] x pos) (LS X.K X.mg w pt (.unp tg a)):=λXB s Z H D I ⟨F,G,p,fl,p',rel,e,kq⟩=>by
 replace e:=(Zqe _ _).symm.trans e
 split at e
 .rename_i hp
  obtain⟨⟨u,q⟩,e1,e⟩:=ZO.mp e;obtain⟨q2,e2,e3⟩:=Yr.mp e;cases e3;obtain⟨r,e4,e5⟩:=Rv e1;obtain⟨ts,j,ps,rfl⟩:=gc ht
  have tn:∀(tg:E) (i:Nat),Ur pt tg=true->i∈Bt tg->pt i=false:=λtg=>by
   induction tg with
   | v i=>intro j h m;cases F8.mp m;simpa [Ur] using h
   | tup es ih=>intro j h m;exact ih j h m
   | cons a r ha hr=>intro j h m;simp only[Ur,Vl]at h;rcases yk.mp m with m | m;exact ha j h.1 m;exact hr j h.2 m
   | _=>intro j h m;exact absurd m U2
  refine de h (Rg c tg hg) (show swapsWith x (some (.Tuple ts j ps)) pos.line X.env=pure false from Qk rfl) ?_ rfl XB s Z H D I ⟨F,G,p,r,q,rel,e4,λF1 H1 v l1 u1 Z1 rs=>?_⟩
  .unfold swappedStores;cases x<;>first | rfl | cases hx
  obtain⟨F2,l2,Z0,hv⟩:=Z1.thaw e5 rs;exact⟨F2,G,q,u,_,Z0,hv,e2,λσ' Yt k' n'=>kq F2 H1 σ' (l1.trans l2) u1 Yt ⟨n',λi hi=>k' i λm=>by rw[tn tg i hp m]at hi;cases hi⟩⟩
 .cases e
theorem ee{c:E}{a b:S}{z:Expr}{x y:List Stmt}{pos:Pos}(hc:PT X z (LB X.K X.mg w c))(ha:Wo X x (LS X.K X.mg w pt a))(hb:Wo X y (LS X.K X.mg w pt b)):PS X (.If z x y pos) (LS X.K X.mg w pt (.ite c a b)):=λXB s Z H D I ⟨F,G,p,fl,p',rel,e,kq⟩=>by
 replace e:=(Zq4 _ _ _).symm.trans e
 obtain⟨⟨d,q⟩,e1,e2⟩:=ZO.mp e;refine ps_if hc ha hb XB s Z H D I ⟨F,G,p,d,q,rel,e1,λF1 H1 l1 u1 Z1=>?_⟩;cases d with
 | true=>exact Zqt (B:=LS X.K X.mg w pt b D Z H1) ⟨F1,G,q,fl,p',Z1,e2,λF2 H2 σ2 l2 u2=>kq F2 H2 σ2 (l1.trans l2) (u1.trans u2)⟩
 | false=>exact iteF (A:=LS X.K X.mg w pt a D Z H1) ⟨F1,G,q,fl,p',Z1,e2,λF2 H2 σ2 l2 u2=>kq F2 H2 σ2 (l1.trans l2) (u1.trans u2)⟩
theorem bx{pos:Pos}:PS X (.Pass pos) (LS X.K X.mg w pt .pass):=λXB s Z H D I ⟨F,G,p,fl,p',rel,e,kq⟩=>by
 cases e;exact Zz5 XB s Z H D I (kq F H Z (Le.refl F) (Up.refl H) rel (Kp.refl pt Z))
theorem Zzz{pos:Pos}:PS X (.Break pos) (LS X.K X.mg w pt .brk):=λXB s Z H D I ⟨F,G,p,fl,p',rel,e,kq⟩=>by
 cases e;exact di XB s Z H D I (kq F H Z (Le.refl F) (Up.refl H) rel (Kp.refl pt Z))
theorem bw{pos:Pos}:PS X (.Continue pos) (LS X.K X.mg w pt .cont):=λXB s Z H D I ⟨F,G,p,fl,p',rel,e,kq⟩=>by
 cases e;exact Sq XB s Z H D I (kq F H Z (Le.refl F) (Up.refl H) rel (Kp.refl pt Z))
end
theorem Ib{o kx:Expr}{pos:Pos}{env:Env}(h:Ua kx=true):∀v,assign (.Subscript o kx pos) env v=(do
   let ov <-holding [v] (eval o env)
   let iv <-holding [v,ov] (eval kx env)
   standAt pos
   holding [v,ov,iv] (setItem ov iv v)
   release [v,ov,iv] []):=by
 intro v;cases kx<;>first | rfl | cases h
section
variable{X:Cx}{w:W}{k:Nat}{N:ZD}{sc:ZK}{pt:Nat->Bool}
theorem i9(c:Ctx X w k N sc){i:Nat}{kk a:E}{x kx:Expr}{y:Str}{pos pos' Jp:Pos}(hr:U1 N sc i y=true)(h:PE X x (LE X.K X.mg w a))(hk:PE X kx (LE X.K X.mg w kk))(hn:Ua kx=true) :
  PS X (.Assign [.Subscript (.Name y pos') kx Jp] x pos) (LS X.K X.mg w pt (.put i kk a)):=λXB s Z H D I ⟨F,G,p,fl,p',rel,e,kq⟩=>by
 replace e:=(Zq3 _ _ _).symm.trans e
 obtain⟨⟨t,q⟩,e1,e⟩:=ZO.mp e;dsimp only at e
 split at e
 .rename_i hd
  obtain⟨⟨kt,q2⟩,e2,e⟩:=ZO.mp e;dsimp only at e
  split at e
  .rename_i z ez
   obtain⟨z',e3,e⟩:=Yr.mp e;cases e;obtain⟨r,e4,e5⟩:=Rv e1;obtain⟨r2,e6,e7⟩:=Rv e2
   have slot:∀{F1 H1:Hp},Rel X.K X.mg F1 G q Z H1->∃v,Z[i]?=some (some v):=λ{F1 H1} Z1=>by
    unfold done at hd
    split at hd
    .rename_i u eu;obtain⟨v,h1,_⟩:=Z1.fz i u eu;exact⟨v,h1⟩
    .rename_i u eu;obtain⟨v,h1,_⟩:=Z1.ow i u eu;exact⟨_,h1⟩
    .cases hd
   unfold putAt at e3
   split at e3
   .obtain⟨j,e8,rfl⟩:=Yr.mp e3;refine de h (pg_sub (c.var hr) hk set_list (Ib hn)) (show swapsWith x (some (.Subscript (.Name y pos') kx Jp)) pos.line X.env=pure false from Qk rfl) ?_ rfl XB s Z H D I ⟨F,G,p,r,q,rel,e4,λF1 H1 v l1 u1 Z1 rs=>?_⟩
    .unfold swappedStores;cases x<;>rfl
    obtain⟨F2,l2,Z0,hv⟩:=Z1.thaw e5 rs;obtain⟨v1,hv1⟩:=slot Z0;refine⟨v1,hv1,F2,G,q,r2,q2,Z0,e6,λF3 H3 vk l3 u3 Bs rs2=>?_⟩;obtain⟨F4,l4,jc,hvk⟩:=Bs.thaw e7 rs2;obtain⟨b,g1,g2,g3,ys,g4,g5,g6⟩:=jc.ow i _ ez;rw[hv1]at g1;cases g1;cases(show vk=_ from hvk);have hv4:=IsT.up u3 (l3.trans l4) _ _ hv;have u5:Up X.K H3 (upd H3 b (.lst (ys.set j v))):=Hw g4;obtain⟨u6,rel6⟩:=jc.mut (o:=.lst (ys.set j v)) (t':=.lst (_root_.List.set _ j t)) ez hv1 ⟨_,Zq,by rw[XY];exact g5,Zj.up u5 (Le.refl _) _ _ (g6.set j hv4)⟩;exact⟨b,ys,_,j,rfl,rfl,g4,by rw[<-g6.length];exact e8,kq F4 _ Z ((l1.trans l2).trans (l3.trans l4)) (u1.trans (u3.trans u6)) rel6 (Kp.refl pt Z)⟩
   .obtain⟨kv,e8,e9⟩:=ZO.mp e3
    split at e9
    .rename_i hz
     cases e9;have hu:X.A.units+1<cLine:=by have:=c.un;omega
     refine Zz7 hu (c.var hr) hk h (Qk rfl) XB s Z H D I ⟨F,G,p,r,q,rel,e4,λF1 H1 v l1 u1 Z1 rs=>?_⟩;obtain⟨F2,l2,Z0,hv⟩:=Z1.thaw e5 rs;obtain⟨v1,hv1⟩:=slot Z0;refine⟨v1,hv1,F2,G,q,r2,q2,Z0,e6,λF3 H3 vk l3 u3 Bs rs2=>?_⟩;obtain⟨F4,l4,jc,hvk⟩:=Bs.thaw e7 rs2;obtain⟨b,g1,g2,g3,ks,g4,g5,g6⟩:=jc.ow i _ ez;rw[hv1]at g1;cases g1;cases Nh (K:=X.K) (mg:=X.mg) (H:=H3) (F:=F4) e8 (Hr jc.b hvk);have hv4:=IsT.up u3 (l3.trans l4) _ _ hv;have own:W6 X.K X.mg H3 F4 b (.dct _):=⟨ks,g4,g5,g6⟩;have u5:Up X.K H3 (upd H3 b (.dK (putK ks kv v))):=Hv own;have lk:=g6.length;have pl:=V3 ks kv v;obtain⟨u6,rel6⟩:=jc.mut (o:=.dK (putK ks kv v)) (t':=.dct (Y9 _ kv t)) ez hv1 ⟨_,Zq,by omega,Zu.up u5 (Le.refl _) _ _ (Zu.put hv4 g6)⟩;exact⟨b,_,rfl,I0.k g4 XS,kq F4 _ Z ((l1.trans l2).trans (l3.trans l4)) (u1.trans (u3.trans u6)) rel6 (Kp.refl pt Z)⟩
    .cases e9
   .cases e3
  .cases e
 .cases e
end
theorem tn_of{pt:Nat->Bool}:∀(tg:E) (i:Nat),Ur pt tg=true->i∈Bt tg->pt i=false:=λtg=>by
 induction tg with
 | v i=>intro j h m;cases F8.mp m;simpa [Ur] using h
 | tup es ih=>intro j h m;exact ih j h m
 | cons a r ha hr=>intro j h m;simp only[Ur,Vl]at h;rcases yk.mp m with m | m;exact ha j h.1 m;exact hr j h.2 m
 | _=>intro j h m;exact absurd m U2
section
variable{X:Cx}{w:W}{k:Nat}{N:ZD}{sc:ZK}{pt:Nat->Bool}
theorem Frz.fo{F F' G H H' F2 H2:Hp}{p2:P}{σ2:L2.St}{D:Ends}{fl:Fl}(z:Frz X F H F' H')(l:Le F' F2)(r:Rel X.K X.mg F2 G p2 σ2 H2)(kq:∀F3 H3,Le F F3->Up X.K H2 H3->Rel X.K X.mg F3 G p2 σ2 H3->Fo X.K X.mg D F3 G p2 σ2 H3 fl):Fo X.K X.mg (lh X D) F2 G p2 σ2 H2 fl:=by
 obtain⟨F3,H3,l3,r3,ml,u3,lr,n1,n2⟩:=z.back l r;have h:=kq F3 H3 l3 u3 r3;cases fl with
 | nx=>exact⟨H3,ml,h⟩
 | bk=>exact⟨H3,ml,h⟩
 | ct=>exact⟨H3,ml,h⟩
 | rt rr =>
  intro v rs;refine⟨H3,ml,h v ?_⟩;cases rr with
  | no=>exact rs
  | f t=>exact IsT.upR u3 lr t v rs
  | o t =>
   obtain⟨a,rfl,g1,g2,g3,g4⟩:=rs;refine⟨a,rfl,n1 a g1,g2,?_,g4⟩;cases t with
   | lst ts=>obtain⟨vs,k1,k2,k3⟩:=g3;exact⟨vs,(n2 a g1).trans k1,k2,Zj.upR u3 lr _ _ k3⟩
   | dct ts=>obtain⟨vs,k1,k2,k3⟩:=g3;exact⟨vs,(n2 a g1).trans k1,k2,Zu.upR u3 lr _ _ k3⟩
   | _=>exact g3.elim
theorem bj(c:Ctx X w k N sc){tg it:E}{b:S}{t iter:Expr}{body:List Stmt}{pos:Pos}(hi:PI X t iter (LI X w it))(hg:Br N sc tg t=true)(hb:Wo X body (LS X.K X.mg w pt b))(hs:Ba iter=true):PS X (.For t iter body [] pos) (LS X.K X.mg w pt (.loop tg it b)):=λXB s Z H D I ⟨F,G,p,fl,p',rel,e,kq⟩=>by
 replace e:=(pk _ _ _).symm.trans e
 split at e
 .rename_i hp
  obtain⟨⟨xs,p1⟩,e1,e2⟩:=ZO.mp e;dsimp only at e2;refine PS.mel (ps_for (by rw[c.xe];exact PassesOwn.never) c.calm hi (Rg c tg hg) hb (Dj hs)) XB s Z H D I ⟨F,G,p,xs,p1,rel,e1,λF1 H1 F' H' J l u Z1 fz zl walk=>?_⟩;obtain⟨Yt,u',lr⟩:=fz.rel Z1
  let Wt:Nat->Nat->L2.St->Hp->Prop:=λi m σ2 H2=>m=xs.length-i/\i<=xs.length/\∃F2 q,Le F' F2/\Up X.K H' H2/\Rel X.K X.mg F2 G q σ2 H2/\Kp pt Z σ2/\To (λx s=>(asg tg x s).bind λs1=>ex w pt b s1) (xs.drop i) q=some (fl,p')
  refine⟨Wt,⟨xs.length,rfl,Io _,F',p1,Le.refl _,Up.refl _,Yt,Kp.refl pt Z,e2⟩,?_⟩;rintro i m σ2 H2 ⟨rfl,hi',F2,q,l2,u2,r2,kp,e3⟩;obtain⟨wk1,wk2⟩:=walk i F2 H2 l2 u2 r2.b.f;by_cases xk:i<xs.length
  .have et:xs[i]?=some xs[i]:=Tc xk;rw[List.drop_eq_getElem_cons xk]at e3;unfold To at e3;obtain⟨⟨f,q1⟩,e4,e5⟩:=ZO.mp e3;obtain⟨s3,e6,e7⟩:=ZO.mp (show (asg tg xs[i] q).bind _=some (f,q1) from e4);obtain⟨g1,g2⟩:=wk1 _ et;refine .inr ⟨g1,λσ' H'=>Wt (i+1) (xs.length-(i+1)) σ' H',λσ' H' h=>⟨_,by omega,h⟩,λx H3 yd=>?_⟩;obtain⟨sm,ix⟩:=g2 x H3 yd;refine⟨F2,G,q,xs[i],s3,r2.same sm,ix,e6,λσ3 r3 k3 n3=>?_⟩;have kp3:Kp pt σ2 σ3:=⟨n3,λj hj=>k3 j λm=>by rw[tn_of tg j hp m]at hj;cases hj⟩;refine⟨F2,G,s3,f,q1,r3,e7,λF4 H4 σ4 l4 u4 r4 k4=>?_⟩;have kk:=kp.trans (kp3.trans k4);have uu:=u2.trans (sm.up.trans u4)
   have out:∀{fl':Fl},fl=fl'->q1=p'->Fo X.K X.mg (lh X D) F4 G q1 σ4 H4 fl':=λ{fl'} ef ep=>by
    subst ef ep;exact fz.fo (l2.trans l4) r4 λF5 H5 l5 u5 r5=>kq F5 H5 σ4 (l.trans l5) (u.trans (u'.trans (uu.trans u5))) r5 kk
   cases f with
   | nx=>exact⟨rfl,xk,F4,q1,l2.trans l4,uu,r4,kk,e5⟩
   | ct=>exact⟨rfl,xk,F4,q1,l2.trans l4,uu,r4,kk,e5⟩
   | bk=>cases e5;exact out rfl rfl
   | rt r=>cases e5;exact out rfl rfl
  .have ei:i=xs.length:=XS
   subst ei;rw[List.drop_length]at e3;cases e3;exact .inl ⟨wk2 rfl,fz.fo (fl:=.nx) l2 r2 λF5 H5 l5 u5 r5=>kq F5 H5 σ2 (l.trans l5) (u.trans (u'.trans (u2.trans u5))) r5 kp⟩
 .cases e
theorem snt_io(c:Ctx X w k N sc){i:Nat}{y:Str}{pos:Pos}(h:U1 N sc i y=true):PT X (.Name y pos) (LB X.K X.mg w (.io i)):=by
 intro XB s Z H Q I ⟨F,G,p,b,p',rel,e,kq⟩;unfold G2 at e;obtain⟨r,e0,e9⟩:=ZO.mp e;obtain⟨b',e1,rfl⟩:=Yr.mp (show (l7 p i).map _=some r from e0);cases e9;unfold l7 at e1
 split at e1
 .rename_i ts q
  cases e1;obtain⟨a,h1,h2,h3,vs,h4,h5,h6⟩:=rel.ow i _ q;refine dc (c.var h) (λ_=>rfl) XB s Z H Q I ⟨.ref a,h1,_,.inl ⟨vs,Uq.of h4,rfl⟩,?_⟩;rw[<-Pa h6.length];exact kq F H (Le.refl F) (Up.refl H) rel
 .cases e1
theorem sns_wh(c:Ctx X w k N sc){cd:E}{b:S}{z:Expr}{body:List Stmt}{pos:Pos}(hc:PT X z (LB X.K X.mg w cd))(hb:Wo X body (LS X.K X.mg w pt b)):PS X (.While z body [] pos) (LS X.K X.mg w pt (.wh cd b)):=λXB s Z H D I ⟨F,G,p,fl,p',rel,e,kq⟩=>by
 replace e:=(ex_whQ _ _).symm.trans e
 refine du (by rw[c.xe];exact PassesOwn.never) hc hb XB s Z H D I ?_
 let Wt:Nat->L2.St->Hp->Prop:=λm σ2 H2=>∃F2 q,Le F F2/\Up X.K H H2/\Rel X.K X.mg F2 G q σ2 H2/\Kp pt Z σ2/\Ta (λs=>G2 (ev w cd s)) (λs=>ex w pt b s) m q=some (fl,p')
 refine⟨Wt,⟨1000000,F,p,Le.refl _,Up.refl _,rel,Kp.refl pt Z,e⟩,?_⟩;rintro m σ2 H2 ⟨F2,q,l2,u2,r2,kp,e3⟩;cases m with
 | zero=>cases e3
 | succ m =>
  unfold Ta at e3;obtain⟨⟨d,q1⟩,e4,e5⟩:=ZO.mp e3;refine⟨F2,G,q,d,q1,r2,e4,λF3 H3 l3 u3 r3=>?_⟩;cases d with
  | false =>
   cases e5;exact iteF (kq F3 H3 σ2 (l2.trans l3) (u2.trans u3) r3 kp)
  | true =>
   obtain⟨⟨f,q2⟩,e6,e7⟩:=ZO.mp (show (ex w pt b q1).bind _=some (fl,p') from e5);refine Zqt (B:=D.nx σ2 H3) ⟨λσ' H'=>Wt m σ' H',λσ' H' h=>⟨m,Nat.lt_succ_self m,h⟩,F3,G,q1,f,q2,r3,e6,λF4 H4 σ4 l4 u4 r4 k4=>?_⟩;have kk:=kp.trans k4;have uu:=u2.trans (u3.trans u4);have ll:=l2.trans (l3.trans l4);cases f with
   | nx=>exact⟨F4,q2,ll,uu,r4,kk,e7⟩
   | ct=>exact⟨F4,q2,ll,uu,r4,kk,e7⟩
   | bk=>cases e7;exact kq F4 H4 σ4 ll uu r4 kk
   | rt r=>cases e7;exact kq F4 H4 σ4 ll uu r4 kk
end
def z6:E->Bool
 | .comp _ _ _ _ _ _=>true
 | _=>false
inductive ShS where
 | ret(x:Option Expr) | ex(x:Expr) | asg(t x:Expr) | ite(z:Expr)(a b:List Stmt) | loop(t it:Expr)(b:List Stmt) | wh(z:Expr)(b:List Stmt) | pass | brk | cont | non
noncomputable def shA:ZC->Expr->ShS
 | [],_=>.non
 | t::r,x=>match r with
  | []=>.asg t x
  | _::_=>.non
def shL(t it:Expr)(b:List Stmt):List Stmt->ShS
 | []=>.loop t it b
 | _::_=>.non
def shW(z:Expr)(b:List Stmt):List Stmt->ShS
 | []=>.wh z b
 | _::_=>.non
noncomputable def Ce:Stmt->ShS
 | .Return x _=>.ret x
 | .Expr x _=>.ex x
 | .Assign ts x _=>shA ts x
 | .If z a b _=>.ite z a b
 | .For t it b e _=>shL t it b e
 | .While z b e _=>shW z b e
 | .Pass _=>.pass
 | .Break _=>.brk
 | .Continue _=>.cont
 | _=>.non
def ShSI:ShS->Stmt->Prop
 | .ret x,s=>∃p,s=.Return x p
 | .ex x,s=>∃p,s=.Expr x p
 | .asg t x,s=>∃p,s=.Assign [t] x p
 | .ite z a b,s=>∃p,s=.If z a b p
 | .loop t it b,s=>∃p,s=.For t it b [] p
 | .wh z b,s=>∃p,s=.While z b [] p
 | .pass,s=>∃p,s=.Pass p
 | .brk,s=>∃p,s=.Break p
 | .cont,s=>∃p,s=.Continue p
 | .non,_=>True
theorem Zzt(s:Stmt):ShSI (Ce s) s:=by
 cases s
 case Assign ts x p=>cases ts with
  | nil=>trivial
  | cons t r=>cases r with
   | nil=>exact⟨_,rfl⟩
   | cons _ _=>trivial
 case For t it b e p=>cases e with
  | nil=>exact⟨_,rfl⟩
  | cons _ _=>trivial
 case While z b e p=>cases e with
  | nil=>exact⟨_,rfl⟩
  | cons _ _=>trivial
 all_goals first | exact⟨_,rfl⟩ | exact True.intro
theorem Uh{s:Stmt}{h:ShS}(e:Ce s=h):ShSI h s:=e ▸ Zzt s
def Au:E->Bool
 | .k t=>match t with
  | .non=>true
  | _=>false
 | _=>false
theorem wt{a:E}(h:Au a=true):a=.k .non:=by
 cases a with
 | k t=>cases t with
  | non=>rfl
  | _=>cases h
 | _=>cases h
noncomputable def ly(t:Expr):Option Str:=match Tr t with
 | .name y=>some y
 | _=>none
theorem zd{t:Expr}{y:Str}(h:ly t=some y):∃p,t=.Name y p:=by
 unfold ly at h
 split at h
 .rename_i e
  cases h;exact Yx e
 .cases h
noncomputable def Zzl(t:Expr):Option (Str×Expr):=match Tr t with
 | .sub o k=>(ly o).map (·,k)
 | _=>none
theorem Zzn{t k:Expr}{y:Str}(h:Zzl t=some (y,k)):∃q p,t=.Subscript (.Name y q) k p:=by
 unfold Zzl at h
 split at h
 .rename_i e
  obtain⟨p,rfl⟩:=Yx e;obtain⟨z,e1,e2⟩:=Yr.mp h;cases e2;obtain⟨q,rfl⟩:=zd e1;exact⟨q,p,rfl⟩
 .cases h
noncomputable def repW(N:ZD)(sc:Scope):E->Expr->Bool
 | .io i,z=>(match asName z with
  | some y=>U1 N sc.names i y
  | none=>false)
 | c,z=>rep true N sc c z&&Lz c z
mutual
noncomputable def repS(N:ZD)(sc:Scope):S->Stmt->Bool
 | .ret a,st=>match Ce st with
  | .ret x=>(match x with
   | some x=>rep true N sc a x
   | none=>Au a)
  | _=>false
 | .ex a,st=>match Ce st with
  | .ex x=>rep true N sc a x&&D4 x
  | _=>false
 | .set i a,st=>match Ce st with
  | .asg t x=>(match ly t with
   | some y=>N[i]? == some y&&locs sc.names y&&rep true N sc a x&&(D4 x || z6 a)
   | none=>false)
  | _=>false
 | .unp tg a,st=>match Ce st with
  | .asg t x=>Br N sc.names tg t&&isTup t&&rep true N sc a x && !isTup x
  | _=>false
 | .put i k a,st=>match Ce st with
  | .asg t x=>(match Zzl t with
   | some q=>U1 N sc.names i q.1&&rep true N sc a x&&rep true N sc k q.2&&Ua q.2
   | none=>false)
  | _=>false
 | .ite c a b,st=>match Ce st with
  | .ite z x y=>rep true N sc c z&&Lz c z&&G3 N sc a x&&G3 N sc b y
  | _=>false
 | .loop tg it b,st=>match Ce st with
  | .loop t iter body=>Ql true N sc t it iter&&Br N sc.names tg t&&G3 N sc b body&&Ba iter
  | _=>false
 | .wh c b,st=>match Ce st with
  | .wh z body=>repW N sc c z&&G3 N sc b body
  | _=>false
 | .pass,st=>match Ce st with
  | .pass=>true
  | _=>false
 | .brk,st=>match Ce st with
  | .brk=>true
  | _=>false
 | .cont,st=>match Ce st with
  | .cont=>true
  | _=>false
 | _,_=>false
noncomputable def G3(N:ZD)(sc:Scope):S->List Stmt->Bool
 | .nil,[]=>true
 | .seq a r,st::rest=>repS N sc a st&&G3 N sc r rest
 | _,_=>false
end
theorem jg{N:ZD}{sc:Scope}{st:Stmt}:∀a,repS N sc (.ret a) st=(match Ce st with
  | .ret x=>(match x with
   | some x=>rep true N sc a x
   | none=>Au a)
  | _=>false):=λ_=>rfl
theorem m6{N:ZD}{sc:Scope}{st:Stmt}:∀a,repS N sc (.ex a) st=(match Ce st with
  | .ex x=>rep true N sc a x&&D4 x
  | _=>false):=λ_=>rfl
theorem jk{N:ZD}{sc:Scope}{st:Stmt}:∀i a,repS N sc (.set i a) st=(match Ce st with
  | .asg t x=>(match ly t with
   | some y=>N[i]? == some y&&locs sc.names y&&rep true N sc a x&&(D4 x || z6 a)
   | none=>false)
  | _=>false):=λ_ _=>rfl
theorem jy{N:ZD}{sc:Scope}{st:Stmt}:∀tg a,repS N sc (.unp tg a) st=(match Ce st with
  | .asg t x=>Br N sc.names tg t&&isTup t&&rep true N sc a x && !isTup x
  | _=>false):=λ_ _=>rfl
theorem jf{N:ZD}{sc:Scope}{st:Stmt}:∀i k a,repS N sc (.put i k a) st=(match Ce st with
  | .asg t x=>(match Zzl t with
   | some q=>U1 N sc.names i q.1&&rep true N sc a x&&rep true N sc k q.2&&Ua q.2
   | none=>false)
  | _=>false):=λ_ _ _=>rfl
theorem jb{N:ZD}{sc:Scope}{st:Stmt}:∀c a b,repS N sc (.ite c a b) st=(match Ce st with
  | .ite z x y=>rep true N sc c z&&Lz c z&&G3 N sc a x&&G3 N sc b y
  | _=>false):=λ_ _ _=>rfl
theorem He{N:ZD}{sc:Scope}{st:Stmt}:∀tg it b,repS N sc (.loop tg it b) st=(match Ce st with
  | .loop t iter body=>Ql true N sc t it iter&&Br N sc.names tg t&&G3 N sc b body&&Ba iter
  | _=>false):=λ_ _ _=>rfl
theorem m5{N:ZD}{sc:Scope}{st:Stmt}:∀c b,repS N sc (.wh c b) st=(match Ce st with
  | .wh z body=>repW N sc c z&&G3 N sc b body
  | _=>false):=λ_ _=>rfl
theorem Hi{N:ZD}{sc:Scope}{st:Stmt}:repS N sc (.pass ) st=(match Ce st with
  | .pass=>true
  | _=>false):=rfl
theorem jm{N:ZD}{sc:Scope}{st:Stmt}:repS N sc (.brk ) st=(match Ce st with
  | .brk=>true
  | _=>false):=rfl
theorem H0{N:ZD}{sc:Scope}{st:Stmt}:repS N sc (.cont ) st=(match Ce st with
  | .cont=>true
  | _=>false):=rfl
theorem jt{N:ZD}{sc:Scope}{st:Stmt}{rest:List Stmt}:∀a r,G3 N sc (.seq a r) (st::rest)=(repS N sc a st&&G3 N sc r rest):=λ_ _=>rfl
section
variable{X:Cx}{w:W}{k:Nat}{N:ZD}{sc:Scope}{pt:Nat->Bool}
theorem qr{elt:Expr}{gs:List Comprehension}{scope:Scope}{pos p:Pos}{t:Str}{ln:Nat}{env:Env}:swapsWith (.ListComp elt gs scope pos) (some (.Name t p)) ln env=pure (env.blockKind==.function&&env.kindOf t==some .local&&p.line==pos.line && !(scope.names.any λ(n,k)=>n==t&&(k==.local || k==.cell))):=rfl
theorem fe(c:Ctx X w k N sc.names)(ct:X.env.scope.names=sc.names){i:Nat}{tg it cd el:E}{fr:ZG}{ns:ZD}{x:Expr}{y:Str}{pos pos':Pos}(hr:(N[i]? == some y&&locs sc.names y)=true)(hx:rep true N sc (.comp tg it cd el fr ns) x=true):PS X (.Assign [.Name y pos'] x pos) (LS X.K X.mg w pt (.set i (.comp tg it cd el fr ns))):=by
 have hse:=(Gx (w:=w) (.comp tg it cd el fr ns)).1 X k N sc true x c (λ_=>ct) hx
 have hsw:swapsWith x (some (.Name y pos')) pos.line X.env=pure false\/swapsWith x (some (.Name y pos')) pos.line X.env=pure true:=by
  cases x<;>first | exact .inl rfl | skip
  all_goals (first | (rw[qr];rename_i sc' pp;cases(X.env.blockKind==.function&&X.env.kindOf y==some .local&&pos'.line==pp.line && !(sc'.names.any λ(n,k)=>n==y&&(k==.local || k==.cell)))<;>first | exact .inl rfl | exact .inr rfl) | skip)
  all_goals cases(show false=true from hx)
 rcases hsw with hsw | hsw
 .exact Xn c hr hse hsw
 .replace hx:=(L5 _ _ _ _ _ _).symm.trans hx
  split at hx
  .rename_i elt t iter ifs scope hy
   obtain⟨pos3,rfl⟩:=Kb hy;simp only[Vl]at hx;obtain⟨⟨⟨⟨⟨⟨⟨⟨⟨h1,h2⟩,h3⟩,h4⟩,h5⟩,h6⟩,h7⟩,h8⟩,h9⟩,h10⟩:=hx;have nd':=D9 h5;have nd:ns.Nodup:=nd'.1;have cc:=λfp s H=>c.comp (outer:=sc) h3 nd' fp s H
   have ht:∀i∈Bt tg,fr[i]?=some none:=λi m=>by
    unfold ik at h6;rw[yq]at h6;exact eq_of_beq (h6 i m)
   have hc:∀fp s H,PTs (Yq X scope ns fp s H) ifs (LT X.K X.mg w cd):=λfp s H=>by
    unfold LT;by_cases hn:isNil cd=true
    .rw[if_pos hn]at h9 ⊢;rw[List.isEmpty_iff.mp h9];exact X7
    .rw[if_neg hn]at h9 ⊢
     split at h9
     .rw[Vl]at h9;exact X6 ((Gx (w:=w) cd).2.1 _ k ns scope false _ (cc fp s H) (λz=>by cases z) h9.1 h9.2).1
     .cases h9
   rw[Vl,beq_iff_eq]at hr;obtain⟨l1,l2⟩:=c.loc hr.2;have hi:X.N[i]?=some y:=by rw[c.nN];exact hr.1
   intro XB s Z H D I hs;have hl:i<Z.length:=by rw[I.len];exact(W8.mp hi).1
   exact PS.mel (Aq (te:=λ_ _ _=>LE X.K X.mg w el) (tt:=λ_ _ _=>LT X.K X.mg w cd) (g:=λ_ _ _=>LG X.K X.mg tg) (by rw[c.nN];exact c.nd) hi l1 c.calm ((Gx (w:=w) it).2.2.2 X k N sc true t iter c (λ_=>ct) h2) (NX:=N) (outer:=sc) ⟨c.nN,ct,h3,h4⟩ (λfp s H=>Rg (cc fp s H) tg h8) hc (λfp s H=>(Gx (w:=w) el).1 _ k ns scope false elt (cc fp s H) (λz=>by cases z) h10) hsw (Dj h7) l2) XB s Z H D I
    (xa c h4 nd ht (by rw[I.len,c.nN]) (bp hl hs))
  .cases hx
theorem Zzx(c:Ctx X w k N sc.names)(ct:X.env.scope.names=sc.names):∀s:S,(∀st,repS N sc s st=true->PS X st (LS X.K X.mg w pt s))/\∀sts,G3 N sc s sts=true->Wo X sts (LS X.K X.mg w pt s):=by
 have E:=λ(e:E) (x:Expr) (h:rep true N sc e x=true)=>(Gx (w:=w) e).1 X k N sc true x c (λ_=>ct) h;have Tt:=λ(e:PV.E) (x:Expr) (h:rep true N sc e x=true) (t:Lz e x=true)=>((Gx (w:=w) e).2.1 X k N sc true x c (λ_=>ct) h t).1;have It:=λ(e:PV.E) (t x:Expr) (h:Ql true N sc t e x=true)=>(Gx (w:=w) e).2.2.2 X k N sc true t x c (λ_=>ct) h;have nb:∀{s:S},(∀sts,G3 N sc s sts=false)->∀sts,G3 N sc s sts=true->Wo X sts (LS X.K X.mg w pt s):=λh sts z=>by rw[h]at z;cases z
 have ns:∀{s:S},(∀st,repS N sc s st=false)->∀st,repS N sc s st=true->PS X st (LS X.K X.mg w pt s):=λh sts z=>by rw[h]at z;cases z
 intro s
 induction s with
 | nil =>
  refine⟨ns λst=>rfl,λsts h=>?_⟩;cases sts with
  | nil=>exact ed
  | cons _ _=>cases(show false=true from h)
 | seq a r ha hr =>
  refine⟨ns λst=>rfl,λsts h=>?_⟩;cases sts with
  | nil=>cases(show false=true from h)
  | cons st rest =>
   replace h:=(jt _ _).symm.trans h
   rw[Vl]at h;exact bg (ha.1 st h.1) (hr.2 rest h.2)
 | ret a =>
  refine⟨λst h=>?_,nb λsts=>rfl⟩
  replace h:=(jg _).symm.trans h
  split at h
  .rename_i e
   obtain⟨p,rfl⟩:=Uh e
   split at h
   .exact i8 (E a _ h)
   .rw[wt h];exact bz
  .cases h
 | ex a =>
  refine⟨λst h=>?_,nb λsts=>rfl⟩
  replace h:=(m6 _).symm.trans h
  split at h
  .rename_i e
   obtain⟨p,rfl⟩:=Uh e;rw[Vl]at h;exact sns_ex (E a _ h.1) h.2
  .cases h
 | set i a =>
  refine⟨λst h=>?_,nb λsts=>rfl⟩
  replace h:=(jk _ _).symm.trans h
  split at h
  .rename_i e
   obtain⟨p,rfl⟩:=Uh e
   split at h
   .rename_i e
    obtain⟨p,rfl⟩:=zd e;simp only[Vl]at h;obtain⟨⟨⟨h1,h2⟩,h3⟩,h4⟩:=h;have h12:=B0z.mpr ⟨h1,h2⟩;rw[Bool.or_eq_true]at h4;rcases h4 with h4 | h4
    .exact Xn c h12 (E a _ h3) (Xd h4)
    .cases a<;>first | exact fe c ct h12 h3 | cases h4
   .cases h
  .cases h
 | unp tg a =>
  refine⟨λst h=>?_,nb λsts=>rfl⟩
  replace h:=(jy _ _).symm.trans h
  split at h
  .rename_i e
   obtain⟨p,rfl⟩:=Uh e;simp only[Vl]at h;obtain⟨⟨⟨h1,h2⟩,h3⟩,h4⟩:=h;exact i7 c h1 h2 (E a _ h3) (by simpa using h4)
  .cases h
 | put i kk a =>
  refine⟨λst h=>?_,nb λsts=>rfl⟩
  replace h:=(jf _ _ _).symm.trans h
  split at h
  .rename_i e
   obtain⟨p,rfl⟩:=Uh e
   split at h
   .rename_i e
    obtain⟨q,p,rfl⟩:=Zzn e;simp only[Vl]at h;obtain⟨⟨⟨h1,h2⟩,h3⟩,h4⟩:=h;exact i9 c h1 (E a _ h2) (E kk _ h3) h4
   .cases h
  .cases h
 | ite cd a b ha hb =>
  refine⟨λst h=>?_,nb λsts=>rfl⟩
  replace h:=(jb _ _ _).symm.trans h
  split at h
  .rename_i e
   obtain⟨p,rfl⟩:=Uh e;simp only[Vl]at h;obtain⟨⟨⟨h1,h2⟩,h3⟩,h4⟩:=h;exact ee (Tt cd _ h1 h2) (ha.2 _ h3) (hb.2 _ h4)
  .cases h
 | loop tg it b hb =>
  refine⟨λst h=>?_,nb λsts=>rfl⟩
  replace h:=(He _ _ _).symm.trans h
  split at h
  .rename_i e
   obtain⟨p,rfl⟩:=Uh e;simp only[Vl]at h;obtain⟨⟨⟨h1,h2⟩,h3⟩,h4⟩:=h;exact bj c (It it _ _ h1) h2 (hb.2 _ h3) h4
  .cases h
 | wh cd b hb =>
  refine⟨λst h=>?_,nb λsts=>rfl⟩
  replace h:=(m5 _ _).symm.trans h
  split at h
  .rename_i e
   obtain⟨p,rfl⟩:=Uh e;simp only[Vl]at h;obtain⟨h1,h3⟩:=h;refine sns_wh c ?_ (hb.2 _ h3);unfold repW at h1
   split at h1
   .split at h1
    .rename_i hy
     obtain⟨pos,rfl⟩:=Uc hy;exact snt_io c h1
    .cases h1
   .rw[Vl]at h1;exact Tt cd _ h1.1 h1.2
  .cases h
 | pass =>
  refine⟨λst h=>?_,nb λsts=>rfl⟩
  replace h:=(Hi).symm.trans h
  split at h
  .rename_i e
   obtain⟨p,rfl⟩:=Uh e;exact bx
  .cases h
 | brk =>
  refine⟨λst h=>?_,nb λsts=>rfl⟩
  replace h:=(jm).symm.trans h
  split at h
  .rename_i e
   obtain⟨p,rfl⟩:=Uh e;exact Zzz
  .cases h
 | cont =>
  refine⟨λst h=>?_,nb λsts=>rfl⟩
  replace h:=(H0).symm.trans h
  split at h
  .rename_i e
   obtain⟨p,rfl⟩:=Uh e;exact bw
  .cases h
end
noncomputable def Vw(as:List Sl)(i:Nat):Bool:=match as[i]? with
 | some (.o _)=>true
 | _=>false
noncomputable def leftT:Sl->T
 | .o t=>t
 | _=>.fn ""
noncomputable def Jm:List Sl->P->Option (ZZ)
 | [],_=>some []
 | .o _::r,x::q=>(Jm r q).map (leftT x::·)
 | .f _::r,_::q=>Jm r q
 | .no::r,_::q=>Jm r q
 | _,_=>none
noncomputable def fin(as:List Sl)(r:Sl)(p:P):Option (Sl×ZZ):=(Jm as p).map λts=>(r,ts)
structure Df where
 n:Nat
 ar:Nat
 code:S
noncomputable def Cy(d:Df)(w:W)(as:List Sl):Option (Sl×ZZ):=if as.length=d.ar then (ex w (Vw as) d.code (as++List.replicate (d.n-d.ar) .no)).bind λq=>match q.1 with
  | .rt r=>fin as r q.2
  | .nx=>fin as (.f .non) q.2
  | _=>none
 else none
theorem nh{as:List Sl}:∀{p:P} {ts:ZZ},Jm as p=some ts->(∀(j:Nat) (s:Sl),(W0 as ts)[j]?=some s->(as[j]?=some s/\∀u,s≠.o u)\/(∃t u,s=.o t/\as[j]?=some (.o u)/\p[j]?=some (.o t))\/s=.no)/\(W0 as ts).length=as.length:=by
  induction as with
  | nil=>intro p ts e;cases e;exact⟨λj s h=>by simp[W0]at h,rfl⟩
  | cons a r ih =>
    intro p ts e;cases p with
    | nil=>cases a<;>cases e
    | cons x q =>
      have same:∀{b:Sl} {us:ZZ},Jm r q=some us->(∀u,b≠.o u)->(∀(j:Nat) (s:Sl),(b::W0 r us)[j]?=some s->((b::r)[j]?=some s/\∀u,s≠.o u)\/(∃t u,s=.o t/\(b::r)[j]?=some (.o u)/\(x::q)[j]?=some (.o t))\/s=.no)/\(b::W0 r us).length=(b::r).length:=λ{b us} e nb=>by
        obtain⟨h2,h3⟩:=ih e;refine⟨λj s h=>?_,by rw[Rz,Rz,h3]⟩;cases j with
        | zero=>cases(D8 h);exact .inl ⟨rfl,nb⟩
        | succ j=>exact h2 j s h
      cases a with
      | no => have eu : W0 (.no :: r) ts=.no :: W0 r ts := by cases ts<;>rfl
              rw[eu];exact same e λu z=>nomatch z
      | f y => have eu : W0 (.f y :: r) ts=.f y :: W0 r ts := by cases ts<;>rfl
               rw[eu];exact same e λu z=>nomatch z
      | o y =>
        obtain⟨Oc,e1,rfl⟩:=Yr.mp (show (Jm r q).map _=some ts from e);obtain⟨h2,h3⟩:=ih e1;refine⟨λj s h=>?_,by show (W0 r Oc).length+1=r.length+1;rw[h3]⟩;cases j with
        | succ j=>exact h2 j s h
        | zero =>
          have h:s=mkO (leftT x):=(D8 h).symm;subst h;cases x with
          | no=>exact .inr (.inr rfl)
          | f t=>exact .inr (.inr rfl)
          | o t=>cases t with
            | fn z=>exact .inr (.inr rfl)
            | _=>exact .inr (.inl ⟨_,y,rfl,rfl,rfl⟩)
section
variable{K:W.Frag}{mg:ZV}{F G H:Hp}
theorem qu{as:List Sl}{vs:ZQ}{n:Nat}{N:ZD}(r:Rel K mg F G as (vs.map some) H)(hn:N.length=n)(hl:vs.length<=n):Rel K mg F G (as++List.replicate (n-as.length) Sl.no) (L2.start N vs) H:=by
 have al:as.length=vs.length:=by have:=r.ln;rw[Vq]at this;exact this
 have old:∀{i:Nat} {s:Sl},(as++List.replicate (n-as.length) Sl.no)[i]?=some s->s≠.no->as[i]?=some s/\i<vs.length:=λ{i s} h ne=>by
  rw[List.getElem?_append]at h
  split at h
  .rename_i hi;exact⟨h,by omega⟩
  .rw[List.getElem?_replicate]at h
   split at h
   .cases h;exact absurd rfl ne
   .cases h
 have st:∀{i:Nat},i<vs.length->(L2.start N vs)[i]?=(vs.map some)[i]?:=λ{i} h=>by
  unfold L2.start;rw[G0l (by rw[Vq];exact h)]
 refine⟨r.b,λi t e=>?_,λi t e=>?_,λi j t u a e1 e2 h1 h2=>?_,?_⟩
 .obtain⟨e,hi⟩:=old e λz=>nomatch z;rw[st hi];exact r.fz i t e
 .obtain⟨e,hi⟩:=old e λz=>nomatch z;rw[st hi];exact r.ow i t e
 .obtain⟨e1,i1⟩:=old e1 λz=>nomatch z;obtain⟨e2,i2⟩:=old e2 λz=>nomatch z;rw[st i1]at h1;rw[st i2]at h2;exact r.ap i j t u a e1 e2 h1 h2
 .unfold L2.start;rw[W7,W7,List.length_replicate,List.length_replicate,Vq,al,hn]
theorem xl{F' H':Hp}{as:List Sl}{vs:ZQ}{ts:ZZ}{p':P}{σ0 σ':L2.St}{rr:Sl}{v:V}(r:Rel K mg F G as (vs.map some) H)(hσ:∀i:Nat,i<vs.length->σ0[i]?=(vs.map some)[i]?)(eo:Jm as p'=some ts)(l:Le F F')(u:Up K H H')(r':Rel K mg F' G p' σ' H')(kp:Kp (Vw as) σ0 σ')(rs:Res K mg F' G p' σ' H' rr v) :
  Rel K mg F' G (W0 as ts) (vs.map some) H'/\Res K mg F' G (W0 as ts) (vs.map some) H' rr v:=by
 obtain⟨o2,o3⟩:=nh eo;have al:as.length=vs.length:=by have:=r.ln;rw[Vq]at this;exact this
 have own:∀{j:Nat} {t:T},(W0 as ts)[j]?=some (Sl.o t)->p'[j]?=some (Sl.o t)/\σ'[j]?=(vs.map some)[j]?/\∃u,as[j]?=some (Sl.o u):=λ{j t} h=>by
  rcases o2 j _ h with ⟨_,a2⟩ | ⟨t',u',a1,a2,a3⟩ | z
  .exact absurd rfl (a2 t)
  .cases a1;have hj:j<vs.length:=by rw[<-al];exact(W8.mp a2).1
   exact⟨a3,(kp.2 j (by unfold Vw;rw[a2])).trans (hσ j hj),u',a2⟩
  .cases z
 refine⟨⟨r'.b,λj t e=>?_,λj t e=>?_,λi j t t' a e1 e2 h1 h2=>?_,by rw[o3];exact r.ln⟩,?_⟩
 .rcases o2 j _ e with ⟨a1,_⟩ | ⟨_,_,z,_⟩ | z
  .obtain⟨v,h1,h2⟩:=r.fz j t a1;exact⟨v,h1,IsT.up u l t v h2⟩
  .cases z
  .cases z
 .obtain⟨a1,a2,_⟩:=own e;rw[<-a2];exact r'.ow j t a1
 .obtain⟨a1,a2,_⟩:=own e1;obtain⟨b1,b2,_⟩:=own e2;rw[<-a2]at h1;rw[<-b2]at h2;exact r'.ap i j t t' a a1 b1 h1 h2
 .cases rr with
  | no=>exact rs
  | f t=>exact rs
  | o t =>
   obtain⟨a,rfl,h1,h2,h3,h4⟩:=rs;refine⟨a,rfl,h1,h2,h3,λj u e z=>?_⟩;obtain⟨a1,a2,_⟩:=own e;rw[<-a2]at z;exact h4 j u a1 z
end
structure LamW(K:W.Frag)(mg:ZV)(c T:Addr):Prop where
 c:∀h,K.In h->W.CodeHd h c T
 bi:∀h,K.In h->h.BuiltinsAt mg T
 ne:mainGlobals≠T
structure af(K:W.Frag)(x qual:Str)(st:Stmt)(f:Addr)(fd:FuncData)(R:Value->Prop):Prop where
 ex:∃(oc:Value) (od:ZP) (kV doc pm:Value) (an:ZP) (cdv ct:Value) (osl:ZF),R cdv /\
  fd=W.fnOf x qual (Uy st) (Yp st) (Zv st) .none kV doc pm an cdv ct/\K.lookup f=some ⟨oc,od,.func fd,osl⟩/\W.codeIn K cdv qual=true
 kp:W.keepIn K (.ref f)=true
theorem af.ok{P:Program}{w:World}{K:W.Frag}{mg:ZV}{base:Heap}{R:Value->Prop}{x qual:Str}{st:Stmt}{f:Addr}{fd:FuncData}{N ps:ZD}{k:Nat}{sp:Sp}(F:af K x qual st f fd R)(S:Ud N ps (Zv st))(len:∀vs H Q E,sp vs H Q E->vs.length=ps.length)
  (Ex:∀(cdv:Value) (A:Around) (outer:List Env) (s:Shared) (H:Hp) (vs:ZQ) (Q:VK) (E:XK),R cdv->Ue k (A.deeper (envOfC qual (Zv st) s.heap.objs.size f cdv))->sp vs H Q E ->
   ∃t,Wo (Ea qy P w K mg base N qual (Zv st) f cdv A outer s H E).nox (Yp st) t/\t { nx:=λ_ H'=>Q .non H',rt:=Q } (start N vs) H):J4 P w K mg base qy (k+1) f fd ps sp:=by
 obtain⟨oc,od,kV,doc,pm,an,cdv,ct,osl,rc,rfl,lk,Pz⟩:=F.ex;refine Zwc lk Pz S len λA outer s H vs Q E hr ai=>?_;obtain⟨t,h,q⟩:=Ex cdv A outer s H vs Q E rc hr ai;exact⟨t,h.nox,q⟩
def LamF(K:W.Frag)(mg:ZV)(qual:Str)(sc:Scope)(R:Value->Prop):Prop:=sc.names=Ti->∀T,gu=some T->(∀(L f:Addr) (v:Value),(envOfC qual sc L f v).qual++Str.ofString "<lambda>"=T.q)/\∀v,R v->∃c,v=.ref c/\LamW K mg c T.P
theorem Ey{P:Program}{wd:World}{K:PySem.W.Frag}{mg:ZV}{base:Heap}{w:W}{x qual:Str}{st:Stmt}{f:Addr}{fd:FuncData}{N ps:ZD}{k:Nat}{d:Df}{R:Value->Prop}(F:af K x qual st f fd R)(lm:LamF K mg qual (Zv st) R)(S:Ud N ps (Zv st))(hn:N.length=d.n)(ha:ps.length=d.ar)(hle:ps.length<=N.length)(hrep:G3 N (Zv st) d.code (Yp st)=true)
  (bn:∀x∈J2,mg x=none) (fn:∀f as r,w.C f as=some r->∃ps,as.length=ps.length/\Fn P wd K mg base k f ps (fm K mg ps.length (w.C f))) (gl:∀x t,w.gl x=some t->∃v u,mg x=some u/\RelV v u/\∀H F,IsT K mg H F t v) :
  J4 P wd K mg base qy (k+1) f fd ps (fm K mg ps.length (Cy d w)):=by
 refine F.ok S (λvs H Q E h=>h.1) λcdv A outer s H vs Q E rc hr h=>?_;obtain⟨hv,F0,G,as,r,ec,rel,kq⟩:=h;unfold Cy at ec
 split at ec
 .rename_i hal
  obtain⟨⟨fl,p'⟩,e1,e2⟩:=ZO.mp ec;have c:Ctx (Ea qy P wd K mg base N qual (Zv st) f cdv A outer s H E).nox w k N (Zv st).names:=⟨rfl,S.nd,λy kd e=>.inl e,rfl,hr,bn,fn,gl,rfl,λ_ _=>rfl,λz T e=>let ⟨a1,a2⟩:=lm z T e;let ⟨c1,ec,lw⟩:=a2 cdv rc;⟨⟨⟨c1,ec,lw.c⟩,lw.bi,lw.ne⟩,a1 _ _ _⟩⟩;refine⟨LS K mg w (Vw as) d.code,(Zzx (sc:=Zv st) (pt:=Vw as) c rfl d.code).2 _ hrep,F0,G,_,fl,p',qu rel hn (by rw[hv];omega),by rw[hal];exact e1,λF' H' σ' l u Yt kp=>?_⟩
  have hσ:∀i:Nat,i<vs.length->(L2.start N vs)[i]?=(vs.map some)[i]?:=λi h=>by
   unfold L2.start;rw[G0l (by rw[Vq];exact h)]
  cases fl with
  | nx =>
   obtain⟨ts,e3,e4⟩:=Yr.mp (show (Jm as p').map _=some r from e2);cases e4;obtain⟨g1,g2⟩:=xl (v:=.non) (rr:=.f .non) rel hσ e3 l u Yt kp rfl;exact kq F' H' .non l u g1 g2
  | rt rr =>
   obtain⟨ts,e3,e4⟩:=Yr.mp (show (Jm as p').map _=some r from e2);cases e4;intro v rs;obtain⟨g1,g2⟩:=xl rel hσ e3 l u Yt kp rs;exact kq F' H' v l u g1 g2
  | bk=>cases e2
  | ct=>cases e2
 .cases ec
def wF(d:Df)(w:W)(as:List Sl)(Q:Sl×ZZ->Prop):Prop:=if as.length=d.ar then wS w (Vw as) d.code (as++List.replicate (d.n-d.ar) .no) ⟨λp=>on (fin as (.f .non) p) Q,λr p=>on (fin as r p) Q,λ_=>False,λ_=>False⟩ else False
theorem kj{d:Df}{w:W}{as:List Sl}{Q:Sl×ZZ->Prop}(h:wF d w as Q):∃x,Cy d w as=some x/\Q x:=by
 unfold wF at h
 split at h
 .rename_i ha
  obtain⟨f,p',e,h⟩:=wS_ex w (Vw as) d.code _ _ h;unfold Cy;rw[if_pos ha,e];cases f with
  | nx=>exact Yh h
  | rt r=>exact Yh h
  | bk=>exact h.elim
  | ct=>exact h.elim
 .exact h.elim
noncomputable def Cn(tab:Str->Option Df)(gl:Str->Option T):Nat->Cs
 | 0=>λ_ _=>none
 | n+1=>λf as=>match fx f with
  | some g=>g as
  | none=>(tab f).bind λd=>Cy d ⟨Cn tab gl n,gl⟩ as
structure Du(K:W.Frag)(mg:ZV)(f:Str)(d:Df):Prop where
 ex:∃st a fd N ps R,af K f f st a fd R/\LamF K mg f (Zv st) R/\mg f=some (.ref a)/\Ud N ps (Zv st)/\N.length=d.n/\ps.length=d.ar/\ps.length<=N.length/\G3 N (Zv st) d.code (Yp st)=true/\Binds K fd ps []
theorem knot{P:Program}{wd:World}{K:W.Frag}{mg:ZV}{base:Heap}{tab:Str->Option Df}{gl:Str->Option T}(bn:∀x∈J2,mg x=none)(ft:∀f d,tab f=some d->Du K mg f d)(fo:∀f g,fx f=some g->∃ps,(∀as r,g as=some r->as.length=ps.length)/\∀n,Fn P wd K mg base (n+1) f ps (fm K mg ps.length g))(hg:∀x t,gl x=some t->∃v u,mg x=some u/\RelV v u/\∀H F,IsT K mg H F t v) :
  ∀n f as r,Cn tab gl n f as=some r->∃ps,as.length=ps.length/\Fn P wd K mg base n f ps (fm K mg ps.length (Cn tab gl n f))
 | 0,f,as,r,h=>by cases h
 | n+1,f,as,r,h=>by
  cases ef:fx f with
  | some g =>
   have ec:Cn tab gl (n+1) f=g:=by
    funext as
    show (match fx f with | some g=>g as | none=>_)=_;rw[ef]
   rw[ec]at h ⊢;obtain⟨ps,h1,h2⟩:=fo f g ef;exact⟨ps,h1 as r h,h2 n⟩
  | none =>
  have ec:Cn tab gl (n+1) f=λas=>(tab f).bind λd=>Cy d ⟨Cn tab gl n,gl⟩ as:=by
   funext as
   show (match fx f with | some g=>g as | none=>_)=_;rw[ef]
  rw[ec]at h;obtain⟨d,e1,e2⟩:=ZO.mp (show (tab f).bind _=some r from h);obtain⟨st,a,fd,N,ps,R,F,lm,hm,S,hn,ha,hle,hrep,hb⟩:=(ft f d e1).ex
  have ec:Cn tab gl (n+1) f=Cy d ⟨Cn tab gl n,gl⟩:=by
   rw[ec]
   funext as
   show (tab f).bind _=_;rw[e1]
   rfl
  refine⟨ps,?_,a,fd,?_,hb,F.kp,hm⟩
  .unfold Cy at e2
   split at e2
   .rename_i q;rw[ha];exact q
   .cases e2
  .rw[ec];exact Ey F lm S hn ha hle hrep bn (knot bn ft fo hg n) hg
end PV
namespace PV
open PySem
abbrev Ze(a:E):E:=.cons a .nil
abbrev Zy(a b:E):E:=.cons a (.cons b .nil)
abbrev Jc(a b c:E):E:=.cons a (.cons b (.cons c .nil))
abbrev Rb(a b c d:E):E:=.cons a (.cons b (.cons c (.cons d .nil)))
abbrev ki(i:Int):E:=.k (.int i)
abbrev ks(x:Str):E:=.k (.str x)
abbrev Zw(a b:E):E:=.pr .ix (.cons a (.cons b .nil))
noncomputable abbrev Vz(a b:E):E:=.pr (.cm .eq) (.cons a (.cons b .nil))
abbrev N9(a b:E):E:=.pr (.op .add) (.cons a (.cons b .nil))
abbrev W4(a:E):E:=.pr .len (.cons a .nil)
abbrev Yv(a:S):S:=.seq a .nil
end PV
namespace PV
open PySem PySem.Spec PyProof.Rows L2
theorem Zxe{Z:Type}{o:Option Z}{Q Q':Z->Prop}(h:on o Q)(q:∀x,Q x->Q' x):on o Q':=by
 obtain⟨a,e,h⟩:=Yh h;rw[e];exact q a h
theorem Hq{body:T->P->(Option T->P->Prop)->Prop}(I:ZZ->ZZ->P->Prop)(st:∀x r acc p K,I (x::r) acc p->(∀y p',I r (acc++[y]) p'->K (some y) p')->(∀p',I r acc p'->K none p')->body x p K) :
  ∀(xs acc:ZZ) (p:P) (Q:ZZ->P->Prop),I xs acc p->(∀acc p,I [] acc p->Q acc p)->Ga body xs acc p Q
 | [],acc,p,Q,h,q=>q acc p h
 | x::r,acc,p,Q,h,q=>st x r acc p _ h (λy p' h'=>Hq I st r (acc++[y]) p' Q h' q) λp' h'=>Hq I st r acc p' Q h' q
theorem Xx{body:T->P->En->Prop}(I:ZZ->P->Prop)(B:P->Prop)(R:Sl->P->Prop)
  (st:∀x r p (D:En),I (x::r) p->(∀q,I r q->D.nx q)->(∀q,I r q->D.ct q)->(∀q,B q->D.bk q)->(∀s q,R s q->D.rt s q)->body x p D) :
  ∀(xs:ZZ) (p:P) (D:En),I xs p->(∀q,I [] q->D.nx q)->(∀q,B q->D.nx q)->(∀s q,R s q->D.rt s q)->Rj body xs p D
 | [],p,D,h,q,_,_=>q p h
 | x::r,p,D,h,q,b,t=>st x r p _ h (λp' h'=>Xx I B R st r p' D h' q b t) (λp' h'=>Xx I B R st r p' D h' q b t) b t
theorem Jn{body:T->P->En->Prop}{xs:ZZ}{p:P}{D:En}(I:ZZ->P->Prop)(h:I xs p)(st:∀x r p (D:En),I (x::r) p->(∀q,I r q->D.nx q)->(∀q,I r q->D.ct q)->body x p D)(q:∀q,I [] q->D.nx q):Rj body xs p D :=
 Xx I (λ_=>False) (λ_ _=>False) (λx r p D h n c _ _=>st x r p D h n c) xs p D h q (λ_ z=>z.elim) λ_ _ z=>z.elim
theorem Jb{body:T->P->(Option T->P->Prop)->Prop}{xs:ZZ}{p:P}{Q:ZZ->P->Prop}(I:ZZ->ZZ->P->Prop)(h:I xs [] p)(st:∀x r acc p K,I (x::r) acc p->(∀y p',I r (acc++[y]) p'->K (some y) p')->(∀p',I r acc p'->K none p')->body x p K)(q:∀acc p,I [] acc p->Q acc p):Ga body xs [] p Q :=
 Hq I st xs [] p Q h q
theorem wWhI{test:P->(Bool->P->Prop)->Prop}{body:P->En->Prop}(I:Nat->P->Prop){D:En}
  (st:∀m p (K:Bool->P->Prop),I m p->(∀q,(∀D':En,(∀m' q',m'<m->I m' q'->D'.nx q')->(∀m' q',m'<m->I m' q'->D'.ct q')->(∀q',D.nx q'->D'.bk q')->(∀s q',D.rt s q'->D'.rt s q')->body q D')->K true q)->(∀q,D.nx q->K false q)->test p K) :
  ∀(m n:Nat) (p:P),m<n->I m p->wWh test body n p D:=by
 intro m
 induction m using Nat.strongRecOn with
 | ind m ih =>
  intro n p h i
  match n,h with
  | n+1,h =>
   refine st m p _ i (λq g=>?_) λq g=>?_
   .show if (true:Bool)=true then _ else _
    rw[if_pos rfl];exact g _ (λm' q' l i'=>ih m' l n q' XS i') (λm' q' l i'=>ih m' l n q' XS i') (λ_ z=>z) λ_ _ z=>z
   .show if (false:Bool)=true then _ else _
    rw[if_neg (λz=>nomatch z)];exact g
theorem callW{tab:Str->Option Df}{gl:Str->Option T}{n:Nat}{f:Str}{as:List Sl}{Q:Sl×ZZ->Prop}{d:Df}(hf:fx f=none)(e:tab f=some d)(h:wF d ⟨Cn tab gl n,gl⟩ as Q):on (Cn tab gl (n+1) f as) Q:=by
 obtain⟨x,h1,h2⟩:=kj h;exact Z8 (a:=x) (by show (match fx f with | some g=>g as | none=>(tab f).bind _)=_;rw[hf,e];exact h1) h2
theorem callX{tab:Str->Option Df}{gl:Str->Option T}{n:Nat}{f:Str}{as:List Sl}{Q:Sl×ZZ->Prop}{g:List Sl->Option (Sl×ZZ)}(e:fx f=some g)(h:on (g as) Q):on (Cn tab gl (n+1) f as) Q:=by
 show on (match fx f with | some g=>g as | none=>_) Q;rw[e];exact h
theorem Wu(a:Int):∀zs:ZL,G1 (.int a) (zs.map .int)=some (zs.any λz=>decide (z=a))
 | []=>rfl
 | z::zs=>by
  show (G1 (.int a) (zs.map .int)).map (decide (z=a) || ·)=_;rw[Wu a zs];rfl
theorem xx(a:Int)(zs:ZL):r9 (.int a) (.lst (zs.map .int))=some (zs.any λz=>decide (z=a)):=Wu a zs
theorem Wp(a:Str):∀zs:ZD,G1 (.str a) (zs.map .str)=some (zs.any λz=>decide (z=a))
 | []=>rfl
 | z::zs=>by
  show (G1 (.str a) (zs.map .str)).map (decide (z=a) || ·)=_;rw[Wp a zs];rfl
theorem strs_map:∀ss:ZD,Nf (ss.map .str)=some ss
 | []=>rfl
 | s::ss=>by show (Nf (ss.map .str)).map (s::·)=_;rw[strs_map ss];rfl
theorem ints_map:∀ss:ZL,Ja (ss.map .int)=some ss
 | []=>rfl
 | s::ss=>by show (Ja (ss.map .int)).map (s::·)=_;rw[ints_map ss];rfl
theorem wu(s:Str)(ss:ZD):Ja ((s::ss).map .str)=none:=rfl
theorem S5(x:Str)(ss:ZD):r9 (.str x) (.tup (ss.map .str))=some (ss.any λy=>decide (y=x)):=Wp x ss
theorem srt_strs(ss:ZD)(h:ss.length<64):Qf (ss.map .str)=some ((SRT.Us ss).map .str):=by
 unfold Qf;rw[if_pos (by rw[Vq];exact h)];cases ss with
 | nil=>rfl
 | cons s ss=>rw[wu,strs_map];rfl
theorem Wl{Z:Type}{xs:List Z}{i:Int}(h0:0<=i)(h1:i<xs.length):∃x,Tq xs i=some x/\xs[i.toNat]?=some x/\x∈xs:=by
 have hj:i.toNat<xs.length:=XS
 refine⟨xs[i.toNat],?_,Tc hj,G0e hj⟩;unfold Tq Q6;rw[if_pos h0,if_pos h1];exact Tc hj
theorem ixP{ts:ZZ}{r:Int}{Q:Sl->Prop}(h0:0<=r)(h1:r<ts.length)(q:∀x,ts[r.toNat]?=some x->x∈ts->Q (.f x)):on ((K2 (.lst ts) (.int r)).map Sl.f) Q:=by
 obtain⟨x,hx,e,mx⟩:=Wl h0 h1;exact Z8 (a:=Sl.f x) (by show (Tq _ _).map _=_;rw[hx];rfl) (q x e mx)
theorem sIx_nn{n:Nat}{d:Nat}{i:Int}(h0:0<=i)(h1:i<=n):HT.Y7 n d (some i)=i.toNat:=by
 obtain⟨k,rfl⟩:=Int.eq_ofNat_of_zero_le h0;rw[HT.C0,XG];omega
theorem cut_to{ts:ZZ}{i:Int}(h0:0<=i)(h1:i<=ts.length):G6 ts none (some i)=ts.take i.toNat:=by
 unfold G6;rw[sIx_nn h0 h1];show (ts.drop 0).take (i.toNat-0)=_;simp
theorem Zqd{a:T}{l:ZZ}:(K2 (.tup (a::l)) (.int 0)).map Sl.f=some (.f a):=by
 show (Tq _ _).map _=_;unfold Tq Q6;rw[if_pos XS,if_pos (by rw[Rz];omega)]
 rfl
theorem ix_snd{a b:T}{l:ZZ}:(K2 (.tup (a::b::l)) (.int 1)).map Sl.f=some (.f b):=by
 show (Tq _ _).map _=_;unfold Tq Q6;rw[if_pos XS,if_pos (by rw[Rz,Rz];omega)]
 rfl
theorem ixE{ts:ZZ}{r:Int}{x:T}(e:Tq ts r=some x):(K2 (.lst ts) (.int r)).map Sl.f=some (.f x):=by show (Tq ts r).map _=_;rw[e];rfl
theorem ixDE{XM:ZX}{k:Str}{x:T}(e:Zb XM (.inr k)=some x):(K2 (.dct XM) (.str k)).map Sl.f=some (.f x):=by show (Zb XM (.inr k)).map _=_;rw[e];rfl
theorem popP{ts:ZZ}{i:Int}{Q:T×T->Prop}(h0:0<=i)(h1:i<ts.length)(q:∀x,ts[i.toNat]?=some x->x∈ts->Q (.lst (ts.eraseIdx i.toNat),x)):on (mtT .popAt (.lst ts) [.int i]) Q:=by
 have hj:i.toNat<ts.length:=XS
 refine Z8 (a:=(.lst (ts.eraseIdx i.toNat),ts[i.toNat])) ?_ (q _ (Tc hj) (G0e hj));show (Q6 ts.length i).bind _=_;unfold Q6;rw[if_pos h0,if_pos h1];show (ts[i.toNat]?).map _=_;rw[Tc hj]
 rfl
theorem Qi{a:Int}{zs:ZL}{Q:Sl->Prop}(q:Q (.f (.bl (!(zs.any λz=>decide (z=a)))))):on ((B9 .notin (.int a) (.lst (zs.map .int))).map λr=>Sl.f (.bl r)) Q:=Z8 (by show ((r9 _ _).map not).map _=_;rw[xx];rfl) q
theorem uo{zs:ZL}{a:Int}(h:(!(zs.any λz=>decide (z=a)))=true):∀z∈zs,z≠a:=λz m e=>by
 have:(zs.any λz=>decide (z=a))=true:=XZ.mpr ⟨z,m,Mz e⟩;rw[this]at h;cases h
theorem ixHd{a:T}{l:ZZ}{Q:Sl->Prop}(q:Q (.f a)):on ((K2 (.tup (a::l)) (.int 0)).map Sl.f) Q:=Z8 Zqd q
theorem ixSn{a b:T}{l:ZZ}{Q:Sl->Prop}(q:Q (.f b)):on ((K2 (.tup (a::b::l)) (.int 1)).map Sl.f) Q:=Z8 ix_snd q
theorem Bi{ts:ZZ}{r:Int}{x:T}{Q:Sl->Prop}(e:Tq ts r=some x)(q:Q (.f x)):on ((K2 (.lst ts) (.int r)).map Sl.f) Q:=Z8 (ixE e) q
theorem M5{XM:ZX}{k:Str}{x:T}{Q:Sl->Prop}(e:Zb XM (.inr k)=some x)(q:Q (.f x)):on ((K2 (.dct XM) (.str k)).map Sl.f) Q:=Z8 (ixDE e) q
theorem Yz{d:Df}{w:W}{as:List Sl}{Q:Sl×ZZ->Prop}(ha:as.length=d.ar)(h:∀D:En,(∀r p,on (fin as r p) Q->D.rt r p)->(∀p,on (fin as (.f .non) p) Q->D.nx p)->wS w (Vw as) d.code (as++List.replicate (d.n-d.ar) .no) D):wF d w as Q:=by
 unfold wF;rw[if_pos ha];exact h _ (λ_ _ z=>z) λ_ z=>z
theorem srtP{ts us:ZZ}{Q:Sl->Prop}(e:jz ts=some us)(q:Q (.o (.lst us))):on ((jz ts).map λus=>Sl.o (.lst us)) Q:=Z8 (by rw[e];rfl) q
theorem Nb{ts us:ZZ}{Q:Sl->Prop}(e:Qf ts=some us)(q:Q (.o (.lst us))):on ((Qf ts).map λus=>Sl.o (.lst us)) Q:=Z8 (by rw[e];rfl) q
theorem rngP{m:Int}{Q:ZZ->Prop}(h0:-1000000<=m)(h1:m<=1000000)(q:Q ((List.range m.toNat).map λk=>T.int (k:Nat))):on (rngT (.int m)) Q:=by
 refine Z8 (a:=(List.range m.toNat).map λk=>T.int (k:Nat)) ?_ q;show (if -1000000<=m/\m<=1000000 then some ((List.range m.toNat).map λk=>T.int (k:Nat)) else none)=_;rw[if_pos ⟨h0,h1⟩]
theorem Zx{C:Cs}{f:Str}{as:List Sl}{Q Q':Sl×ZZ->Prop}(h:on (C f as) Q)(q:∀x,Q x->Q' x):on (C f as) Q':=Zxe h q
theorem cE9{C:Cs}{f:Str}{as:List Sl}{y:Sl×ZZ}{Q:Sl×ZZ->Prop}(h:on (C f as) λx=>x=y)(q:Q y):on (C f as) Q:=Zx h λx e=>e▸q
theorem boolP'{b:Bool}{K:Bool->Prop}(h:b=true->K true)(h':b=false->K false):K b:=by
 cases b with
 | true=>exact h rfl
 | false=>exact h' rfl
theorem ifS{c:Prop}[Decidable c]{Z:Type}{a:Z}{o:Option Z}{Q:Z->Prop}(h:c)(q:Q a):on (if c then some a else o) Q:=by rw[if_pos h];exact q
theorem Zwo{a b:ZZ}{Q:Sl->Prop}(h:a.length+b.length<=sizeLine)(q:Q (.o (.lst (a++b)))):on (opT .add (.lst a) (.lst b)) Q:=ifS h q
theorem Kl{a b:Str}{Q:Sl->Prop}(h:a.length+b.length<=sizeLine)(q:Q (.f (.str (a++b)))):on (opT .add (.str a) (.str b)) Q:=ifS h q
theorem whS{w:W}{pt:Nat->Bool}{c:E}{b r:S}{p:P}{D:En}(h:wWh (λs K=>wE w c s λr q=>j7 r λb=>K b q) (λs D=>wS w pt b s D) 1000000 p ⟨λq=>wS w pt r q D,D.rt,D.bk,D.ct⟩):wS w pt (.seq (.wh c b) r) p D:=h
theorem m7{p:P}{i:Nat}{t:T}(h:p[i]?=some (.o t)\/p[i]?=some (.f t)):read p i=some (t,p.set i (.f t)):=by
 rcases h with h | h
 .unfold read;rw[h]
 .have e:p.set i (.f t)=p:=by
   refine List.ext_getElem? λj=>?_;by_cases z:i=j
   .subst z;rw[List.getElem?_set_self (W8.mp h).1,h]
   .rw[List.getElem?_set_ne z]
  unfold read;rw[h,e]
def OF(s:Sl)(t:T):Prop:=s=.o t\/s=.f t
theorem m9{p:P}{i:Nat}{s:Sl}{t:T}{Q:T×P->Prop}(h:OF s t)(e:p[i]?=some s)(q:Q (t,p.set i (.f t))):on (read p i) Q:=by
 refine Z8 (m7 ?_) q;rcases h with rfl | rfl
 .exact .inl e
 .exact .inr e
theorem Jl{body:T->P->(Option T->P->Prop)->Prop}{xs:ZZ}{p:P}{Q:ZZ->P->Prop}(g:T->T)(St:P->Prop)(h0:St p)(st:∀x∈xs,∀p K,St p->(∀p',St p'->K (some (g x)) p')->body x p K)(q:∀p,St p->Q (xs.map g) p):Ga body xs [] p Q:=by
 refine Jb (λr acc p=>St p/\(∀x∈r,x∈xs)/\acc++r.map g=xs.map g) ⟨h0,λ_ m=>m,rfl⟩ (λx r acc p K hi ky _=>?_) λacc p hi=>?_
 .obtain⟨h1,h2,h3⟩:=hi;exact st x (h2 x V4) p K h1 λp' h'=>ky _ p' ⟨h',λy m=>h2 y (Uz _ m),by rw[XX];exact h3⟩
 .obtain⟨h1,_,h3⟩:=hi;rw[List.map_nil,XQ]at h3;rw[h3];exact q p h1
theorem Kc(f:T->Bool):∀xs:ZZ,allB (xs.map λx=>.bl (f x))=some (xs.map f)
 | []=>rfl
 | x::xs=>by show (allB (xs.map λx=>.bl (f x))).map (f x::·)=_;rw[Kc f xs];rfl
theorem allP{f:T->Bool}{xs:ZZ}{Q:Sl->Prop}(q:Q (.f (.bl (xs.all f)))):on ((allB (xs.map λx=>.bl (f x))).map λbs=>Sl.f (.bl (bs.all id))) Q:=Z8 (by rw[Kc];show some (Sl.f (.bl ((xs.map f).all id)))=_;rw[List.all_map];rfl) q
end PV
namespace PV
open PySem PySem.Spec PyProof.Rows L2 SRT
theorem le_int{a b:Int}:(!decide (b<a))=decide (a<=b):=by
 by_cases h:a<=b
 .rw[Mz h,Bf XS];rfl
 .rw[Bf h,Mz XS];rfl
theorem uv(a b:Int):B9 .le (.int a) (.int b)=some (decide (a<=b)):=by
 show some (!decide (b<a))=_;rw[le_int]
theorem c2P{a b c:Int}{Q:Sl->Prop}(q:Q (.f (.bl (decide (a<=b)&&decide (b<=c))))):on (Ki (.c2 .le .le) [.int a,.int b,.int c]) Q:=by
 refine Z8 ?_ q;show ((B9 .le (.int a) (.int b)).bind λr=>if r=true then (B9 .le (.int b) (.int c)).map λr=>Sl.f (.bl r) else some (Sl.f (.bl false)))=_;rw[uv,uv];show (if decide (a<=b)=true then some (Sl.f (.bl (decide (b<=c)))) else _)=_;by_cases h:a<=b
 .rw[Mz h];rfl
 .rw[Bf h];rfl
theorem lenP{x:Str}{Q:Sl->Prop}(h:x.length<=sizeLine)(q:Q (.f (.int x.length))):on (Ki .len [.str x]) Q:=by
 have e:Zqj (.str x)=some x.length:=if_pos h;refine Z8 ?_ q;show ((Zqj (.str x)).bind λa=>some (a:Int)).map (λn=>Sl.f (.int n))=_;rw[e]
 rfl
theorem walkP{x:Str}{Q:ZZ->Prop}(h:x.length<=sizeLine)(q:Q (x.cps.toList.map λc=>.str ⟨#[c]⟩)):on (Nk (.str x)) Q:=Z8 (by show (if x.length<=sizeLine then some _ else none)=_;rw[if_pos h]) q
theorem glP{gl:Str->Option T}{x:Str}{t:T}{Q:T->Prop}(e:gl x=some t)(q:Q t):on (gl x) Q:=Z8 e q
theorem Zwk{b:Bool}(h:(!b)=true):b=false:=by
 cases b with
 | true=>cases h
 | false=>rfl
theorem Dq{b:Bool}(h:(!b)=false):b=true:=by
 cases b with
 | true=>rfl
 | false=>cases h
end PV
namespace PV
open PySem PySem.Spec PyProof.Rows L2
def Xc(K:W.Frag):Sp:=λvs H Q _=>∃(a:Addr) (ns:ZL),vs=[.ref a]/\Uq K H a (ns.map V.int)/\ns.length<=63/\(∀T,gu=some T->Tb T H)/\∀H',Q (.bl true) H'
noncomputable def notList:Value->Bool
 | .type n=>!decide (n="list")
 | _=>true
noncomputable def Ad(K:W.Frag):Bool:=K.all λp=>notList p.2.cls
theorem lookup_mem{Z:Type}{a:Addr}{o:Z}:∀{K:List (Addr×Z)},K.lookup a=some o->∃b,(b,o)∈K
 | [],h=>by cases h
 | (b,o')::K,h=>by
  rw[List.lookup_cons]at h
  split at h
  .cases h;exact⟨b,V4⟩
  .obtain⟨c,m⟩:=lookup_mem h;exact⟨c,Uz _ m⟩
theorem rd_of{K:W.Frag}{H:Hp}{a:Addr}{vs:ZQ}(hK:Ad K=true)(h:Uq K H a vs):Rd H a (.lst vs):=by
 rcases h with h | ⟨o,XD,n,lk,hc,_⟩
 .exact h
 .obtain⟨b,m⟩:=lookup_mem lk;have:=yq.mp hK _ m;rw[show ((b,o):Addr×Obj).2.cls=.type "list" from hc]at this;cases this
theorem Fe{K:W.Frag}{mg:ZV}{H F:Hp}:∀zs:ZL,Zj K mg H F (zs.map .int) (zs.map .int)
 | []=>rfl
 | z::zs=>⟨_,_,rfl,rfl,Fe zs⟩
theorem Zqy{K:W.Frag}{mg:ZV}{c:List Sl->Option (Sl×ZZ)}(hK:Ad K=true)(hc:∀zs:ZL,zs.length<=63->c [.f (.lst (zs.map .int))]=some (.f (.bl true),[])):∀vs H Q E,Xc K vs H Q E->fm K mg 1 c vs H Q E:=by
 intro vs H Q E h;obtain⟨a,ns,rfl,hS,hl,ht,hq⟩:=h;have rd:=rd_of hK hS;have sl:=sizeLine_eq;refine⟨rfl,λb=>if b=a then H a else none,λ_=>none,_,_,hc ns hl,⟨⟨λb o e=>?_,λ_ _ z=>(nomatch z),λ_ _=>rfl,λT e=>⟨if_neg λz=>?_,rfl,ht T e⟩⟩,λi t e=>?_,λi t e=>?_,λi j t u b e _ _ _=>?_,rfl⟩,λF' H' v l u r rs=>?_⟩
 .split at e
  .rename_i z;rw[z];exact e
  .cases e
 .obtain⟨ps,hp,_⟩:=ht T e;rw[z]at hp;rcases rd with r | ⟨o,r⟩<;>rw[hp]at r<;>cases r
 .match i,e with
  | 0,e =>
   cases e;refine⟨.ref a,rfl,a,ns.map .int,rfl,?_,by rw[Vq];omega,Fe ns⟩;rcases rd with h | ⟨o,h⟩
   .exact .inl (by show (if a=a then H a else none)=_;rw[if_pos rfl];exact h)
   .exact .inr ⟨o,by show (if a=a then H a else none)=_;rw[if_pos rfl];exact h⟩
  | i+1,e=>simp at e
 .match i,e with
  | 0,e=>cases e
  | i+1,e=>simp at e
 .match i,e with
  | 0,e=>cases e
  | i+1,e=>simp at e
 .have:v=.bl true:=rs;rw[this];exact hq H'
theorem walkP'(no:∀T,gu≠some T){l:W.OpenLaw}{q:Program}{loose:ZD}{XP:(ZV)->Heap->Prop}{YP:World->Heap->Prop}{d:DefRec}{K:Params->W.Frag}{k:Nat}(hn:l.most=some 63)(hdf:d.params.defaults=[])(hr:Ue k callerA)
  (hY:∀(w:World) (h:Heap),YP w h->(K w.params).In h)
  (F:∀(w:World) (mg:ZV) (fa:Addr) (h:Heap),(K w.params).In h->h.Ns mainGlobals mg->mg d.name=some (.ref fa) ->
   ∃fd:FuncData,(∀(s:Shared) (u:Value),BindsTo s fd ⟨[u],[]⟩ [("_law_script",u)])/\∀base:Heap,(K w.params).In base->base.Ns mainGlobals mg->J4 l.prog w (K w.params) mg base qy k fa fd ["_law_script"] (Xc (K w.params))) :
  W.WalkO q loose XP YP l.row.toRowW d [] (λf vs=>PySem.call f vs) :=
 L2.oa (n:=63) (k:=k) (x:="_law_script") (CX:=λ_=>qy) (sp:=λw=>Xc (K w.params)) hn XU hdf hr hY F (λ_ _ a ns hl _ hS=>⟨a,ns,rfl,hS,hl,λT e=>absurd e (no T),λ_=>rfl⟩) λ_ _ _ _ _ z=>z
theorem funR{K:W.Frag}{x qual:Str}{st:Stmt}{f:Addr}{fd:FuncData}(F:Fun K x qual st f fd):af K x qual st f fd λ_=>True:=let ⟨oc,od,kV,doc,pm,an,cdv,ct,osl,h⟩:=F.ex;⟨⟨oc,od,kV,doc,pm,an,cdv,ct,osl,trivial,h⟩,F.kp⟩
structure FA(K:W.Frag)(x:Str)(st:Stmt)(f:Addr)(fd:FuncData):Prop where
 a:W.nsIn K mainGlobals x=some (some (.ref f))
 F:Fun K x x st f fd
noncomputable def chk(N:ZD)(d:Df)(st:Stmt):Bool :=
 (match (Zv st).kind with | .function=>true | _=>false)&&(!(Zv st).isCoroutine&&(!(Zv st).isGenerator&&(decide N.Nodup&&(decide (N.take (N.take d.ar).length=N.take d.ar)&&(((N.take d.ar).all λx=>decide ((Zv st).names.lookup x=some .local) || decide ((Zv st).names.lookup x=some .cell))&&(((Zv st).names.all λy=>!decide (y.2=.free))&&(decide (N.length=d.n)&&(decide ((N.take d.ar).length=d.ar)&&(decide ((N.take d.ar).length<=N.length)&&G3 N (Zv st) d.code (Yp st))))))))))
theorem uy{N:ZD}{d:Df}{st:Stmt}(h:chk N d st=true):Ud N (N.take d.ar) (Zv st)/\N.length=d.n/\(N.take d.ar).length=d.ar/\(N.take d.ar).length<=N.length/\G3 N (Zv st) d.code (Yp st)=true:=by
 unfold chk at h;simp only[Vl,decide_eq_true_eq]at h;obtain⟨h1,h2,h3,h4,h5,h6,h7,h8,h9,h10,h11⟩:=h;refine⟨⟨?_,by simpa using h2,by simpa using h3,h4,h5,λx m=>?_,λy m=>?_⟩,h8,h9,h10,h11⟩
 .split at h1
  .assumption
  .cases h1
 .have:=yq.mp h6 x m;simpa using this
 .have:=yq.mp h7 y m;simpa using this
theorem FA.fc{K:W.Frag}{mg:ZV}{h:Heap}{x:Str}{st:Stmt}{f:Addr}{fd:FuncData}{d:Df}{N:ZD}(A:FA K x st f fd)(X:K.In h)(G:h.Ns mainGlobals mg)(hc:chk N d st=true)(hx:(Zv st).names≠Ti)
  (hb:∀(kV doc pm:Value) (an:ZP) (cdv ct:Value) (us:ZM),us.length=(N.take d.ar).length->bindArgs (W.fnOf x x (Uy st) (Yp st) (Zv st) .none kV doc pm an cdv ct) ⟨us,[]⟩=pure ((N.take d.ar).zip us)):Du K mg x d :=
 let ⟨S,hn,ha,hl,hr⟩:=uy hc
 ⟨⟨st,f,fd,N,N.take d.ar,λ_=>True,(funR A.F),λz=>absurd z hx,W.mg_of X G A.a,S,hn,ha,hl,hr,A.F.binds hb⟩⟩
def FC(x:Str)(st:Stmt)(d:Df):Prop:=∀{K:W.Frag} {mg:ZV} {h:Heap} {f:Addr} {fd:FuncData},K.In h->h.Ns mainGlobals mg->FA K x st f fd->Du K mg x d
theorem tab_of{K:W.Frag}{mg:ZV}{L:List (Str×Df)}(h:∀q∈L,Du K mg q.1 q.2)(f:Str)(d:Df)(e:((L.find? λp=>decide (p.1=f)).map (·.2))=some d):Du K mg f d:=by
 obtain⟨p,hp,rfl⟩:=Yr.mp e;have t:=List.find?_some hp;have this:p.1=f:=D9 t;have q:=h p (List.mem_of_find?_eq_some hp);rw[this]at q;exact q
theorem usS{n:Nat}{us:ZM}(h:us.length=n+1):∃a r,us=a::r/\r.length=n:=by
 cases us with
 | nil=>cases h
 | cons a r=>exact⟨a,r,rfl,Nat.succ.inj h⟩
theorem us0{us:ZM}(h:us.length=0):us=[]:=List.eq_nil_of_length_eq_zero h
theorem us1{us:ZM}(h:us.length=1):∃a,us=[a]:=by
 obtain⟨a,r,rfl,g⟩:=usS h;cases us0 g;exact⟨a,rfl⟩
theorem us2{us:ZM}(h:us.length=2):∃a b,us=[a,b]:=by
 obtain⟨a,r,rfl,g⟩:=usS h;obtain⟨b,rfl⟩:=us1 g;exact⟨a,b,rfl⟩
theorem us3{us:ZM}(h:us.length=3):∃a b c,us=[a,b,c]:=by
 obtain⟨a,r,rfl,g⟩:=usS h;obtain⟨b,c,rfl⟩:=us2 g;exact⟨a,b,c,rfl⟩
theorem us4{us:ZM}(h:us.length=4):∃a b c d,us=[a,b,c,d]:=by
 obtain⟨a,r,rfl,g⟩:=usS h;obtain⟨b,c,d,rfl⟩:=us3 g;exact⟨a,b,c,d,rfl⟩
theorem us5{us:ZM}(h:us.length=5):∃a b c d e,us=[a,b,c,d,e]:=by
 obtain⟨a,r,rfl,g⟩:=usS h;obtain⟨b,c,d,e,rfl⟩:=us4 g;exact⟨a,b,c,d,e,rfl⟩
theorem us6{us:ZM}(h:us.length=6):∃a b c d e f,us=[a,b,c,d,e,f]:=by
 obtain⟨a,r,rfl,g⟩:=usS h;obtain⟨b,c,d,e,f,rfl⟩:=us5 g;exact⟨a,b,c,d,e,f,rfl⟩
theorem Uv{x:Str}{st:Stmt}{d:Df}{N:ZD}(hc:chk N d st=true:=by decide +kernel)(hx:(Zv st).names≠Ti:=by decide +kernel)
  (hb:∀(kV doc pm:Value) (an:ZP) (cdv ct:Value) (us:ZM),us.length=(N.take d.ar).length->bindArgs (W.fnOf x x (Uy st) (Yp st) (Zv st) .none kV doc pm an cdv ct) ⟨us,[]⟩=pure ((N.take d.ar).zip us):=by intro _ _ _ _ _ _ us hl;first | (obtain⟨_,rfl⟩:=us1 hl;rfl) | (obtain⟨_,_,rfl⟩:=us2 hl;rfl) | (obtain⟨_,_,_,rfl⟩:=us3 hl;rfl) | (obtain⟨_,_,_,_,rfl⟩:=us4 hl;rfl) | (obtain⟨_,_,_,_,_,rfl⟩:=us5 hl;rfl) | (obtain⟨_,_,_,_,_,_,rfl⟩:=us6 hl;rfl)):FC x st d:=λX G A=>A.fc X G hc hx hb
end PV
namespace K40
open PySem PySem.Spec PyProof.Rows L2 PV
def Bq:S:=(Yv (.ret (.pr (.cm .ne) (Zy (Zw (.v 0) (ki 3)) (.tup .nil)))))
def Y4:Df:=⟨1,1,Bq⟩
def vp:S:=(Yv (.ret (.pr .get1 (Zy (Zw (.v 0) (ki 1)) (.v 1)))))
def D7:Df:=⟨2,2,vp⟩
noncomputable def E2:S:=(.seq (.loop (.v 2) (Zw (.v 0) (ki 1))
    (Yv (.ite (Vz (Zw (.v 2) (ki 0)) (.v 1))
    (Yv (.ret (.mv 2)))
    .nil)))
   (.seq (.ret (.k .non))
   .nil))
def U6:Df:=⟨3,2,E2⟩
noncomputable def Iv:S:=(Yv (.ret (.and (.pr (.isi .int) (Ze (.v 0))) (.and (.not (.pr (.isi .bool) (Ze (.v 0)))) (.pr (.c2 .le .le) (Jc (.v 1) (.v 0) (.v 2)))))))
def Gh:Df:=⟨3,3,Iv⟩
noncomputable def vh:S:=(Yv (.ret (.and (.pr (.isi .str) (Ze (.v 0))) (.and (.pr (.cm .le) (Zy (W4 (.v 0)) (.v 1))) (.pr .all (Ze (.comp (.v 0) (.v 0) .nil (.pr (.cm .isin) (Zy (.v 0) (.g "SIGNS"))) [none] ["sign"])))))))
def D6:Df:=⟨2,2,vh⟩
noncomputable def Bj:S:=(.seq (.ite (Vz (Zw (.v 0) (ki 0)) (ks "whole"))
    (Yv (.ret (.call "is_whole" (Jc (.v 1) (Zw (.v 0) (ki 1)) (Zw (.v 0) (ki 2))))))
    .nil)
   (.seq (.ite (Vz (Zw (.v 0) (ki 0)) (ks "truth"))
    (Yv (.ret (.pr (.isi .bool) (Ze (.v 1)))))
    .nil)
   (.seq (.ret (.and (Vz (Zw (.v 0) (ki 0)) (ks "text")) (.call "is_text" (Zy (.v 1) (Zw (.v 0) (ki 1))))))
   .nil)))
def Y5:Df:=⟨2,2,Bj⟩
noncomputable def Kz:S:=(Yv (.ret (.ite (Vz (Zw (.v 0) (ki 0)) (ks "truth")) (.tup (Zy (ki 0) (ki 1))) (.tup (Zy (Zw (.v 0) (ki 1)) (Zw (.v 0) (ki 2)))))))
def Jk:Df:=⟨1,1,Kz⟩
noncomputable def Zjg:S:=(Yv (.ret (.pr .all (Ze (.comp (.tup (Zy (.v 0) (.v 1))) (.itr .zip (Zy (.v 0) (.pr (.sl true false) (Zy (.v 0) (ki 1))))) .nil (.pr (.cm .lt) (Zy (.v 0) (.v 1))) [none,none] ["one","other"])))))
def C6:Df:=⟨1,1,Zjg⟩
noncomputable def Kq:S:=(Yv (.ret (.and (.pr (.isi .tuple) (Ze (.v 0))) (.pr .all (Ze (.comp (.v 0) (.v 0) .nil (.and (.pr (.isi .tuple) (Ze (.v 0))) (Vz (W4 (.v 0)) (ki 2))) [none] ["pair"]))))))
def Jg:Df:=⟨1,1,Kq⟩
noncomputable def P9:S:=(Yv (.ret (.and (.pr .all (Ze (.comp (.v 0) (.v 0) .nil (.cal 1 (Ze (.v 0))) [none,some 1] ["thing","is_label"]))) (.call "rises" (Ze (.v 0))))))
def Um:Df:=⟨2,2,P9⟩
def Iy:S:=(Yv (.ret (.call "is_right_through" (Rb (.v 0) (.v 1) (.v 2) (.k (.bl false))))))
def Gp:Df:=⟨3,3,Iy⟩
noncomputable def M9:S:=(.seq (.set 4 (.lst (Ze (.tup (Zy (.v 1) (.v 2))))))
   (.seq (.wh (.io 4)
    (.seq (.set 5 (.mt .pop 4 .nil))
   (.seq (.set 6 (.call "parts_in" (Jc (.call "form_of" (Zy (.v 0) (Zw (.v 5) (ki 0)))) (Zw (.v 5) (ki 1)) (.v 3))))
   (.seq (.ite (.pr (.cm .is) (Zy (.v 6) (.k .non)))
    (Yv (.ret (.k (.bl false))))
    .nil)
   (.seq (.ex (.mt .extend 4 (Ze (.v 6))))
   .nil)))))
   (.seq (.ret (.k (.bl true)))
   .nil)))
def Yo:Df:=⟨7,4,M9⟩
noncomputable def A9:S:=(.seq (.set 3 (Zw (.v 0) (ki 0)))
   (.seq (.ite (Vz (.v 3) (ks "row"))
    (Yv (.ret (.call "parts_in_row" (Zy (.v 0) (.v 1)))))
    .nil)
   (.seq (.ite (Vz (.v 3) (ks "map"))
    (Yv (.ret (.call "parts_in_map" (Zy (.v 0) (.v 1)))))
    .nil)
   (.seq (.ite (Vz (.v 3) (ks "record"))
    (Yv (.ret (.call "parts_in_record" (Jc (.v 0) (.v 1) (.v 2)))))
    .nil)
   (.seq (.ite (Vz (.v 3) (ks "choice"))
    (Yv (.ret (.call "parts_in_choice" (Jc (.v 0) (.v 1) (.v 2)))))
    .nil)
   (.seq (.ret (.ite (.call "is_single_value" (Zy (.v 0) (.v 1))) (.lst .nil) (.k .non)))
   .nil))))))
def Gm:Df:=⟨4,3,A9⟩
noncomputable def Wm:S:=(.seq (.ite (.or (.not (.pr (.isi .tuple) (Ze (.v 1)))) (.pr (.cm .gt) (Zy (W4 (.v 1)) (Zw (.v 0) (ki 2)))))
    (Yv (.ret (.k .non)))
    .nil)
   (.seq (.ret (.comp (.v 0) (.v 1) .nil (.tup (Zy (Zw (.v 1) (ki 1)) (.v 0))) [none,some 0] ["part","shape"]))
   .nil))
def Vr:Df:=⟨2,2,Wm⟩
noncomputable def Wd:S:=(.seq (.ite (.or (.not (.call "are_pairs" (Ze (.v 1)))) (.or (.pr (.cm .gt) (Zy (W4 (.v 1)) (Zw (.v 0) (ki 2)))) (.not (.call "are_labels" (Zy (.comp (.v 0) (.v 1) .nil (Zw (.v 0) (ki 0)) [none] ["pair"]) (.g "is_name"))))))
    (Yv (.ret (.k .non)))
    .nil)
   (.seq (.ret (.comp (.v 0) (.v 1) .nil (.tup (Zy (Zw (.v 1) (ki 1)) (Zw (.v 0) (ki 1)))) [none,some 0] ["pair","shape"]))
   .nil))
def Vs:Df:=⟨2,2,Wd⟩
noncomputable def Ls:S:=(.seq (.ite (.not (.call "is_value" (Jc (.v 3) (.v 4) (.v 5))))
    (Yv (.ret (.k (.bl false))))
    .nil)
   (.seq (.set 6 (.lst (Ze (.tup (Rb (.v 1) (.v 2) (.v 4) (.v 5))))))
   (.seq (.wh (.io 6)
    (.seq (.set 7 (.call "parts_of_both" (Jc (.v 0) (.v 3) (.mt .pop 6 .nil))))
   (.seq (.ite (.pr (.cm .is) (Zy (.v 7) (.k .non)))
    (Yv (.ret (.k (.bl false))))
    .nil)
   (.seq (.ex (.mt .extend 6 (Ze (.v 7))))
   .nil))))
   (.seq (.ret (.k (.bl true)))
   .nil))))
def Vi:Df:=⟨8,6,Ls⟩
noncomputable def Ca:S:=(.seq (.set 3 (.call "form_of" (Zy (.v 0) (Zw (.v 2) (ki 0)))))
   (.seq (.set 4 (.call "form_of" (Zy (.v 1) (Zw (.v 2) (ki 2)))))
   (.seq (.set 5 (Zw (.v 2) (ki 1)))
   (.seq (.set 6 (Zw (.v 2) (ki 3)))
   (.seq (.set 7 (.call "item_sort" (Ze (.v 3))))
   (.seq (.ite (.pr (.cm .ne) (Zy (.call "item_sort" (Ze (.v 4))) (.v 7)))
    (Yv (.ret (.k .non)))
    .nil)
   (.seq (.ite (Vz (.v 7) (ks "row"))
    (Yv (.ret (.call "parts_of_rows" (Rb (.v 3) (.v 5) (.v 4) (.v 6)))))
    .nil)
   (.seq (.ite (Vz (.v 7) (ks "map"))
    (Yv (.ret (.call "parts_of_maps" (Rb (.v 3) (.v 5) (.v 4) (.v 6)))))
    .nil)
   (.seq (.ite (Vz (.v 7) (ks "rec"))
    (Yv (.ret (.call "parts_of_records" (.cons (.v 0) (.cons (.v 3) (.cons (.v 5) (.cons (.v 4) (.cons (.v 6) .nil))))))))
    .nil)
   (.seq (.ite (Vz (.v 7) (ks "arm"))
    (Yv (.ret (.call "parts_of_choices" (.cons (.v 0) (.cons (.v 3) (.cons (.v 5) (.cons (.v 4) (.cons (.v 6) .nil))))))))
    .nil)
   (.seq (.ret (.ite (Vz (.v 5) (.v 6)) (.lst .nil) (.k .non)))
   .nil)))))))))))
def Vf:Df:=⟨8,3,Ca⟩
noncomputable def Cp:S:=(.seq (.ite (.pr (.cm .ne) (Zy (W4 (.v 1)) (W4 (.v 3))))
    (Yv (.ret (.k .non)))
    .nil)
   (.seq (.ret (.comp (.tup (Zy (.v 0) (.v 1))) (.itr .zip (Zy (.v 1) (.v 3))) .nil (.tup (Rb (Zw (.v 2) (ki 1)) (.v 0) (Zw (.v 3) (ki 1)) (.v 1))) [none,none,some 0,some 2] ["part","other_part","shape","other_shape"]))
   .nil))
def Yy:Df:=⟨4,4,Cp⟩
noncomputable def Cu:S:=(.seq (.ite (.pr (.cm .ne) (Zy (.comp (.v 0) (.v 1) .nil (Zw (.v 0) (ki 0)) [none] ["pair"]) (.comp (.v 0) (.v 3) .nil (Zw (.v 0) (ki 0)) [none] ["pair"])))
    (Yv (.ret (.k .non)))
    .nil)
   (.seq (.ret (.call "parts_of_rows" (Rb (.v 0) (.comp (.v 0) (.v 1) .nil (Zw (.v 0) (ki 1)) [none] ["pair"]) (.v 2) (.comp (.v 0) (.v 3) .nil (Zw (.v 0) (ki 1)) [none] ["pair"]))))
   .nil))
def Vg:Df:=⟨4,4,Cu⟩
def Zjf:S:=(Yv (.ret (.or (.pr (.cm .isin) (Zy (.tup (Zy (.v 1) (.v 2))) (Zw (.v 0) (ki 0)))) (.pr (.cm .isin) (Zy (.v 1) (Zw (.v 0) (ki 1)))))))
def C7:Df:=⟨3,3,Zjf⟩
noncomputable def G0:S:=(.seq (.set 4 (.call "form_of" (Zy (.v 0) (Zw (.v 3) (ki 0)))))
   (.seq (.set 5 (.call "form_of" (Zy (.v 1) (Zw (.v 3) (ki 1)))))
   (.seq (.set 6 (.call "item_sort" (Ze (.v 4))))
   (.seq (.ite (.pr (.cm .ne) (Zy (.call "item_sort" (Ze (.v 5))) (.v 6)))
    (Yv (.ret (.k (.bl false))))
    .nil)
   (.seq (.ite (Vz (.v 6) (ks "whole"))
    (.seq (.set 7 (.call "bounds_of" (Ze (.v 4))))
   (.seq (.set 8 (.call "bounds_of" (Ze (.v 5))))
   (.seq (.ret (.and (.pr (.cm .le) (Zy (Zw (.v 8) (ki 0)) (Zw (.v 7) (ki 0)))) (.pr (.cm .le) (Zy (Zw (.v 7) (ki 1)) (Zw (.v 8) (ki 1))))))
   .nil)))
    .nil)
   (.seq (.ite (Vz (.v 6) (ks "text"))
    (Yv (.ret (.pr (.cm .le) (Zy (Zw (.v 4) (ki 1)) (Zw (.v 5) (ki 1))))))
    .nil)
   (.seq (.ite (Vz (.v 6) (ks "rec"))
    (Yv (.ret (.call "are_right_fields" (.cons (.v 0) (.cons (.v 1) (.cons (.v 2) (.cons (.v 4) (.cons (.v 5) .nil))))))))
    .nil)
   (.seq (.ite (Vz (.v 6) (ks "arm"))
    (Yv (.ret (.pr .all (Ze (.comp (.v 0) (Zw (.v 4) (ki 1)) .nil (.call "is_right_arm" (Jc (.v 1) (.v 0) (.v 2))) [none,some 2,some 5] ["arm","paper","other_shape"])))))
    .nil)
   (.seq (.ite (.or (.pr (.cm .isin) (Zy (Zw (.v 4) (ki 1)) (Zw (.v 2) (ki 1)))) (Vz (Zw (.v 4) (ki 2)) (ki 0)))
    (Yv (.ret (.k (.bl true))))
    .nil)
   (.seq (.ret (.and (.pr (.cm .le) (Zy (Zw (.v 4) (ki 2)) (Zw (.v 5) (ki 2)))) (.call "holds" (Jc (.v 2) (Zw (.v 4) (ki 1)) (Zw (.v 5) (ki 1))))))
   .nil))))))))))
def Vb:Df:=⟨9,4,G0⟩
noncomputable def Nz:S:=(.seq (.ite (.not (.call "may_lack" (Zy (.v 3) (.v 4))))
    (Yv (.ret (.k (.bl false))))
    .nil)
   (.seq (.loop (.v 5) (Zw (.v 3) (ki 1))
    (.seq (.set 6 (.call "member_of" (Zy (.v 4) (Zw (.v 5) (ki 0)))))
   (.seq (.ite (.pr (.cm .isnt) (Zy (.v 6) (.k .non)))
    (Yv (.ite (.or (.not (.call "holds" (Jc (.v 2) (Zw (.v 5) (ki 2)) (Zw (.v 6) (ki 2))))) (.not (.call "are_left_out_alike" (Rb (.v 0) (.v 1) (.v 5) (.v 6)))))
    (Yv (.ret (.k (.bl false))))
    .nil))
    .nil)
   .nil)))
   (.seq (.ret (.k (.bl true)))
   .nil)))
def Yi:Df:=⟨7,5,Nz⟩
noncomputable def Iz:S:=(Yv (.ret (.pr .all (Ze (.comp (.v 0) (Zw (.v 1) (ki 1)) .nil (.or (.call "may_be_left_out" (Ze (.v 0))) (.pr (.cm .isnt) (Zy (.call "member_of" (Zy (.v 1) (Zw (.v 0) (ki 0)))) (.k .non)))) [none,some 0] ["field","shape"])))))
def Gd:Df:=⟨2,2,Iz⟩
noncomputable def Dl:S:=(.seq (.ite (.not (.call "may_be_left_out" (Ze (.v 2))))
    (Yv (.ret (.k (.bl true))))
    .nil)
   (.seq (.ite (.not (.call "may_be_left_out" (Ze (.v 3))))
    (Yv (.ret (.k (.bl false))))
    .nil)
   (.seq (.ret (.call "tells_alike" (.cons (.v 0) (.cons (Zw (.v 2) (ki 2)) (.cons (Zw (Zw (.v 2) (ki 3)) (ki 0)) (.cons (.v 1) (.cons (Zw (.v 3) (ki 2)) (.cons (Zw (Zw (.v 3) (ki 3)) (ki 0)) .nil))))))))
   .nil)))
def Yb:Df:=⟨4,4,Dl⟩
noncomputable def Wc:S:=(.seq (.set 3 (.call "member_of" (Zy (.v 2) (Zw (.v 1) (ki 0)))))
   (.seq (.ite (.pr (.cm .is) (Zy (.v 3) (.k .non)))
    (Yv (.ret (.or (.pr (.cm .isin) (Zy (Zw (.v 1) (ki 2)) (Zw (.v 0) (ki 1)))) (Zw (.v 2) (ki 3)))))
    .nil)
   (.seq (.ret (.call "holds" (Jc (.v 0) (Zw (.v 1) (ki 2)) (Zw (.v 3) (ki 2)))))
   .nil)))
def Vh:Df:=⟨4,3,Wc⟩
def Ij:S:=(Yv (.ret (.lst (Rb (.pr (.sl false true) (Zy (.v 0) (ki 63))) (ki 0) (ki 0) (ki 0)))))
def Gn:Df:=⟨1,1,Ij⟩
noncomputable def Gu:S:=(.seq (.set 2 (Zw (.v 0) (ki 0)))
   (.seq (.set 3 (Zw (.v 0) (ki 1)))
   (.seq (.put 0 (ki 1) (N9 (.v 3) (ki 1)))
   (.seq (.wh (.and (Vz (Zw (.v 0) (ki 2)) (ki 0)) (.pr (.cm .lt) (Zy (Zw (.v 0) (ki 3)) (W4 (.v 2)))))
    (.seq (.ite (.pr (.cm .ge) (Zy (.pr .abs (Ze (Zw (.v 2) (Zw (.v 0) (ki 3))))) (.pr (.op .pow) (Zy (ki 10) (ki 18)))))
    (Yv (.put 0 (ki 2) (.pr .abs (Ze (Zw (.v 2) (Zw (.v 0) (ki 3)))))))
    .nil)
   (.seq (.put 0 (ki 3) (N9 (Zw (.v 0) (ki 3)) (ki 1)))
   .nil)))
   (.seq (.ite (.pr (.cm .gt) (Zy (Zw (.v 0) (ki 2)) (ki 0)))
    (.seq (.set 4 (Zw (.v 0) (ki 2)))
   (.seq (.put 0 (ki 2) (.pr (.op .fdiv) (Zy (.v 4) (.v 1))))
   (.seq (.ret (.pr (.op .mod) (Zy (.v 4) (.v 1))))
   .nil)))
    .nil)
   (.seq (.set 5 (ki 0))
   (.seq (.ite (.pr (.cm .gt) (Zy (W4 (.v 2)) (ki 0)))
    (Yv (.set 5 (Zw (.v 2) (.pr (.op .mod) (Zy (.v 3) (W4 (.v 2)))))))
    .nil)
   (.seq (.set 6 (.pr (.op .mod) (Zy (.pr (.op .mul) (Zy (N9 (.pr (.op .mod) (Zy (.v 5) (ki 1000003))) (ki 1)) (N9 (N9 (.pr (.op .mul) (Zy (.pr (.op .mod) (Zy (.v 3) (ki 997))) (ki 7919))) (ki 104729)) (.v 3)))) (ki 1000033))))
   (.seq (.set 6 (.pr (.op .mod) (Zy (N9 (N9 (.pr (.op .mul) (Zy (.v 6) (.v 6))) (.pr (.op .mul) (Zy (ki 3) (.v 6)))) (.v 3)) (ki 999983))))
   (.seq (.ret (.pr (.op .mod) (Zy (.pr (.op .mod) (Zy (.pr (.op .mul) (Zy (.v 6) (ki 48271))) (ki 65537))) (.v 1))))
   .nil))))))))))
def Gs:Df:=⟨7,2,Gu⟩
noncomputable def E4:S:=(.seq (.ite (Vz (Zw (.v 0) (ki 0)) (ks "record"))
    (.seq (.set 2 (.comp (.v 0) (Zw (.v 0) (ki 1)) (Vz (Zw (.v 0) (ki 3)) (.tup .nil)) (.pr .get2 (Jc (.v 1) (Zw (.v 0) (ki 2)) (ki 0))) [none,some 1] ["_law_field","_law_prices_here"]))
   (.seq (.ret (.ite (.pr (.cm .isin) (Zy (ki 0) (.v 2))) (ki 0) (N9 (ki 1) (.pr .sum (Ze (.v 2))))))
   .nil))
    .nil)
   (.seq (.ite (Vz (Zw (.v 0) (ki 0)) (ks "choice"))
    (.seq (.set 2 (.comp (.v 0) (Zw (.v 0) (ki 1)) (.pr (.cm .isin) (Zy (Zw (.v 0) (ki 2)) (.v 1))) (Zw (.v 1) (Zw (.v 0) (ki 2))) [none,some 1] ["_law_arm","_law_prices_here"]))
   (.seq (.ret (.ite (Vz (.v 2) (.lst .nil)) (ki 0) (N9 (ki 1) (.pr .min (Ze (.v 2))))))
   .nil))
    .nil)
   (.seq (.ret (ki 1))
   .nil)))
def U8:Df:=⟨3,2,E4⟩
noncomputable def P8:S:=(.seq (.set 1 (.pr .dnew .nil))
   (.seq (.loop (.v 2) (.itr .rng (Ze (W4 (Zw (.v 0) (ki 1)))))
    (Yv (.loop (.v 3) (.pr .sorted (Ze (Zw (.v 0) (ki 1))))
    (.seq (.set 4 (.call "_law_price" (Zy (Zw (Zw (.v 0) (ki 1)) (.v 3)) (.io 1))))
   (.seq (.ite (.pr (.cm .gt) (Zy (.v 4) (ki 0)))
    (Yv (.put 1 (.v 3) (.pr .min (Zy (.v 4) (.pr .get2 (Jc (.v 1) (.v 3) (.v 4)))))))
    .nil)
   .nil)))))
   (.seq (.ret (.mv 1))
   .nil)))
def Ub:Df:=⟨5,1,P8⟩
noncomputable def T8:S:=(.seq (.ite (.pr (.cm .gt) (Zy (.tmp (.pr .max (Ze (N9 (.lst (Ze (ki 0))) (.pr .lvals (Ze (.call "_law_prices" (Ze (.tup (Zy (.v 0) (.v 1))))))))))) (ki 100)))
    (Yv (.loop (.v 2) (.pr .sorted (Ze (.v 1)))
    (Yv (.ite (Vz (Zw (Zw (.v 1) (.v 2)) (ki 0)) (ks "record"))
    (Yv (.put 1 (.v 2) (.tup (Jc (ks "record") (.pr (.sl false true) (Zy (Zw (Zw (.v 1) (.v 2)) (ki 1)) (ki 1))) (Zw (Zw (.v 1) (.v 2)) (ki 2))))))
    .nil))))
    .nil)
   (.seq (.ret (.tup (Zy (.v 0) (.v 1))))
   .nil))
def Jj:Df:=⟨3,2,T8⟩
noncomputable def Iq:S:=(Yv (.ret (.pr (.join "") (Ze (.comp (.v 0) (.pr .str (Ze (.v 0))) .nil (Zw (ks "abcdefghij") (.pr .int (Ze (.v 0)))) [none] ["_law_sign"])))))
def Gc:Df:=⟨1,1,Iq⟩
noncomputable def E7:S:=(.seq (.set 1 (.lst (.cons (ks "a") (.cons (ks "ab") (.cons (ks "abc") (.cons (ks "form") (.cons (ks "row") (.cons (ks "text") (.cons (ks "must") (.cons (ks "none") (.cons (ks "b") (.cons (ks "map") .nil))))))))))))
   (.seq (.set 2 (.call "_law_draw" (Zy (.io 0) (ki 10))))
   (.seq (.ret (.comp (.v 0) (.itr .rng (Ze (ki 8))) .nil (Zw (.v 1) (.pr (.op .mod) (Zy (N9 (.v 2) (.v 0)) (ki 10)))) [none,some 1,some 2] ["_law_k","_law_pool","_law_turn"]))
   .nil)))
def Jq:Df:=⟨3,1,E7⟩
noncomputable def E5:S:=(.seq (.ite (Vz (.v 1) (ks "whole"))
    (.seq (.set 2 (Zw (.lst (.cons (ki 0) (.cons (ki 1) (.cons (.pr .neg (Ze (ki 2))) (.cons (ki 7) (.cons (.pr .neg (Ze (.pr (.op .pow) (Zy (ki 10) (ki 18))))) .nil)))))) (.call "_law_draw" (Zy (.io 0) (ki 5)))))
   (.seq (.ret (.tup (Jc (ks "whole") (.v 2) (.pr .min (Zy (.pr (.op .pow) (Zy (ki 10) (ki 18))) (N9 (.v 2) (Zw (.lst (Rb (ki 0) (ki 1) (ki 5) (.pr (.op .pow) (Zy (ki 10) (ki 18))))) (.call "_law_draw" (Zy (.io 0) (ki 4))))))))))
   .nil))
    .nil)
   (.seq (.ret (.ite (Vz (.v 1) (ks "text")) (.tup (Zy (.v 1) (Zw (.lst (Rb (ki 0) (ki 1) (ki 3) (ki 200))) (.call "_law_draw" (Zy (.io 0) (ki 4)))))) (.tup (Ze (.v 1)))))
   .nil))
def U9:Df:=⟨3,2,E5⟩
noncomputable def Lp:S:=(.seq (.ite (.or (.pr (.cm .isin) (Zy (Zw (.v 1) (ki 0)) (.tup (Zy (ks "record") (ks "choice"))))) (Vz (.call "_law_draw" (Zy (.io 0) (ki 2))) (ki 0)))
    (Yv (.ret (.tup .nil)))
    .nil)
   (.seq (.ite (Vz (Zw (.v 1) (ki 0)) (ks "whole"))
    (Yv (.ret (.tup (Ze (Zw (.v 1) (N9 (ki 1) (.call "_law_draw" (Zy (.io 0) (ki 2)))))))))
    .nil)
   (.seq (.ite (Vz (Zw (.v 1) (ki 0)) (ks "text"))
    (Yv (.ret (.tup (Ze (.pr (.op .mul) (Zy (Zw (ks "ab") (.call "_law_draw" (Zy (.io 0) (ki 2)))) (.pr .min (Zy (Zw (.v 1) (ki 1)) (.call "_law_draw" (Zy (.io 0) (ki 3)))))))))))
    .nil)
   (.seq (.ret (.ite (Vz (Zw (.v 1) (ki 0)) (ks "truth")) (.tup (Ze (Vz (.call "_law_draw" (Zy (.io 0) (ki 2))) (ki 1)))) (.tup (Ze (.tup .nil)))))
   .nil))))
def V0:Df:=⟨2,2,Lp⟩
noncomputable def Lh:S:=(.seq (.set 1 (.comp (.v 0) (.lst (.cons (ki 1) (.cons (ki 2) (.cons (ki 9) (.cons (ki 10) (.cons (ki 99) (.cons (ki 100) (.cons (ki 999) .nil)))))))) (Vz (.call "_law_draw" (Zy (.io 1) (ki 2))) (ki 0)) (.v 0) [none,some 0] XN))
   (.seq (.ret (.ite (Vz (.call "_law_draw" (Zy (.io 0) (ki 8))) (ki 0)) (.pr (.sl false true) (Zy (.v 1) (ki 8))) (.pr (.sl false true) (Zy (.v 1) (ki 3)))))
   .nil))
def Ve:Df:=⟨2,1,Lh⟩
noncomputable def E6:S:=(.seq (.set 4 (.lst .nil))
   (.seq (.loop (.v 5) (.call "_law_numbers" (Ze (.io 0)))
    (.seq (.set 6 (Zw (.v 1) (.call "_law_draw" (Zy (.io 0) (W4 (.v 1))))))
   (.seq (.set 7 (.tup (Jc (.v 5) (N9 (Zw (.lst (Zy (ks "f") (ks "g"))) (.call "_law_draw" (Zy (.io 0) (ki 2)))) (.call "_law_word" (Ze (.v 5)))) (.v 6))))
   (.seq (.ite (Vz (.v 3) (ks "record"))
    (Yv (.set 7 (N9 (.v 7) (.tup (Ze (.call "_law_default" (Zy (.io 0) (.pr .get2 (Jc (.v 2) (.v 6) (.pr .tup1 (Ze (.v 3))))))))))))
    .nil)
   (.seq (.ex (.mt .append 4 (Ze (.v 7))))
   .nil)))))
   (.seq (.ret (.pr .tuple (Ze (.v 4))))
   .nil)))
def Jz:Df:=⟨8,4,E6⟩
noncomputable def P7:S:=(.seq (.set 2 (.comp (.v 0) (.v 1) .nil (Zw (.v 0) (ki 0)) [none] ["_law_part"]))
   (.seq (.ret (.pr .tuple (Ze (.comp (.v 0) (.lst (Rb (ki 2) (ki 3) (ki 10) (ki 998))) (.and (.pr (.cm .notin) (Zy (.v 0) (.v 1))) (Vz (.call "_law_draw" (Zy (.io 2) (ki 4))) (ki 0))) (.v 0) [none,some 2,some 0] ["_law_number","_law_mine","_law_tape_here"]))))
   .nil))
def Ug:Df:=⟨3,2,P7⟩
noncomputable def Iw:S:=(.seq (.set 1 (.pr (.sl false true) (Zy (.call "_law_names" (Ze (.io 0))) (Zw (.lst (.cons (ki 1) (.cons (ki 2) (.cons (ki 3) (.cons (ki 3) (.cons (ki 4) (.cons (ki 5) (.cons (ki 6) (.cons (ki 8) .nil))))))))) (.call "_law_draw" (Zy (.io 0) (ki 8)))))))
   (.seq (.set 2 (.lst (.cons (ks "record") (.cons (ks "choice") (.cons (ks "row") (.cons (ks "whole") (.cons (ks "text") (.cons (ks "record") (.cons (ks "map") (.cons (ks "truth") (.cons (ks "choice") (.cons (ks "record") .nil))))))))))))
   (.seq (.set 3 (.comp (.v 0) (.v 1) .nil (Zw (.v 1) (.call "_law_draw" (Zy (.io 2) (ki 10)))) [none,some 2,some 0] ["_law_name","_law_sorts","_law_tape_here"]))
   (.seq (.set 4 (.pr .dnew .nil))
   (.seq (.loop (.tup (Zy (.v 5) (.v 6))) (.itr .zip (Zy (.v 1) (.v 3)))
    (.seq (.ite (.pr (.cm .isin) (Zy (.v 6) (.tup (Jc (ks "whole") (ks "truth") (ks "text")))))
    (Yv (.put 4 (.v 5) (.call "_law_plain" (Zy (.io 0) (.v 6)))))
    .nil)
   (.seq (.ite (.pr (.cm .isin) (Zy (.v 6) (.tup (Zy (ks "row") (ks "map")))))
    (Yv (.put 4 (.v 5) (.tup (Jc (.v 6) (Zw (.v 1) (.call "_law_draw" (Zy (.io 0) (W4 (.v 1))))) (Zw (.lst (Rb (ki 0) (ki 1) (ki 2) (ki 20))) (.call "_law_draw" (Zy (.io 0) (ki 4))))))))
    .nil)
   .nil)))
   (.seq (.set 7 (.pr .dict (Ze (.v 4))))
   (.seq (.loop (.tup (Zy (.v 5) (.v 6))) (.itr .zip (Zy (.v 1) (.v 3)))
    (.seq (.ite (.pr (.cm .isin) (Zy (.v 6) (.tup (Zy (ks "record") (ks "choice")))))
    (.seq (.set 8 (.call "_law_parts" (Rb (.io 0) (.v 1) (.v 4) (.v 6))))
   (.seq (.put 7 (.v 5) (.tup (Jc (.v 6) (.v 8) (.call "_law_struck" (Zy (.io 0) (.v 8))))))
   .nil))
    .nil)
   (.seq (.ite (Vz (.v 6) (ks "choice"))
    (Yv (.put 7 (.v 5) (N9 (Zw (.v 7) (.v 5)) (.tup (Ze (Vz (.call "_law_draw" (Zy (.io 0) (ki 2))) (ki 1)))))))
    .nil)
   .nil)))
   (.seq (.ret (.call "_law_light" (Zy (Zw (.v 1) (.call "_law_draw" (Zy (.io 0) (W4 (.v 1))))) (.io 7))))
   .nil))))))))
def Gr:Df:=⟨9,1,Iw⟩
noncomputable def Mf:S:=(Yv (.ret (.pr .max (Zy (.v 2) (.pr .min (Zy (.v 3) (N9 (.v 1) (Zw (.lst (Rb (ki 1) (.pr .neg (Ze (ki 1))) (ki 0) (ki 2))) (.call "_law_draw" (Zy (.io 0) (ki 4)))))))))))
def Yc:Df:=⟨4,4,Mf⟩
noncomputable def Zf:S:=(.seq (.ite (Vz (Zw (.v 2) (ki 0)) (ks "whole"))
    (.seq (.set 3 (.comp (.v 0) (.pr (.sl true false) (Zy (.v 2) (ki 1))) .nil (.call "_law_number_turned" (Rb (.io 1) (.v 0) (.pr .neg (Ze (.pr (.op .pow) (Zy (ki 10) (ki 18))))) (.pr (.op .pow) (Zy (ki 10) (ki 18))))) [none,some 0] XN))
   (.seq (.ret (.tup (Jc (ks "whole") (.pr .min (Ze (.v 3))) (.pr .max (Ze (.v 3))))))
   .nil))
    .nil)
   (.seq (.ite (Vz (Zw (.v 2) (ki 0)) (ks "text"))
    (Yv (.ret (.tup (Zy (ks "text") (.call "_law_number_turned" (Rb (.io 0) (Zw (.v 2) (ki 1)) (ki 0) (ki 200)))))))
    .nil)
   (.seq (.ite (Vz (Zw (.v 2) (ki 0)) (ks "truth"))
    (Yv (.ret (Zw (.lst (Jc (.v 2) (.tup (Jc (ks "whole") (ki 0) (ki 1))) (.tup (Jc (ks "whole") (ki 0) (ki 2))))) (.call "_law_draw" (Zy (.io 0) (ki 3))))))
    .nil)
   (.seq (.ite (.pr (.cm .isin) (Zy (Zw (.v 2) (ki 0)) (.tup (Zy (ks "row") (ks "map")))))
    (.seq (.set 4 (Zw (.lst (Zy (Zw (.v 2) (ki 1)) (Zw (.v 1) (.call "_law_draw" (Zy (.io 0) (W4 (.v 1))))))) (.pr .int (Ze (Vz (.call "_law_draw" (Zy (.io 0) (ki 3))) (ki 0))))))
   (.seq (.ret (.tup (Jc (Zw (.v 2) (ki 0)) (.v 4) (.call "_law_number_turned" (Rb (.io 0) (Zw (.v 2) (ki 2)) (ki 0) (ki 20))))))
   .nil))
    .nil)
   (.seq (.set 5 (.pr .list (Ze (Zw (.v 2) (ki 1)))))
   (.seq (.set 6 (.call "_law_draw" (Zy (.io 0) (N9 (W4 (.v 5)) (ki 1)))))
   (.seq (.set 7 (.call "_law_draw" (Zy (.io 0) (ki 4))))
   (.seq (.ite (.and (Vz (.v 7) (ki 0)) (.pr (.cm .lt) (Zy (.v 6) (W4 (.v 5)))))
    (Yv (.ex (.mt .popAt 5 (Ze (.v 6)))))
    (Yv (.ite (.and (.pr (.cm .lt) (Zy (.v 7) (ki 3))) (.pr (.cm .lt) (Zy (.v 6) (W4 (.v 5)))))
    (.seq (.set 4 (Zw (.lst (Zy (Zw (Zw (.v 5) (.v 6)) (ki 2)) (Zw (.v 1) (.call "_law_draw" (Zy (.io 0) (W4 (.v 1))))))) (.pr .int (Ze (Vz (.call "_law_draw" (Zy (.io 0) (ki 3))) (ki 0))))))
   (.seq (.put 5 (.v 6) (N9 (.tup (Jc (Zw (Zw (.v 5) (.v 6)) (ki 0)) (N9 (ks "h") (.call "_law_word" (Ze (Zw (Zw (.v 5) (.v 6)) (ki 0))))) (.v 4))) (.pr (.sl true false) (Zy (Zw (.v 5) (.v 6)) (ki 3)))))
   (.seq (.ite (.and (Vz (Zw (.v 2) (ki 0)) (ks "record")) (Vz (.call "_law_draw" (Zy (.io 0) (ki 2))) (ki 0)))
    (.seq (.set 3 (Zw (.lst (Jc (.tup (Ze (ki 0))) (.tup (Ze (ki 9))) (.tup (Ze (.pr (.op .mul) (Zy (ks "b") (ki 9))))))) (.call "_law_draw" (Zy (.io 0) (ki 3)))))
   (.seq (.put 5 (.v 6) (N9 (.pr (.sl false true) (Zy (Zw (.v 5) (.v 6)) (ki 3))) (.tup (Ze (Zw (.lst (Zy (.tup .nil) (.v 3))) (.pr .int (Ze (Vz (Zw (Zw (.v 5) (.v 6)) (ki 3)) (.tup .nil)))))))))
   .nil))
    .nil)
   .nil)))
    (.seq (.set 8 (Zw (.lst (.cons (ki 1) (.cons (ki 2) (.cons (ki 3) (.cons (ki 9) (.cons (ki 10) (.cons (ki 500) .nil))))))) (.call "_law_draw" (Zy (.io 0) (ki 6)))))
   (.seq (.set 9 (.tup (Jc (.v 8) (N9 (ks "k") (.call "_law_word" (Ze (.v 8)))) (Zw (.v 1) (.call "_law_draw" (Zy (.io 0) (W4 (.v 1))))))))
   (.seq (.ite (Vz (Zw (.v 2) (ki 0)) (ks "record"))
    (Yv (.set 9 (N9 (.v 9) (.tup (Ze (Zw (.lst (Zy (.tup .nil) (.tup (Ze (ki 0))))) (.call "_law_draw" (Zy (.io 0) (ki 2)))))))))
    .nil)
   (.seq (.ite (.and (.tmp (.pr (.cm .notin) (Zy (.v 8) (.comp (.v 0) (.v 5) .nil (Zw (.v 0) (ki 0)) [none] ["_law_part"])))) (.pr (.cm .lt) (Zy (W4 (.v 5)) (ki 8))))
    (Yv (.ex (.mt .append 5 (Ze (.v 9)))))
    .nil)
   .nil)))))))
   (.seq (.set 10 (.comp (.v 0) (.v 5) .nil (Zw (.v 0) (ki 0)) [none] ["_law_part"]))
   (.seq (.set 11 (.pr .tuple (Ze (.comp (.v 0) (Zw (.v 2) (ki 2)) (.pr (.cm .notin) (Zy (.v 0) (.v 1))) (.v 0) [none,some 10] ["_law_number","_law_mine"]))))
   (.seq (.set 12 (.tup (Jc (Zw (.v 2) (ki 0)) (.pr .tuple (Ze (.pr .sorted (Ze (.v 5))))) (.v 11))))
   (.seq (.ret (.ite (Vz (Zw (.v 2) (ki 0)) (ks "record")) (.v 12) (N9 (.v 12) (.tup (Ze (.pr (.cm .ne) (Zy (Zw (.v 2) (ki 3)) (Vz (.call "_law_draw" (Zy (.io 0) (ki 3))) (ki 0)))))))))
   .nil))))))))))))
def Yu:Df:=⟨13,3,Zf⟩
noncomputable def E9:S:=(.seq (.ite (.pr (.cm .ne) (Zy (Zw (.v 1) (ki 0)) (ks "record")))
    (Yv (.ret (.mv 1)))
    .nil)
   (.seq (.set 2 (.lst .nil))
   (.seq (.loop (.tup (Rb (.v 3) (.v 4) (.v 5) (.v 6))) (Zw (.v 1) (ki 1))
    (.seq (.set 7 (Zw (.v 0) (.v 5)))
   (.seq (.ite (.pr (.cm .isin) (Zy (Zw (.v 7) (ki 0)) (.tup (Zy (ks "record") (ks "choice")))))
    (Yv (.set 6 (.tup .nil)))
    .nil)
   (.seq (.ite (.and (.pr (.cm .ne) (Zy (.v 6) (.tup .nil))) (Vz (Zw (.v 7) (ki 0)) (ks "whole")))
    (Yv (.set 6 (.tup (Ze (N9 (.pr .max (Zy (Zw (.v 7) (ki 1)) (.pr .min (Zy (Zw (.v 7) (ki 2)) (.ite (.pr (.isi .int) (Ze (Zw (.v 6) (ki 0)))) (Zw (.v 6) (ki 0)) (ki 0)))))) (ki 0))))))
    .nil)
   (.seq (.ite (.and (.pr (.cm .ne) (Zy (.v 6) (.tup .nil))) (Vz (Zw (.v 7) (ki 0)) (ks "truth")))
    (Yv (.set 6 (.tup (Ze (Vz (Zw (.v 6) (ki 0)) (ki 1))))))
    .nil)
   (.seq (.ite (.and (.pr (.cm .ne) (Zy (.v 6) (.tup .nil))) (Vz (Zw (.v 7) (ki 0)) (ks "text")))
    (Yv (.set 6 (.tup (Ze (.pr (.sl false true) (Zy (.ite (.pr (.isi .str) (Ze (Zw (.v 6) (ki 0)))) (Zw (.v 6) (ki 0)) (ks "")) (Zw (.v 7) (ki 1))))))))
    .nil)
   (.seq (.ite (.and (.pr (.cm .ne) (Zy (.v 6) (.tup .nil))) (.pr (.cm .isin) (Zy (Zw (.v 7) (ki 0)) (.tup (Zy (ks "row") (ks "map"))))))
    (Yv (.set 6 (.tup (Ze (.tup .nil)))))
    .nil)
   (.seq (.ex (.mt .append 2 (Ze (.tup (Rb (.v 3) (.v 4) (.v 5) (.v 6))))))
   .nil))))))))
   (.seq (.ret (.tup (Jc (ks "record") (.pr .tuple (Ze (.v 2))) (Zw (.v 1) (ki 2)))))
   .nil))))
def Jv:Df:=⟨8,2,E9⟩
noncomputable def P6:S:=(.seq (.set 2 (.pr .sorted (Ze (Zw (.v 1) (ki 1)))))
   (.seq (.set 3 (.pr .dict (Ze (Zw (.v 1) (ki 1)))))
   (.seq (.loop (.v 4) (.itr .rng (Ze (Zw (.lst (.cons (ki 0) (.cons (ki 1) (.cons (ki 2) (.cons (ki 3) (.cons (ki 6) (.cons (ki 12) .nil))))))) (.call "_law_draw" (Zy (.io 0) (ki 6))))))
    (.seq (.set 5 (Zw (.v 2) (.call "_law_draw" (Zy (.io 0) (W4 (.v 2))))))
   (.seq (.put 3 (.v 5) (.call "_law_shape_turned" (Jc (.io 0) (.v 2) (Zw (.v 3) (.v 5)))))
   .nil)))
   (.seq (.loop (.v 5) (.v 2)
    (Yv (.put 3 (.v 5) (.call "_law_fixed" (Zy (.io 3) (Zw (.v 3) (.v 5)))))))
   (.seq (.ret (.call "_law_light" (Zy (Zw (.v 1) (ki 0)) (.io 3))))
   .nil)))))
def Uk:Df:=⟨6,2,P6⟩
def E8:S:=(Yv (.ret (.or (.pr (.cm .isin) (Zy (.tup (Zy (.v 1) (.v 2))) (Zw (.v 0) (ki 0)))) (.pr (.cm .isin) (Zy (.v 1) (Zw (.v 0) (ki 1)))))))
def Jw:Df:=⟨3,3,E8⟩
noncomputable def T9:S:=(.seq (.ite (.pr (.cm .notin) (Zy (.tup .nil) (.comp (.v 0) (.v 0) .nil (.call "_law_bounds" (Ze (.v 0))) [none] XR)))
    (Yv (.ret (Vz (.pr .int (Ze (.v 1))) (.pr .int (Ze (.v 2))))))
    .nil)
   (.seq (.ret (.and (Vz (Zw (Zw (.v 0) (ki 0)) (ki 0)) (Zw (Zw (.v 0) (ki 1)) (ki 0))) (Vz (.v 1) (.v 2))))
   .nil))
def Jy:Df:=⟨3,3,T9⟩
noncomputable def M8:S:=(.seq (.set 5 (.pr .dict (Ze (.comp (.v 0) (Zw (.v 3) (ki 1)) .nil (.tup (Zy (Zw (.v 0) (ki 0)) (.v 0))) [none] ["_law_field"]))))
   (.seq (.loop (.tup (Rb (.v 6) (.v 7) (.v 8) (.v 9))) (Zw (.v 4) (ki 1))
    (Yv (.ite (.pr (.cm .notin) (Zy (.v 6) (.v 5)))
    (Yv (.ite (Vz (.v 9) (.tup .nil))
    (Yv (.ret (.k (.bl false))))
    .nil))
    (.seq (.unp (.tup (Zy (.v 10) (.v 11))) (.pr (.sl true false) (Zy (Zw (.v 5) (.v 6)) (ki 2))))
   (.seq (.ite (.or (.not (.call "_law_holds" (Jc (.v 2) (.v 10) (.v 8)))) (.and (.pr (.cm .ne) (Zy (.v 11) (.tup .nil))) (Vz (.v 9) (.tup .nil))))
    (Yv (.ret (.k (.bl false))))
    .nil)
   (.seq (.set 12 (.tup (Zy (Zw (Zw (.v 0) (ki 1)) (.v 10)) (Zw (Zw (.v 1) (ki 1)) (.v 8)))))
   (.seq (.ite (.and (.pr (.cm .ne) (Zy (.v 11) (.tup .nil))) (.not (.call "_law_alike" (Jc (.v 12) (Zw (.v 11) (ki 0)) (Zw (.v 9) (ki 0))))))
    (Yv (.ret (.k (.bl false))))
    .nil)
   .nil)))))))
   (.seq (.ret (.k (.bl true)))
   .nil)))
def Ya:Df:=⟨13,5,M8⟩
noncomputable def Z2:S:=(.seq (.set 5 (Zw (Zw (.v 0) (ki 1)) (.v 3)))
   (.seq (.set 6 (Zw (Zw (.v 1) (ki 1)) (.v 4)))
   (.seq (.set 7 (.lst (Zy (.call "_law_bounds" (Ze (.v 5))) (.call "_law_bounds" (Ze (.v 6))))))
   (.seq (.ite (.pr (.cm .notin) (Zy (.tup .nil) (.v 7)))
    (Yv (.ret (.and (.pr (.cm .le) (Zy (Zw (Zw (.v 7) (ki 1)) (ki 0)) (Zw (Zw (.v 7) (ki 0)) (ki 0)))) (.pr (.cm .le) (Zy (Zw (Zw (.v 7) (ki 0)) (ki 1)) (Zw (Zw (.v 7) (ki 1)) (ki 1)))))))
    .nil)
   (.seq (.ite (.pr (.cm .ne) (Zy (Zw (.v 5) (ki 0)) (Zw (.v 6) (ki 0))))
    (Yv (.ret (.k (.bl false))))
    .nil)
   (.seq (.ite (Vz (Zw (.v 5) (ki 0)) (ks "text"))
    (Yv (.ret (.pr (.cm .le) (Zy (Zw (.v 5) (ki 1)) (Zw (.v 6) (ki 1))))))
    .nil)
   (.seq (.ite (.pr (.cm .isin) (Zy (Zw (.v 5) (ki 0)) (.tup (Zy (ks "row") (ks "map")))))
    (.seq (.set 8 (.and (.pr (.cm .le) (Zy (Zw (.v 5) (ki 2)) (Zw (.v 6) (ki 2)))) (.call "_law_holds" (Jc (.v 2) (Zw (.v 5) (ki 1)) (Zw (.v 6) (ki 1))))))
   (.seq (.ret (.or (.pr (.cm .isin) (Zy (Zw (.v 5) (ki 1)) (Zw (.v 2) (ki 1)))) (.or (Vz (Zw (.v 5) (ki 2)) (ki 0)) (.v 8))))
   .nil))
    .nil)
   (.seq (.ite (Vz (Zw (.v 5) (ki 0)) (ks "record"))
    (Yv (.ret (.call "_law_fields_right" (.cons (.v 0) (.cons (.v 1) (.cons (.v 2) (.cons (.v 5) (.cons (.v 6) .nil))))))))
    .nil)
   (.seq (.set 9 (.pr .dict (Ze (.comp (.v 0) (Zw (.v 6) (ki 1)) .nil (.pr .sl2 (Ze (.v 0))) [none] ["_law_arm"]))))
   (.seq (.loop (.tup (Jc (.v 10) (.v 11) (.v 12))) (Zw (.v 5) (ki 1))
    (.seq (.set 8 (.ite (.pr (.cm .isin) (Zy (.v 10) (.v 9))) (.call "_law_holds" (Jc (.v 2) (.v 12) (Zw (.v 9) (.v 10)))) (Zw (.v 6) (ki 3))))
   (.seq (.ite (.and (.pr (.cm .notin) (Zy (.v 12) (Zw (.v 2) (ki 1)))) (.not (.v 8)))
    (Yv (.ret (.k (.bl false))))
    .nil)
   .nil)))
   (.seq (.ret (.k (.bl true)))
   .nil)))))))))))
def Vx:Df:=⟨13,5,Z2⟩
noncomputable def T7:S:=(.seq (.set 3 (N9 (ki 1) (.call "_law_draw" (Zy (.io 0) (ki 4)))))
   (.seq (.set 4 (.lst .nil))
   (.seq (.loop (.v 5) (.pr .sorted (Ze (Zw (.v 1) (ki 1))))
    (Yv (.ex (.mt .extend 4 (Ze (.comp (.v 0) (.pr .sorted (Ze (Zw (.v 2) (ki 1)))) (Vz (.call "_law_draw" (Zy (.io 2) (.v 3))) (ki 0)) (.tup (Zy (.v 1) (.v 0))) [none,some 5,some 0,some 3] ["_law_r","_law_w","_law_tape_here","_law_often"]))))))
   (.seq (.ite (Vz (.call "_law_draw" (Zy (.io 0) (ki 2))) (ki 0))
    (Yv (.set 4 (N9 (.comp (.v 0) (.pr .sorted (Ze (Zw (.v 1) (ki 1)))) (.and (.pr (.cm .isin) (Zy (.v 0) (Zw (.v 2) (ki 1)))) (.pr (.cm .notin) (Zy (.tup (Zy (.v 0) (.v 0))) (.v 1)))) (.tup (Zy (.v 0) (.v 0))) [none,some 4,some 2] ["_law_w","_law_pairs","_law_other"]) (.v 4))))
    .nil)
   (.seq (.ret (.tup (Zy (.pr .tuple (Ze (.pr (.sl false true) (Zy (.v 4) (ki 64))))) (.pr .tuple (Ze (.comp (.v 0) (.pr .sorted (Ze (Zw (.v 1) (ki 1)))) (Vz (.call "_law_draw" (Zy (.io 1) (ki 4))) (ki 0)) (.v 0) [none,some 0] ["_law_w","_law_tape_here"]))))))
   .nil)))))
def Jx:Df:=⟨6,3,T7⟩
noncomputable def E3:S:=(.seq (.loop (.v 3) (.itr .rng (Ze (ki 3)))
    (.seq (.set 4 (.call "_law_paper" (Jc (.io 0) (.v 1) (.v 2))))
   (.seq (.loop (.v 5) (.pr .sorted (Ze (Zw (.v 1) (ki 1))))
    (Yv (.loop (.v 6) (.pr .sorted (Ze (Zw (.v 2) (ki 1))))
    (.seq (.set 7 (.call "is_right_pair" (Rb (.v 1) (.v 2) (.v 4) (.tup (Zy (.v 5) (.v 6))))))
   (.seq (.ite (.or (.not (.pr (.isi .bool) (Ze (.v 7)))) (.pr (.cm .ne) (Zy (.v 7) (.call "_law_pair_right" (.cons (.v 1) (.cons (.v 2) (.cons (.v 4) (.cons (.v 5) (.cons (.v 6) .nil)))))))))
    (Yv (.ret (.k (.bl false))))
    .nil)
   .nil)))))
   .nil)))
   (.seq (.ret (.k (.bl true)))
   .nil))
def U7:Df:=⟨8,3,E3⟩
noncomputable def Zws:S:=(.seq (.set 1 (.call "_law_tape" (Ze (.v 0))))
   (.seq (.set 2 (.call "_law_make" (Ze (.io 1))))
   (.seq (.set 3 (.call "_law_turned" (Zy (.io 1) (.v 2))))
   (.seq (.ite (Vz (.call "_law_draw" (Zy (.io 1) (ki 6))) (ki 0))
    (Yv (.set 3 (.call "_law_make" (Ze (.io 1)))))
    .nil)
   (.seq (.ret (.and (.call "_law_right" (Jc (.io 1) (.v 2) (.v 3))) (.call "_law_right" (Jc (.io 1) (.v 3) (.v 2)))))
   .nil)))))
def Wq:Df:=⟨4,1,Zws⟩
theorem Sd{c:Prop}[Decidable c]{Z:Type}{a:Z}{o:Option Z}{Q:Z->Prop}(h:c)(q:Q a):on (if c then some a else o) Q:=by rw[if_pos h];exact q
theorem Zk{b:Bool}{A B:Prop}(h:b=true->A)(h':b=false->B):if b=true then A else B:=by
 cases b with
 | true=>exact h rfl
 | false=>exact h' rfl
theorem Zx4{a b:Int}{Q:Sl->Prop}(h:0<=a/\a<2 ^ 64)(q:Q (.f (.int (a*b)))):on (opT .mul (.int a) (.int b)) Q:=Sd (.inl ⟨by omega,h.2⟩) q
theorem modP{a b:Int}{Q:Sl->Prop}(h:0<b)(q:Q (.f (.int (a % b)))):on (opT .mod (.int a) (.int b)) Q:=Sd h q
theorem divP{a b:Int}{Q:Sl->Prop}(h:0<b/\b<1073741824)(q:Q (.f (.int (a / b)))):on (opT .fdiv (.int a) (.int b)) Q:=Sd h q
theorem Ui{ts:ZZ}{x:T}{Q:T×T->Prop}(h:ts.length<sizeLine)(q:Q (.lst (ts++[x]),.non)):on (mtT .append (.lst ts) [x]) Q:=Sd h q
noncomputable def Zm(zs:ZL)(i l k:Int):T:=.lst [.lst (zs.map .int),.int i,.int l,.int k]
def TP(t:T):Prop:=∃zs i l k,t=Zm zs i l k/\zs.length<=63/\0<=i/\0<=l/\0<=k/\k<=zs.length
def Uj(C:Cs):Prop:=∀(t:T) (m:Int),TP t->0<m->m<=1000000->on (C "_law_draw" [.o t,.f (.int m)]) λx=>∃r t',0<=r/\r<m/\TP t'/\x=(.f (.int r),[t'])
theorem Zn{C:Cs}(h:Uj C){t:T}{m:Int}{Q:Sl×ZZ->Prop}(tp:TP t)(m0:0<m)(m1:m<=1000000)(q:∀r zs i l k,0<=r->r<m->TP (Zm zs i l k)->Q (.f (.int r),[Zm zs i l k])):on (C "_law_draw" [.o t,.f (.int m)]) Q :=
 Zx (h t m tp m0 m1) λx ⟨r,t',h1,h2,h3,e⟩=>by
  obtain⟨zs,i,l,k,e',g⟩:=id h3;rw[e,e'];exact q r zs i l k h1 h2 (e' ▸ h3)
theorem ig{w:W}(zs:ZL):wF Gn w [.f (.lst (zs.map .int))] λx=>∃t,TP t/\x=(.o t,[]):=by
 refine Yz rfl λD rt _=>?_
 have e:G6 (zs.map T.int) none (some 63)=(zs.take 63).map .int:=by
  unfold G6;rw[show HT.Y7 (zs.map T.int).length 0 none=0 from rfl,show HT.Y7 (zs.map T.int).length (zs.map T.int).length (some (63:Int))=min 63 (zs.map T.int).length from HT.C0 _ _ 63,List.drop_zero,Nat.sub_zero,List.map_take,Vq];rcases Nat.le_total 63 zs.length with h | h
  .rw[Nat.min_eq_left h]
  .rw[Nat.min_eq_right h,T0l (by rw[Vq];exact Vy _),T0l (by rw[Vq];exact h)]
 exact rt _ _ ⟨.lst [.lst (G6 (zs.map .int) none (some 63)),.int 0,.int 0,.int 0],⟨zs.take 63,0,0,0,by rw[e];rfl,by rw[L0t];omega,by omega,by omega,by omega,by omega⟩,rfl⟩
noncomputable def Yd:Nat->S->S
 | 0,s=>s
 | n+1,.seq _ r=>Yd n r
 | _,s=>s
theorem vw{w:W}{pt:Nat->Bool}{R:S}{D:En}{zs:ZL}{i l k m:Int}(h2:pt 2=false)(h3:pt 3=false)(h:wS w pt R [.o (Zm zs (i+1) l k),.f (.int m),.f (.lst (zs.map .int)),.f (.int i),.no,.no,.no] D) :
  wS w pt (.seq (.set 2 (Zw (.v 0) (ki 0))) (.seq (.set 3 (Zw (.v 0) (ki 1))) (.seq (.put 0 (ki 1) (N9 (.v 3) (ki 1))) R))) [.o (Zm zs i l k),.f (.int m),.no,.no,.no,.no,.no] D:=by
 show if pt 2=true then False else _
 rw[if_neg (by rw[h2];exact Nj)];show if pt 3=true then False else _
 rw[if_neg (by rw[h3];exact Nj)];exact h
theorem Zjq{w:W}{zs:ZL}{i l k m:Int}(hz:zs.length<=63)(i0:0<=i)(l0:0<=l)(k0:0<=k)(k1:k<=zs.length)(m0:0<m)(m1:m<=1000000) :
  wF Gs w [.o (Zm zs i l k),.f (.int m)] λx=>∃r t',0<=r/\r<m/\TP t'/\x=(.f (.int r),[t']):=by
 refine Yz rfl λD rt _=>?_;have hl:(zs.map T.int).length=zs.length:=Vq _
 have fin:∀l' k':Int,0<=l'->0<=k'->k'<=zs.length->wS w (Vw [.o (Zm zs i l k),.f (.int m)]) (Yd 4 Gu) [.o (Zm zs (i+1) l' k'),.f (.int m),.f (.lst (zs.map .int)),.f (.int i),.no,.no,.no] D:=λl' k' l0 k0 k1=>by
  refine Zk (b:=decide (0<l')) (λh=>?_) λh=>?_
  .refine divP ⟨m0,by omega⟩ ?_;refine modP m0 ?_;exact rt _ _ ⟨l' % m,_,Int.emod_nonneg _ XS,Int.emod_lt_of_pos _ m0,⟨zs,i+1,l' / m,k',rfl,hz,by omega,Int.ediv_nonneg l0 XS,k0,k1⟩,rfl⟩
  .have end_:∀(c:Int),wS w (Vw [.o (Zm zs i l k),.f (.int m)]) (Yd 7 Gu) [.o (Zm zs (i+1) l' k'),.f (.int m),.f (.lst (zs.map .int)),.f (.int i),.no,.f (.int c),.no] D:=λc=>by
    have a0:=Int.emod_nonneg c (show (1000003:Int)≠0 by omega);have a1:=Int.emod_lt_of_pos c (show (0:Int)<1000003 by omega);have b0:=Int.emod_nonneg i (show (997:Int)≠0 by omega);have b1:=Int.emod_lt_of_pos i (show (0:Int)<997 by omega);refine Zx4 (a:=i % 997) ⟨b0,by omega⟩ ?_;refine Zx4 (a:=c % 1000003+1) ⟨by omega,by omega⟩ ?_;have x0:0<=(c % 1000003+1)*(i % 997*7919+104729+i) % 1000033:=Int.emod_nonneg _ XS;have x1:(c % 1000003+1)*(i % 997*7919+104729+i) % 1000033<1000033:=Int.emod_lt_of_pos _ XS;obtain⟨x,hx⟩:∃x,(c % 1000003+1)*(i % 997*7919+104729+i) % 1000033=x:=⟨_,rfl⟩;show wS w _ _ [.o (Zm zs (i+1) l' k'),.f (.int m),.f (.lst (zs.map .int)),.f (.int i),.no,.f (.int c),.f (.int ((c % 1000003+1)*(i % 997*7919+104729+i) % 1000033))] _;rw[hx]at x0 x1 ⊢;refine Zx4 (a:=x) ⟨x0,by omega⟩ ?_;have y0:0<=(x*x+3*x+i) % 999983:=Int.emod_nonneg _ XS;have y1:(x*x+3*x+i) % 999983<999983:=Int.emod_lt_of_pos _ XS;obtain⟨y,hy⟩:∃y,(x*x+3*x+i) % 999983=y:=⟨_,rfl⟩;show wS w _ _ [.o (Zm zs (i+1) l' k'),.f (.int m),.f (.lst (zs.map .int)),.f (.int i),.no,.f (.int c),.f (.int ((x*x+3*x+i) % 999983))] _;rw[hy]at y0 y1 ⊢;refine Zx4 (a:=y) ⟨y0,by omega⟩ ?_;refine modP m0 ?_;exact rt _ _ ⟨_,_,Int.emod_nonneg _ XS,Int.emod_lt_of_pos _ m0,⟨zs,i+1,l',k',rfl,hz,by omega,l0,k0,k1⟩,rfl⟩
   refine Zk (b:=decide ((0:Int)<((zs.map T.int).length:Nat))) (λg=>?_) λg=>?_
   .have g:=D9 g;refine modP g ?_;obtain⟨x,hx,_,mx⟩:=Wl (xs:=zs.map T.int) (Int.emod_nonneg i (show (((zs.map T.int).length:Nat):Int)≠0 by omega)) (Int.emod_lt_of_pos i g);obtain⟨z,_,rfl⟩:=Og.mp mx;refine Bi hx ?_;exact end_ z
   .exact end_ 0
 refine vw (R:=Yd 3 Gu) rfl rfl ?_;refine whS ?_;refine wWhI (λn p=>∃l k:Int,p=[.o (Zm zs (i+1) l k),.f (.int m),.f (.lst (zs.map .int)),.f (.int i),.no,.no,.no]/\0<=l/\0<=k/\k<=zs.length/\n=zs.length-k.toNat) (λn p K hi kt kf=>?_) (zs.length-k.toNat) 1000000 _ XS ⟨l,k,rfl,l0,k0,k1,rfl⟩;obtain⟨l',k',rfl,l0,k0,k1,hn⟩:=hi;refine Zk (b:=decide (l'=0)) (λh=>?_) λh=>?_
 .refine boolP' (b:=decide (k'<((zs.map T.int).length:Nat))) (K:=λb=>K b _) (λh2=>?_) λh2=>?_
  .have h2:=D9 h2;refine kt _ λD' nx _ _ _=>?_;obtain⟨x,hx,_,mx⟩:=Wl (xs:=zs.map T.int) k0 h2;obtain⟨z,_,rfl⟩:=Og.mp mx;refine Bi hx ?_;refine Zk (b:=decide ((10:Int) ^ 18<=if z<0 then -z else z)) (λh3=>?_) λh3=>?_
   .refine Bi hx ?_;exact nx (n-1) _ XS ⟨_,k'+1,rfl,by split<;>omega,by omega,by omega,by omega⟩
   .exact nx (n-1) _ XS ⟨_,k'+1,rfl,l0,by omega,by omega,by omega⟩
  .exact kf _ (fin l' k' l0 k0 k1)
 .exact kf _ (fin l' k' l0 k0 k1)
noncomputable def aq:ZD:=["a","ab","abc","form","row","text","must","none","b","map"]
noncomputable def Vk(r:Nat):ZD:=(List.range 8).map λk=>aq.getD ((r+k) % 10) ""
def Q8(r:Sl):Prop:=∃ns:ZD,r=.o (.lst (ns.map .str))/\ns.length=8/\ns.Nodup/\∀n∈ns,n∈aq
theorem Ym:∀r,r<10->(Vk r).Nodup/\∀n∈Vk r,n∈aq:=by decide +kernel
set_option maxHeartbeats 2000000 in
theorem lb{w:W}(hD:Uj w.C){zs:ZL}{i l k:Int}(tp:TP (Zm zs i l k)):wF Jq w [.o (Zm zs i l k)] λx=>∃(r:Sl) (t':T),Q8 r/\TP t'/\x=(r,[t']):=by
 refine Yz rfl λD rt _=>?_;refine Zn hD tp XS XS λr zs' i' l' k' r0 r1 ql=>?_;rcases(show r=0\/r=1\/r=2\/r=3\/r=4\/r=5\/r=6\/r=7\/r=8\/r=9 by omega) with rfl | rfl | rfl | rfl | rfl | rfl | rfl | rfl | rfl | rfl
 .exact rt _ _ ⟨_,_,⟨Vk 0,rfl,rfl,Ym 0 XU⟩,ql,rfl⟩
 .exact rt _ _ ⟨_,_,⟨Vk 1,rfl,rfl,Ym 1 XU⟩,ql,rfl⟩
 .exact rt _ _ ⟨_,_,⟨Vk 2,rfl,rfl,Ym 2 XU⟩,ql,rfl⟩
 .exact rt _ _ ⟨_,_,⟨Vk 3,rfl,rfl,Ym 3 XU⟩,ql,rfl⟩
 .exact rt _ _ ⟨_,_,⟨Vk 4,rfl,rfl,Ym 4 XU⟩,ql,rfl⟩
 .exact rt _ _ ⟨_,_,⟨Vk 5,rfl,rfl,Ym 5 XU⟩,ql,rfl⟩
 .exact rt _ _ ⟨_,_,⟨Vk 6,rfl,rfl,Ym 6 XU⟩,ql,rfl⟩
 .exact rt _ _ ⟨_,_,⟨Vk 7,rfl,rfl,Ym 7 XU⟩,ql,rfl⟩
 .exact rt _ _ ⟨_,_,⟨Vk 8,rfl,rfl,Ym 8 XU⟩,ql,rfl⟩
 .exact rt _ _ ⟨_,_,⟨Vk 9,rfl,rfl,Ym 9 XU⟩,ql,rfl⟩
noncomputable def Mb:ZL:=[1,2,3,9,10,99,100,500,999]
def K5(i:Int):Prop:=-10 ^ 18<=i/\i<=10 ^ 18
def Sm(x:Str):Prop:=x.length<=9/\∀c∈x.cps.toList,97<=c/\c<=122
inductive Dx:T->Prop
 | int{i:Int}(h:K5 i):Dx (.int i)
 | bl {b:Bool}:Dx (.bl b)
 | str {x:Str} (h:Sm x):Dx (.str x)
 | nil:Dx (.tup [])
inductive oh:T->Prop
 | no:oh (.tup [])
 | is {x:T} (h:Dx x):oh (.tup [x])
def Dfs:Bool->ZZ->Prop
 | true,[d]=>oh d
 | false,[]=>True
 | _,_=>False
inductive W5(ns:ZD)(k:Bool):T->Prop
 | mk{n:Int}{x o:Str}{ds:ZZ}(hn:n∈Mb)(hx:Sm x)(ho:o∈ns)(hd:Dfs k ds):W5 ns k (.tup (.int n::.str x::.str o::ds))
noncomputable def Ys:T->Int
 | .tup (.int i::_)=>i
 | _=>0
structure Y3(ns:ZD)(k:Bool)(ps:ZZ):Prop where
 l:ps.length<=8
 d:(ps.map Ys).Nodup
 p:∀p∈ps,W5 ns k p
def Stk(ss:ZZ):Prop:=∃zs:ZL,ss=zs.map .int/\zs.length<=8/\∀z∈zs,K5 z
inductive Shp(ns:ZD):T->Prop
 | whole{a b:Int}(ha:K5 a)(hb:K5 b)(le:a<=b):Shp ns (.tup [.str "whole",.int a,.int b])
 | truth:Shp ns (.tup [.str "truth"])
 | text {n:Int} (h0:0<=n) (h1:n<=200):Shp ns (.tup [.str "text",.int n])
 | row {o:Str} {n:Int} (ho:o∈ns) (h0:0<=n) (h1:n<=20):Shp ns (.tup [.str "row",.str o,.int n])
 | map {o:Str} {n:Int} (ho:o∈ns) (h0:0<=n) (h1:n<=20):Shp ns (.tup [.str "map",.str o,.int n])
 | record {ps ss:ZZ} (hp:Y3 ns true ps) (hs:Stk ss):Shp ns (.tup [.str "record",.tup ps,.tup ss])
 | choice {ps ss:ZZ} {b:Bool} (hp:Y3 ns false ps) (hs:Stk ss):Shp ns (.tup [.str "choice",.tup ps,.tup ss,.bl b])
inductive Vt:T->T->Prop
 | whole{a b i:Int}(h1:a<=i)(h2:i<=b):Vt (.tup [.str "whole",.int a,.int b]) (.int i)
 | truth {b:Bool}:Vt (.tup [.str "truth"]) (.bl b)
 | text {n:Int} {x:Str} (h:(x.length:Int)<=n):Vt (.tup [.str "text",.int n]) (.str x)
 | row {o:Str} {n:Int}:Vt (.tup [.str "row",.str o,.int n]) (.tup [])
 | map {o:Str} {n:Int}:Vt (.tup [.str "map",.str o,.int n]) (.tup [])
def DFit(t d:T):Prop:=oh d/\∀x,d=.tup [x]->Vt t x
theorem W5.mono{ns ms:ZD}{k:Bool}{t:T}(h:∀x∈ns,x∈ms)(p:W5 ns k t):W5 ms k t:=by
 cases p with
 | mk hn hx ho hd=>exact .mk hn hx (h _ ho) hd
theorem Y3.mono{ns ms:ZD}{k:Bool}{ps:ZZ}(h:∀x∈ns,x∈ms)(p:Y3 ns k ps):Y3 ms k ps:=⟨p.l,p.d,λq m=>(p.p q m).mono h⟩
theorem Shp.mono{ns ms:ZD}{t:T}(h:∀x∈ns,x∈ms)(p:Shp ns t):Shp ms t:=by
 cases p with
 | whole a b c=>exact .whole a b c
 | truth=>exact .truth
 | text a b=>exact .text a b
 | row a b c=>exact .row (h _ a) b c
 | map a b c=>exact .map (h _ a) b c
 | record a b=>exact .record (a.mono h) b
 | choice a b=>exact .choice (a.mono h) b
noncomputable def rngI(lo hi:Int):T->Bool
 | .int j=>decide (lo<=j)&&decide (j<=hi)
 | _=>false
theorem Md{ts:ZZ}{r:Int}{Q:Sl->Prop}(lo hi:Int)(h0:0<=r)(h1:r<ts.length)(c:ts.all (rngI lo hi)=true)(q:∀j:Int,lo<=j->j<=hi->T.int j∈ts->Q (.f (.int j))):on ((K2 (.lst ts) (.int r)).map Sl.f) Q:=by
 refine ixP h0 h1 λx _ mx=>?_;have:=yq.mp c x mx;unfold rngI at this
 split at this
 .simp only[Vl,decide_eq_true_eq]at this;exact q _ this.1 this.2 mx
 .cases this
theorem V2{ss:ZD}{r:Int}{Q:Sl->Prop}(h0:0<=r)(h1:r<(ss.map T.str).length)(q:∀o∈ss,Q (.f (.str o))):on ((K2 (.lst (ss.map .str)) (.int r)).map Sl.f) Q:=by
 refine ixP h0 h1 λx _ mx=>?_;obtain⟨o,mo,rfl⟩:=Og.mp mx;exact q o mo
def Tp(C:Cs)(f:Str)(as:List Sl)(R:Sl->Prop):Prop:=∀t,TP t->on (C f (.o t::as)) λx=>∃r t',R r/\TP t'/\x=(r,[t'])
theorem W1{C:Cs}{f:Str}{as:List Sl}{R:Sl->Prop}{t:T}{Q:Sl×ZZ->Prop}(h:Tp C f as R)(tp:TP t)(q:∀r zs i l k,R r->TP (Zm zs i l k)->Q (r,[Zm zs i l k])):on (C f (.o t::as)) Q :=
 Zx (h t tp) λx ⟨r,t',h1,h3,e⟩=>by
  obtain⟨zs,i,l,k,e',g⟩:=id h3;rw[e,e'];exact q r zs i l k h1 (e' ▸ h3)
def Td(d:Df)(w:W)(as:List Sl)(R:Sl->Prop):Prop:=∀zs i l k,TP (Zm zs i l k)->wF d w (.o (Zm zs i l k)::as) λx=>∃r t',R r/\TP t'/\x=(r,[t'])
def yj(P:T->Prop)(r:Sl):Prop:=∃t,r=.f t/\P t
def Zw4(t:T):Prop:=∀ps us,t≠.tup [.str "record",.tup ps,.tup us]
def Zjp(ns:ZD)(t:T):Prop:=Shp ns t/\Zw4 t
theorem t4{w:W}(hD:Uj w.C){s:Str}(hs:s="whole" \/ s="truth" \/ s="text")(ns:ZD):Td U9 w [.f (.str s)] (yj (Zjp ns)):=by
 intro zs i l k tp;rcases hs with rfl | rfl | rfl
 .refine Yz rfl λD rt _=>?_;refine Zn hD tp XS XS λr zs i l k r0 r1 tp=>?_;refine Md (-10 ^ 18) 7 r0 r1 rfl λa a0 a1 _=>?_;refine Zn hD tp XS XS λr zs i l k r0 r1 tp=>?_;refine Md 0 (10 ^ 18) r0 r1 rfl λb b0 b1 _=>?_;exact rt _ _ ⟨_,_,⟨.tup [.str "whole",.int a,.int (if a+b<10 ^ 18 then a+b else 10 ^ 18)],rfl,.whole ⟨a0,by omega⟩ ⟨by split<;>omega,by split<;>omega⟩ (by split<;>omega),λ_ _ z=>(nomatch z)⟩,tp,rfl⟩
 .refine Yz rfl λD rt _=>?_;exact rt _ _ ⟨_,_,⟨_,rfl,.truth,λ_ _ z=>(nomatch z)⟩,tp,rfl⟩
 .refine Yz rfl λD rt _=>?_;refine Zn hD tp XS XS λr zs i l k r0 r1 tp=>?_;refine Md 0 200 r0 r1 rfl λa a0 a1 _=>?_;exact rt _ _ ⟨_,_,⟨_,rfl,.text a0 a1,λ_ _ z=>(nomatch z)⟩,tp,rfl⟩
theorem two{r:Int}(h0:0<=r)(h:r<2):r=0\/r=1:=by omega
theorem Xe{x:Str}{n:Nat}(h:n*x.length<=9)(hx:∀c∈x.cps.toList,97<=c/\c<=122):Sm (repS x n):=by
 refine⟨by rw[Rm];exact h,λc m=>?_⟩;rw[Mu]at m;obtain⟨l,ml,mc⟩:=List.mem_flatten.mp m;rw[(List.mem_replicate.mp ml).2]at mc;exact hx c mc
theorem A5{w:W}(hD:Uj w.C){ns:ZD}{t:T}(ht:Shp ns t\/t=.tup [.str "record"]):Td V0 w [.f t] (yj (DFit t)):=by
 intro zs i l k tp;refine Yz rfl λD rt _=>?_;have no:∀zs' i' l' k',TP (Zm zs' i' l' k')->D.rt (.f (.tup [])) [.o (Zm zs' i' l' k'),.f t]:=λ_ _ _ _ tp=>rt _ _ ⟨_,_,⟨_,rfl,.no,λx z=>by cases z⟩,tp,rfl⟩;rcases ht with ht | rfl
 .cases ht with
  | record hp hs=>exact no _ _ _ _ tp
  | choice hp hs=>exact no _ _ _ _ tp
  | whole ha hb le =>
   refine Zn hD tp XS XS λr zs i l k r0 r1 tp=>?_;refine Zk (b:=decide (r=0)) (λ_=>no _ _ _ _ tp) λ_=>?_;refine Zn hD tp XS XS λr zs i l k r0 r1 tp=>?_;rcases two r0 r1 with rfl | rfl
   .exact rt _ _ ⟨_,_,⟨_,rfl,.is (.int ha),λx z=>by cases z;exact .whole (Int.le_refl _) le⟩,tp,rfl⟩
   .exact rt _ _ ⟨_,_,⟨_,rfl,.is (.int hb),λx z=>by cases z;exact .whole le (Int.le_refl _)⟩,tp,rfl⟩
  | text h0 h1 =>
   refine Zn hD tp XS XS λr zs i l k r0 r1 tp=>?_;refine Zk (b:=decide (r=0)) (λ_=>no _ _ _ _ tp) λ_=>?_;refine Zn hD tp XS XS λr zs i l k r0 r1 tp=>?_
   obtain⟨x,hx,e⟩:∃x:Str,(x.length=1/\∀c∈x.cps.toList,97<=c/\c<=122)/\K2 (.str "ab") (.int r)=some (.str x):=by
    rcases two r0 r1 with rfl | rfl
    .exact⟨"a",⟨rfl,by decide⟩,rfl⟩
    .exact⟨"b",⟨rfl,by decide⟩,rfl⟩
   refine Z8 (a:=Sl.f (.str x)) (congrArg (Option.map Sl.f) e) ?_;refine Zn hD tp XS XS λr zs i l k r0 r1 tp=>?_;refine Sd (a:=Sl.f (.str (repS x _))) ⟨by split<;>omega,by split<;>omega,by omega⟩ ?_;exact rt _ _ ⟨_,_,⟨_,rfl,.is (.str (Xe (by rw[hx.1];split<;>omega) hx.2)),λx z=>by cases z;exact .text (by rw[Rm,hx.1];split<;>omega)⟩,tp,rfl⟩
  | truth =>
   refine Zn hD tp XS XS λr zs i l k r0 r1 tp=>?_;refine Zk (b:=decide (r=0)) (λ_=>no _ _ _ _ tp) λ_=>?_;refine Zn hD tp XS XS λr zs i l k r0 r1 tp=>?_;exact rt _ _ ⟨_,_,⟨_,rfl,.is .bl,λx z=>by cases z;exact .truth⟩,tp,rfl⟩
  | row ho h0 h1 =>
   refine Zn hD tp XS XS λr zs i l k r0 r1 tp=>?_;refine Zk (b:=decide (r=0)) (λ_=>no _ _ _ _ tp) λ_=>?_;exact rt _ _ ⟨_,_,⟨_,rfl,.is .nil,λx z=>by cases z;exact .row⟩,tp,rfl⟩
  | map ho h0 h1 =>
   refine Zn hD tp XS XS λr zs i l k r0 r1 tp=>?_;refine Zk (b:=decide (r=0)) (λ_=>no _ _ _ _ tp) λ_=>?_;exact rt _ _ ⟨_,_,⟨_,rfl,.is .nil,λx z=>by cases z;exact .map⟩,tp,rfl⟩
 .exact no _ _ _ _ tp
noncomputable def wd(n:Int):Str:=if n=1 then "b" else if n=2 then "c" else if n=3 then "d" else if n=9 then "j" else if n=10 then "ba" else if n=99 then "jj" else if n=100 then "baa" else if n=500 then "faa" else "jjj"
theorem wd_sm:∀n∈Mb,(wd n).length<=3/\∀c∈(wd n).cps.toList,97<=c/\c<=122:=by decide +kernel
theorem y2{w:W}{n:Int}(h:n∈Mb):Cy Gc w [.f (.int n)]=some (.f (.str (wd n)),[]):=by
 simp only[Mb,Y8,U2,or_false]at h;rcases h with rfl | rfl | rfl | rfl | rfl | rfl | rfl | rfl | rfl<;>kernel_rfl
def Ks(C:Cs):Prop:=∀n∈Mb,on (C "_law_word" [.f (.int n)]) λx=>x=(.f (.str (wd n)),[])
theorem Ob{C:Cs}(h:Ks C){n:Int}{Q:Sl×ZZ->Prop}(hn:n∈Mb)(q:Q (.f (.str (wd n)),[])):on (C "_law_word" [.f (.int n)]) Q:=Zx (h n hn) λx e=>by rw[e];exact q
theorem Ny{a:Str}{n:Int}(ha:a.length=1/\∀c∈a.cps.toList,97<=c/\c<=122)(h:n∈Mb):Sm (a++wd n):=by
 obtain⟨h1,h2⟩:=wd_sm n h;refine⟨by rw[Str.length_append];omega,λc m=>?_⟩;rcases mem_cps_append.mp m with m | m
 .exact ha.2 c m
 .exact h2 c m
theorem Vv(XM:ZX)(k k':Key)(v:T):Zb (Y9 XM k v) k'=if k=k' then some v else Zb XM k':=by
 unfold Y9
 split
 .rename_i h
  induction XM with
  | nil=>simp at h
  | cons p r ih =>
   rw[List.any_cons,Bool.or_eq_true]at h;unfold Zb at ih ⊢;rw[C9,List.find?_cons];by_cases e:p.1=k
   .rw[if_pos e];by_cases e':k=k'
    .rw[Mz (show (p.1,v).1=k' from e.trans e'),if_pos e'];rfl
    .rw[Bf (show ¬ (p.1,v).1=k' fromλz=>e' (e.symm.trans z)),if_neg e',List.find?_cons,Bf (show ¬ p.1=k' fromλz=>e' (e.symm.trans z))];by_cases hr:(r.any λp=>decide (p.1=k))=true
     .have:=ih hr;rw[if_neg e']at this;exact this
     .have em:(r.map λp=>if p.1=k then (p.1,v) else p)=r:=by
       conv=>rhs;rw[<-List.map_id r]
       refine List.map_congr_left λq mq=>?_;rw[if_neg]
       .rfl
       .intro z;exact hr (XZ.mpr ⟨q,mq,Mz z⟩)
      rw[em]
   .rw[if_neg e];by_cases e':p.1=k'
    .rw[Mz e',List.find?_cons,Mz e',if_neg (λz=>e (e'.trans z.symm))]
    .rw[Bf e',List.find?_cons,Bf e'];exact ih (h.resolve_left (by simp[e]))
 .rename_i h
  unfold Zb;rw[List.find?_append];by_cases e':k=k'
  .subst e';rw[if_pos rfl];have:XM.find? (λp=>decide (p.1=k))=none:=XF.mpr λp mp z=>h (XZ.mpr ⟨p,mp,z⟩);rw[this];simp
  .rw[if_neg e'];have:[(k,v)].find? (λp=>decide (p.1=k'))=none:=by simp[e']
   rw[this];simp
theorem Zz0{XM:ZX}{k:Key}{v:T}(h:k∈XM.map (·.1)):(Y9 XM k v).map (·.1)=XM.map (·.1):=by
 unfold Y9;rw[if_pos]
 .rw[List.map_map];refine List.map_congr_left λp _=>?_;show (if p.1=k then (p.1,v) else p).1=p.1
  split<;>rfl
 .obtain⟨p,mp,e⟩:=Og.mp h;exact XZ.mpr ⟨p,mp,Mz e⟩
theorem Zz1{XM:ZX}{k:Key}{v:T}(h:¬ k∈XM.map (·.1)):(Y9 XM k v).map (·.1)=XM.map (·.1)++[k]:=by
 unfold Y9;rw[if_neg]
 .rw[Ku];rfl
 .intro z;obtain⟨p,mp,e⟩:=XZ.mp z;exact h (Og.mpr ⟨p,mp,D9 e⟩)
theorem Fw:∀{XM:ZX} {ss:ZD},XM.map (·.1)=ss.map Sum.inr->Nf (XM.map λp=>Bc p.1)=some ss/\Ja (XM.map λp=>Bc p.1)=(if ss=[] then some [] else none)
 | [],[],_=>⟨rfl,rfl⟩
 | [],_::_,h=>by simp at h
 | _::_,[],h=>by simp at h
 | (k,t)::XM,s::ss,h=>by
  rw[C9,C9]at h
  injection h with h1 h2
  have h1:k=Sum.inr s:=h1;subst h1;obtain⟨g1,g2⟩:=Fw h2;refine⟨?_,?_⟩
  .show (Nf (XM.map λp=>Bc p.1)).map (s::·)=_;rw[g1];rfl
  .rw[if_neg XA];rfl
theorem get_mem{XM:ZX}{k:Key}(h:k∈XM.map (·.1)):∃t,Zb XM k=some t:=by
 unfold Zb;obtain⟨p,mp,e⟩:=Og.mp h;cases f:XM.find? λp=>decide (p.1=k) with
 | none =>
  have:=XF.mp f p mp;simp[e]at this
 | some q=>exact⟨q.2,rfl⟩
theorem zt{XM:ZX}{k:Key}{t:T}(h:Zb XM k=some t):k∈XM.map (·.1):=by
 unfold Zb at h;obtain⟨p,hp,_⟩:=Yr.mp h;have:=List.find?_some hp;exact Og.mpr ⟨p,List.mem_of_find?_eq_some hp,D9 this⟩
theorem Sh{XM:ZX}{k:Key}{v:T}{p:Key×T}(h:p∈Y9 XM k v):p∈XM\/p.2=v:=by
 unfold Y9 at h
 split at h
 .obtain⟨q,mq,rfl⟩:=Og.mp h
  split
  .exact .inr rfl
  .exact .inl mq
 .rcases yk.mp h with h | h
  .exact .inl h
  .cases F8.mp h;exact .inr rfl
theorem Ni{XM:ZX}{k:Key}{t:T}(h:Zb XM k=some t):∃p∈XM,p.2=t/\p.1=k:=by
 obtain⟨p,hp,rfl⟩:=Yr.mp h;have t:=List.find?_some hp;exact⟨p,List.mem_of_find?_eq_some hp,rfl,D9 t⟩
theorem Ck{XM:ZX}{x:Str}{v:T}{Q:T->Prop}(h:XM.length<sizeLine)(q:Q (.dct (Y9 XM (.inr x) v))):on (putAt (.dct XM) (.str x) v) Q:=Sd h q
structure Bk(ns:ZD)(XM:ZX)(ss:ZD):Prop where
 k:XM.map (·.1)=ss.map Sum.inr
 d:ss.Nodup
 n:∀x∈ss,x∈ns
 p:∀p∈XM,Shp ns p.2
theorem Bk.len{ns ss:ZD}{XM:ZX}(h:Bk ns XM ss):XM.length=ss.length:=by have:=congrArg List.length h.k;simpa using this
theorem R1{XM:ZX}{ss:ZD}{x:Str}{v:T}(hk:XM.map (·.1)=ss.map Sum.inr)(d:ss.Nodup):∃us,(Y9 XM (.inr x) v).map (·.1)=us.map Sum.inr/\us.Nodup/\(∀y,y∈us↔y∈ss\/y=x)/\(x∈ss->us=ss):=by
 by_cases e:x∈ss
 .refine⟨ss,by rw[Zz0 (by rw[hk];exact List.mem_map_of_mem e),hk],d,λy=>⟨.inl,λz=>?_⟩,λ_=>rfl⟩;rcases z with z | rfl
  .exact z
  .exact e
 .refine⟨ss++[x],?_,?_,λy=>?_,λz=>absurd z e⟩
  .rw[Zz1,hk,Ku];rfl;rw[hk];intro z;obtain⟨y,my,ey⟩:=Og.mp z;cases ey;exact e my
  .rw[List.nodup_append];refine⟨d,by simp,λa ma b mb=>?_⟩;cases F8.mp mb;intro z;subst z;exact e ma
  .rw[yk,F8]
theorem Bk.put{ns ss:ZD}{XM:ZX}{x:Str}{v:T}(h:Bk ns XM ss)(hx:x∈ns)(hv:Shp ns v):∃us,Bk ns (Y9 XM (.inr x) v) us/\(∀y,y∈us↔y∈ss\/y=x)/\(x∈ss->us=ss):=by
 obtain⟨us,h1,h2,h3,h4⟩:=R1 (x:=x) (v:=v) h.k h.d;refine⟨us,⟨h1,h2,λy m=>?_,λp mp=>?_⟩,h3,h4⟩
 .rcases(h3 y).mp m with m | rfl
  .exact h.n y m
  .exact hx
 .rcases Sh mp with m | e
  .exact h.p p m
  .rw[e];exact hv
theorem Bk.get{ns ss:ZD}{XM:ZX}{x:Str}(h:Bk ns XM ss)(hx:x∈ss):∃t,Zb XM (.inr x)=some t/\Shp ns t:=by
 obtain⟨t,e⟩:=get_mem (XM:=XM) (k:=.inr x) (by rw[h.k];exact List.mem_map_of_mem hx);obtain⟨p,mp,rfl,_⟩:=Ni e;exact⟨_,e,h.p p mp⟩
theorem Bk.srt{ns ss:ZD}{XM:ZX}(h:Bk ns XM ss)(hl:ss.length<64):Qf (XM.map λp=>Bc p.1)=some ((SRT.Us ss).map .str):=by
 obtain⟨g1,g2⟩:=Fw h.k
 have e:(XM.map λp=>Bc p.1)=ss.map .str:=by
  rw[show (XM.map λp=>Bc p.1)=(XM.map (·.1)).map Bc by rw[List.map_map];rfl,h.k,List.map_map];rfl
 rw[e];exact srt_strs ss hl
theorem Wj(ts:ZZ)(n:Nat):G6 ts none (some (n:Int))=ts.take n:=by
 unfold G6;rw[show HT.Y7 ts.length 0 none=0 from rfl,HT.C0,List.drop_zero,Nat.sub_zero];rcases Nat.le_total n ts.length with h | h
 .rw[Nat.min_eq_left h]
 .rw[Nat.min_eq_right h,T0l (Vy _),T0l h]
noncomputable def ah:ZL:=[1,2,9,10,99,100,999]
def Q7(r:Sl):Prop:=∃ms:ZL,r=.o (.lst (ms.map .int))/\ms.Nodup/\ms.length<=8/\∀m∈ms,m∈Mb
theorem Ab{w:W}(hD:Uj w.C):Td Ve w [] Q7:=by
 intro zs i l k tp;refine Yz rfl λD rt _=>?_;refine Jb (λrest acc p=>∃rs ms zs i l k s0,rest=rs.map T.int/\acc=ms.map T.int/\(ms++rs).Sublist ah/\TP (Zm zs i l k)/\p=[s0,.o (Zm zs i l k)]) ⟨ah,[],zs,i,l,k,_,rfl,rfl,List.Sublist.refl _,tp,rfl⟩ (λx r acc p K hi ky kn=>?_) λacc p hi=>?_
 .obtain⟨rs,ms,zs,i,l,k,s0,hr,rfl,hs,tp,rfl⟩:=hi;cases rs with
  | nil=>cases hr
  | cons z rs =>
   cases hr;refine Zn hD tp XS XS λr zs i l k r0 r1 tp=>?_;refine Zk (b:=decide (r=0)) (λ_=>?_) λ_=>?_
   .exact ky _ _ ⟨rs,ms++[z],zs,i,l,k,_,rfl,by rw[Ku];rfl,by rw[XX];exact hs,tp,rfl⟩
   .exact kn _ ⟨rs,ms,zs,i,l,k,_,rfl,rfl,(List.Sublist.append (List.Sublist.refl _) (List.sublist_cons_self _ _)).trans hs,tp,rfl⟩
 obtain⟨rs,ms,zs,i,l,k,s0,hr,rfl,hs,tp,rfl⟩:=hi;have hs:ms.Sublist ah:=(List.sublist_append_left _ _).trans hs
 have fin:∀(n:Nat) zs i l k,TP (Zm zs i l k)->∃r t',Q7 r/\TP t'/\((Sl.o (.lst (G6 (ms.map .int) none (some (n:Int)))),[Zm zs i l k]):Sl×ZZ)=(r,[t']):=λn zs i l k tp=>by
  have h2:(ms.take n).Sublist ah:=(List.take_sublist _ _).trans hs;refine⟨_,_,⟨ms.take n,by rw[Wj,List.map_take],h2.nodup XU,Tg h2.length_le XU,λm mm=>?_⟩,tp,rfl⟩;exact(show ∀m∈ah,m∈Mb by decide) m (h2.subset mm)
 refine Zn hD tp XS XS λr zs i l k r0 r1 tp=>?_;refine Zk (b:=decide (r=0)) (λ_=>?_) λ_=>?_
 .exact rt _ _ (fin 8 _ _ _ _ tp)
 .exact rt _ _ (fin 3 _ _ _ _ tp)
theorem zf{ns:ZD}{k:Bool}{ps:ZZ}(h:∀t∈ps,W5 ns k t){w:W}{Q:ZZ->P->Prop}(q:∀s0,Q ((ps.map Ys).map .int) [s0]) :
  Ga (λx s K=>on (asg (.v 0) x s) λs1=>if isNil .nil=true then wE w (.pr .ix (.cons (.v 0) (.cons (.k (.int 0)) .nil))) s1 λr s2=>Ov r λy=>K (some y) s2
   else wE w .nil s1 λr s2=>j7 r λb=>if b=true then wE w (.pr .ix (.cons (.v 0) (.cons (.k (.int 0)) .nil))) s2 λr s3=>Ov r λy=>K (some y) s3 else K none s2) ps [] [.no] Q:=by
 refine Jl (λt=>.int (Ys t)) (λs=>∃s0,s=[s0]) ⟨_,rfl⟩ (λx mx s K hs hk=>?_) λs hs=>?_
 .obtain⟨s0,rfl⟩:=hs;cases h x mx with
  | mk hn hx ho hd=>refine ixHd ?_;exact hk _ ⟨_,rfl⟩
 .obtain⟨s0,rfl⟩:=hs;rw[show ps.map (λt=>T.int (Ys t))=(ps.map Ys).map .int by rw[List.map_map];rfl];exact q s0
def rn(r:Sl):Prop:=∃ss,r=.f (.tup ss)/\Stk ss
theorem qh{w:W}(hD:Uj w.C){ns:ZD}{b:Bool}{ps:ZZ}(hp:Y3 ns b ps):Td Ug w [.f (.tup ps)] rn:=by
 intro zs i l k tp;refine Yz rfl λD rt _=>?_;refine zf hp.p λs0=>?_;refine Jb (λrest acc p=>∃rs ms zs i l k s0,rest=rs.map T.int/\acc=ms.map T.int/\(ms++rs).Sublist [2,3,10,998]/\TP (Zm zs i l k)/\p=[s0,.o (.lst ((ps.map Ys).map .int)),.o (Zm zs i l k)]) ⟨[2,3,10,998],[],zs,i,l,k,_,rfl,rfl,List.Sublist.refl _,tp,rfl⟩ (λx r acc p K hi ky kn=>?_) λacc p hi=>?_
 .obtain⟨rs,ms,zs,i,l,k,s0,hr,rfl,hs,tp,rfl⟩:=hi;cases rs with
  | nil=>cases hr
  | cons z rs =>
   cases hr;have no:∀zs i l k s0,TP (Zm zs i l k)->K none [s0,.o (.lst ((ps.map Ys).map .int)),.o (Zm zs i l k)]:=λzs i l k s0 tp=>kn _ ⟨rs,ms,zs,i,l,k,_,rfl,rfl,(List.Sublist.append (List.Sublist.refl _) (List.sublist_cons_self _ _)).trans hs,tp,rfl⟩;refine Qi ?_;refine Zk (b:=!((ps.map Ys).any λy=>decide (y=z))) (λ_=>?_) λ_=>no _ _ _ _ _ tp;refine Zn hD tp XS XS λr zs i l k r0 r1 tp=>?_;refine Zk (b:=decide (r=0)) (λ_=>?_) λ_=>no _ _ _ _ _ tp;exact ky _ _ ⟨rs,ms++[z],zs,i,l,k,_,rfl,by rw[Ku];rfl,by rw[XX];exact hs,tp,rfl⟩
 obtain⟨rs,ms,zs,i,l,k,s0,hr,rfl,hs,tp,rfl⟩:=hi;have hs:ms.Sublist [2,3,10,998]:=(List.sublist_append_left _ _).trans hs;exact rt _ _ ⟨_,_,⟨_,rfl,ms,rfl,Tg hs.length_le XU,λz m=>(show ∀m∈[(2:Int),3,10,998],K5 m by unfold K5;decide) z (hs.subset m)⟩,tp,rfl⟩
def Ka(XM:ZX)(p:T):Prop:=∀(n:Int) (y o:Str) (d:T),p=.tup [.int n,.str y,.str o,.tup [d]]->∃s,Zb XM (.inr o)=some s/\Vt s d
def Ap(ns:ZD)(XM:ZX)(b:Bool)(r:Sl):Prop:=∃ps,r=.f (.tup ps)/\Y3 ns b ps/\∀p∈ps,Ka XM p
theorem Y3.nil{ns:ZD}{b:Bool}:Y3 ns b []:=⟨Io _,List.Pairwise.nil,λt m=>absurd m U2⟩
set_option maxHeartbeats 1000000 in
theorem cn{w:W}(hD:Uj w.C)(hW:Ks w.C)(hN:Tp w.C "_law_numbers" [] Q7){ns:ZD}(hDf:∀t,Shp ns t\/t=.tup [.str "record"]->Tp w.C "_law_default" [.f t] (yj (DFit t)))(n0:0<ns.length)(n8:ns.length<=8){XM:ZX}(hk:∀x t,Zb XM x=some t->Shp ns t)(s:Str) :
  Td Jz w [.f (.lst (ns.map .str)),.f (.dct XM),.f (.str s)] (Ap ns XM (decide (s="record"))):=by
 intro zs i l k tp;have sl:=sizeLine_eq;refine Yz rfl λD rt _=>?_;refine W1 hN tp λr zs i l k hr tp=>?_;obtain⟨ms,rfl,nd,ln,mm⟩:=hr;refine Jn (λrest p=>∃rs ps zs i l k s5 s6 s7,rest=rs.map T.int/\p=[.o (Zm zs i l k),.f (.lst (ns.map .str)),.f (.dct XM),.f (.str s),.o (.lst ps),s5,s6,s7]/\TP (Zm zs i l k)/\(ps.map Ys++rs).Nodup/\ps.length+rs.length<=8/\(∀z∈rs,z∈Mb)/\∀p∈ps,W5 ns (decide (s="record")) p/\Ka XM p) ⟨ms,[],zs,i,l,k,_,_,_,rfl,rfl,tp,nd,by simpa using ln,mm,λt m=>absurd m U2⟩ (λx r p D' hi nx _=>?_) λp hi=>?_
 .obtain⟨rs,ps,zs,i,l,k,s5,s6,s7,hr,rfl,tp,nd,ln,mm,hp⟩:=hi;cases rs with
  | nil=>cases hr
  | cons z rs =>
   cases hr;have hz:=mm z V4;rw[Rz]at ln
   have more:∀zs i l k s5 s6 s7 t,TP (Zm zs i l k)->W5 ns (decide (s="record")) t/\Ka XM t->Ys t=z->D'.nx [.o (Zm zs i l k),.f (.lst (ns.map .str)),.f (.dct XM),.f (.str s),.o (.lst (ps++[t])),s5,s6,s7]:=λzs i l k s5 s6 s7 t tp ht e=>nx _ ⟨rs,ps++[t],zs,i,l,k,s5,s6,s7,rfl,rfl,tp,by rw[Ku,XX];show (ps.map Ys++Ys t::rs).Nodup;rw[e];exact nd,by rw[W7,ZI];omega,λz m=>mm z (Uz _ m),λp m=>by
    rcases yk.mp m with m | m
    .exact hp p m
    .cases F8.mp m;exact ht⟩
   have l0:(0:Int)<((ns.map T.str).length:Nat):=by rw[Vq];omega
   have l1:(((ns.map T.str).length:Nat):Int)<=1000000:=by rw[Vq];omega
   refine Zn hD tp l0 l1 λr zs i l k r0 r1 tp=>?_;refine V2 r0 r1 λo ho=>?_;refine Zn hD tp XS XS λr zs i l k r0 r1 tp=>?_;refine V2 (ss:=["f","g"]) r0 r1 λa ha=>?_
   have ha:a.length=1/\∀c∈a.cps.toList,97<=c/\c<=122:=by
    simp only[Y8,U2,or_false]at ha;rcases ha with rfl | rfl<;>exact⟨rfl,by decide⟩
   refine Ob hW hz ?_;have hs:=Ny ha hz;refine Kl (by have:=hs.1;rw[Str.length_append]at this;omega) ?_;show wS w _ _ [.o (Zm zs i l k),.f (.lst (ns.map .str)),.f (.dct XM),.f (.str s),.o (.lst ps),.f (.int z),.f (.str o),.f (.tup [.int z,.str (a++wd z),.str o])] _;refine Zk (b:=decide (s="record")) (λh=>?_) λh=>?_
   .have h':=D9 h;subst h';refine W1 (hDf ((Zb XM (.inr o)).getD (.tup [.str "record"])) ?_) tp λr zs i l k hr tp=>?_
    .cases e:Zb XM (.inr o) with
     | none=>exact .inr rfl
     | some t=>exact .inl (hk _ t e)
    obtain⟨d,rfl,hd,hx⟩:=hr;refine Ui XS ?_;refine more _ _ _ _ _ _ _ _ tp ⟨.mk hz hs ho hd,λn y o' d' e=>?_⟩ rfl;cases e;have hx:=hx d' rfl;cases eg:Zb XM (.inr o) with
    | none=>rw[eg]at hx;cases hx
    | some t=>rw[eg]at hx;exact⟨t,rfl,hx⟩
   .refine Ui XS ?_;exact more _ _ _ _ _ _ _ _ tp ⟨by rw[h];exact .mk hz hs ho trivial,λn y o' d' e=>by cases e⟩ rfl
 obtain⟨rs,ps,zs,i,l,k,s5,s6,s7,hr,rfl,tp,nd,ln,mm,hp⟩:=hi;exact rt _ _ ⟨_,_,⟨_,rfl,⟨by omega,(List.sublist_append_left _ _).nodup nd,λp m=>(hp p m).1⟩,λp m=>(hp p m).2⟩,tp,rfl⟩
theorem iniP{a:Int}{zs:ZL}{Q:Sl->Prop}(q:Q (.f (.bl (zs.any λz=>decide (z=a))))):on ((B9 .isin (.int a) (.lst (zs.map .int))).map λr=>Sl.f (.bl r)) Q:=Z8 (by show (r9 (.int a) (.lst (zs.map .int))).map _=_;rw[xx];rfl) q
theorem sumP{zs:ZL}{Q:Sl->Prop}(q:Q (.f (.int zs.sum))):on (Ki .sum [.lst (zs.map .int)]) Q:=Z8 (by show (Ja _).map _=_;rw[PV.ints_map];rfl) q
theorem minIP{zs:ZL}{Q:Sl->Prop}(h:zs≠[])(q:∀m∈zs,(∀a∈zs,m<=a)->Q (.f (.int m))):on (Ki .min [.lst (zs.map .int)]) Q:=by
 cases zs with
 | nil=>exact absurd rfl h
 | cons z r =>
  have e:minL (z::r)=some (r.foldl (λa b=>if b<a then b else a) z):=rfl;refine Z8 ?_ (q _ (Qe e).1 (Qe e).2);show Zx8 ((z::r).map .int)=_;unfold Zx8;rw[PV.ints_map];rfl
def Prc(ps:ZX):Prop:=∀p∈ps,∃i:Int,p.2=.int i
theorem Prc.get{ps:ZX}(h:Prc ps){x:Key}{t:T}(e:Zb ps x=some t):∃i:Int,t=.int i:=by
 obtain⟨p,mp,rfl,_⟩:=Ni e;exact h p mp
theorem W5.asR{ns:ZD}{t:T}(h:W5 ns true t):∃(n:Int) (x o:Str) (ds:ZZ),t=.tup [.int n,.str x,.str o,.tup ds]/\n∈Mb/\Sm x/\o∈ns/\oh (.tup ds):=by
 cases h with
 | @mk n x o ds hn hx ho hd =>
  match ds,hd with
  | [d],hd =>
   have hd:oh d:=hd;cases hd with
   | no=>exact⟨n,x,o,[],rfl,hn,hx,ho,.no⟩
   | is h=>exact⟨n,x,o,_,rfl,hn,hx,ho,.is h⟩
theorem W5.cho{ns:ZD}{t:T}(h:W5 ns false t):∃(n:Int) (x o:Str),t=.tup [.int n,.str x,.str o]/\n∈Mb/\Sm x/\o∈ns:=by
 cases h with
 | @mk n x o ds hn hx ho hd =>
  match ds,hd with
  | [],hd=>exact⟨n,x,o,rfl,hn,hx,ho⟩
def ax(C:Cs):Prop:=∀{ns:ZD} {t:T} {ps:ZX},Shp ns t->Prc ps->on (C "_law_price" [.f t,.o (.dct ps)]) λx=>∃v:Int,x=(.f (.int v),[.dct ps])
set_option maxHeartbeats 1000000 in
theorem d0{w:W}{ns:ZD}{t:T}{ps:ZX}(ht:Shp ns t)(hp:Prc ps):wF U8 w [.f t,.o (.dct ps)] λx=>∃v:Int,x=(.f (.int v),[.dct ps]):=by
 refine Yz rfl λD rt _=>?_;cases ht with
 | @record fs ss hf hs =>
  refine Jb (λrest acc p=>∃s0 zs,p=[s0,.o (.dct ps)]/\acc=zs.map T.int/\∀x∈rest,x∈fs) ⟨_,[],rfl,rfl,λx m=>m⟩ (λx r acc p K hi ky kn=>?_) λacc p hi=>?_
  .obtain⟨s0,zs,rfl,rfl,hr⟩:=hi;have K3:∀x∈r,x∈fs:=λy m=>hr y (Uz _ m);obtain⟨n,y,o,ds,rfl,_⟩:=(hf.p x (hr x V4)).asR;cases ds with
   | cons d ds=>exact kn _ ⟨_,zs,rfl,rfl,K3⟩
   | nil =>
    have e:∃z,(Zb ps (.inr o)).getD (.int 0)=.int z:=by
     cases q:Zb ps (.inr o) with
     | none=>exact⟨0,rfl⟩
     | some t=>obtain⟨z,rfl⟩:=hp.get q;exact⟨z,rfl⟩
    obtain⟨z,e⟩:=e;refine ky ((Zb ps (.inr o)).getD (.int 0)) _ ⟨_,zs++[z],rfl,by rw[e,Ku];rfl,K3⟩
  obtain⟨s0,zs,rfl,rfl,_⟩:=hi;refine iniP ?_;refine Zk (b:=zs.any λz=>decide (z=0)) (λ_=>rt _ _ ⟨_,rfl⟩) λ_=>?_;refine sumP ?_;exact rt _ _ ⟨_,rfl⟩
 | @choice fs ss b hf hs =>
  refine Jb (λrest acc p=>∃s0 zs,p=[s0,.o (.dct ps)]/\acc=zs.map T.int/\∀x∈rest,x∈fs) ⟨_,[],rfl,rfl,λx m=>m⟩ (λx r acc p K hi ky kn=>?_) λacc p hi=>?_
  .obtain⟨s0,zs,rfl,rfl,hr⟩:=hi;have K3:∀x∈r,x∈fs:=λy m=>hr y (Uz _ m);obtain⟨n,y,o,rfl,_⟩:=(hf.p x (hr x V4)).cho;refine Zk (b:=(Zb ps (.inr o)).isSome) (λh=>?_) λh=>kn _ ⟨_,zs,rfl,rfl,K3⟩;obtain⟨t,q⟩:=Option.isSome_iff_exists.mp h;obtain⟨z,rfl⟩:=hp.get q;refine M5 q ?_;exact ky _ _ ⟨_,zs++[z],rfl,by rw[Ku];rfl,K3⟩
  obtain⟨s0,zs,rfl,rfl,_⟩:=hi;refine Zk (b:=(zs.map T.int).isEmpty) (λ_=>rt _ _ ⟨_,rfl⟩) λh=>?_;refine minIP (by intro z;rw[z]at h;cases h) λm mm ml=>?_;exact rt _ _ ⟨_,rfl⟩
 | _=>exact rt _ _ ⟨_,rfl⟩
structure Prs(ss:ZD)(ps:ZX)(us:ZD):Prop where
 k:ps.map (·.1)=us.map Sum.inr
 d:us.Nodup
 n:∀x∈us,x∈ss
 p:Prc ps
theorem Ju:∀{us ss:ZD},us.Nodup->(∀x∈us,x∈ss)->us.length<=ss.length
 | [],_,_,_=>Io _
 | x::us,ss,d,h=>by
  obtain⟨d1,d2⟩:=List.nodup_cons.mp d;have:=Ju (ss:=ss.erase x) d2 λy m=>(List.mem_erase_of_ne (λz:y=x=>d1 (by rw[<-z];exact m))).mpr (h y (Uz _ m));rw[List.length_erase_of_mem (h x V4)]at this;have:0<ss.length:=List.length_pos_of_mem (h x V4);rw[Rz];omega
theorem Prs.len{ps:ZX}{ss us:ZD}(h:Prs ss ps us):ps.length<=ss.length:=by
 have e:ps.length=us.length:=by have:=congrArg List.length h.k;simpa using this
 rw[e];exact Ju h.d h.n
def Kr(x:Sl×ZZ):Prop:=∃ps,Prc ps/\ps.length<=8/\x=(.o (.dct ps),[])
abbrev Mq9(r:Str)(k:List (Key×T)):Sl:=.f (.tup [.str r,.dct k])
def qj(C:Cs):Prop:=∀{root:Str} {XM:ZX} {ss:ZD},Bk ss XM ss->ss.length<=8->on (C "_law_prices" [Mq9 root XM]) Kr
set_option maxHeartbeats 1000000 in
theorem jn{w:W}(hP:ax w.C){root:Str}{XM:ZX}{ss:ZD}(h:Bk ss XM ss)(h8:ss.length<=8):wF Ub w [Mq9 root XM] Kr:=by
 have sl:=sizeLine_eq;have hl:=h.len;refine Yz rfl λD rt _=>?_;refine rngP XS XS ?_;refine Jn (λrest p=>∃ps us s2 s3 s4,p=[Mq9 root XM,.o (.dct ps),s2,s3,s4]/\Prs ss ps us) ⟨[],[],_,_,_,rfl,⟨rfl,List.Pairwise.nil,λx m=>absurd m U2,λp m=>absurd m U2⟩⟩ (λx r p D' hi nx _=>?_) λp hi=>?_
 .obtain⟨ps,us,s2,s3,s4,rfl,hs⟩:=hi;refine Nb (h.srt XS) ?_;refine Jn (λrest p=>∃rs ps us s3 s4,rest=rs.map T.str/\p=[Mq9 root XM,.o (.dct ps),.f x,s3,s4]/\Prs ss ps us/\∀y∈rs,y∈ss) ⟨SRT.Us ss,ps,us,_,_,rfl,rfl,hs,λy m=>(SRT.Yn ss).mem_iff.mp m⟩ (λx1 r1 p D1 hi nx1 _=>?_) λp hi=>?_
  .obtain⟨rs,ps,us,s3,s4,hr1,rfl,hs,hrs⟩:=hi;cases rs with
   | nil=>cases hr1
   | cons y rs =>
    cases hr1;obtain⟨t,e,ht⟩:=h.get (hrs y V4);refine M5 e ?_;refine Zx (hP ht hs.p) λo ho=>?_;obtain⟨v,rfl⟩:=ho;show wS w _ _ [Mq9 root XM,.o (.dct ps),.f x,.f (.str y),.f (.int v)] _;have hrs':∀z∈rs,z∈ss:=λz m=>hrs z (Uz _ m);refine Zk (b:=decide (0<v)) (λg=>?_) λg=>nx1 _ ⟨rs,ps,us,_,_,rfl,rfl,hs,hrs'⟩
    obtain⟨j,ej⟩:∃j,(Zb ps (.inr y)).getD (.int v)=.int j:=by
     cases q:Zb ps (.inr y) with
     | none=>exact⟨v,rfl⟩
     | some t=>obtain⟨z,rfl⟩:=hs.p.get q;exact⟨z,rfl⟩
    refine Z8 (a:=Sl.f (.int (if j<v then j else v))) (by show Ki .min [.int v,(Zb ps (.inr y)).getD (.int v)]=_;rw[ej];rfl) ?_;refine Ck (by have:=hs.len;omega) ?_;obtain⟨U3,k1,k2,k3,_⟩:=R1 (x:=y) (v:=.int (if j<v then j else v)) hs.k hs.d;refine nx1 _ ⟨rs,_,U3,_,_,rfl,rfl,⟨k1,k2,λa m=>?_,λp m=>?_⟩,hrs'⟩
    .rcases(k3 a).mp m with m | rfl
     .exact hs.n a m
     .exact hrs _ V4
    .rcases Sh m with m | e
     .exact hs.p p m
     .exact⟨_,e⟩
  .obtain⟨rs,ps,us,s3,s4,hr1,rfl,hs,hrs⟩:=hi;exact nx _ ⟨ps,us,_,_,_,rfl,hs⟩
 .obtain⟨ps,us,s2,s3,s4,rfl,hs⟩:=hi;exact rt _ _ ⟨ps,hs.p,by have:=hs.len;omega,rfl⟩
def La(XM:ZX)(t:T):Prop:=∀ps us,t=.tup [.str "record",.tup ps,.tup us]->∀p∈ps,Ka XM p
structure Oy(root:Str)(XM:ZX)(ss:ZD):Prop where
 f:Bk ss XM ss
 l0:0<ss.length
 l8:ss.length<=8
 po:∀x∈ss,x∈aq
 r:root∈ss
 fit:∀x t,Zb XM (.inr x)=some t->La XM t
theorem Bk.at{ns ss:ZD}{XM:ZX}(h:Bk ns XM ss){x:Str}{t:T}(e:Zb XM (.inr x)=some t):Shp ns t:=by
 obtain⟨p,mp,rfl,_⟩:=Ni e;exact h.p p mp
def yx(XM kvs':ZX):Prop:=∀o s d,Zb XM (.inr o)=some s->Vt s d->Zb kvs' (.inr o)=some s
theorem Ka.keep{XM kvs':ZX}{p:T}(h:Ka XM p)(k:yx XM kvs'):Ka kvs' p:=λn y o d e=>let ⟨s,e1,f⟩:=h n y o d e;⟨s,k o s d e1 f,f⟩
theorem La.keep{XM kvs':ZX}{t:T}(h:La XM t)(k:yx XM kvs'):La kvs' t:=λps us e p m=>(h ps us e p m).keep k
theorem R3{XM:ZX}{y:Str}{v:T}(h:∀t d,Zb XM (.inr y)=some t->Vt t d->v=t):yx XM (Y9 XM (.inr y) v):=λo s d e f=>by
 rw[Vv];by_cases z:y=o
 .subst z;rw[if_pos rfl,h s d e f]
 .rw[if_neg λq=>z (Sum.inr.inj q)];exact e
def Tn(XM:ZX):Prop:=∀x t,Zb XM (.inr x)=some t->La XM t
theorem Tn.put{XM:ZX}{y:Str}{v:T}(h:Tn XM)(k:yx XM (Y9 XM (.inr y) v))(hv:La XM v):Tn (Y9 XM (.inr y) v):=λx t e=>by
 rw[Vv]at e;by_cases z:y=x
 .subst z;rw[if_pos rfl]at e;cases e;exact hv.keep k
 .rw[if_neg λq=>z (Sum.inr.inj q)]at e;exact(h x t e).keep k
theorem Y3.sub{ns:ZD}{k:Bool}{ps us:ZZ}(h:Y3 ns k ps)(p:us.Sublist ps):Y3 ns k us:=⟨Tg p.length_le h.l,(p.map Ys).nodup h.d,λt m=>h.p t (p.mem m)⟩
theorem Prc.ints:∀{ps:ZX},Prc ps->∃zs:ZL,ps.map (·.2)=zs.map .int
 | [],_=>⟨[],rfl⟩
 | p::ps,h=>by
  obtain⟨i,e⟩:=h p V4;obtain⟨zs,ez⟩:=Prc.ints (ps:=ps) λq m=>h q (Uz _ m);exact⟨i::zs,by rw[C9,e,ez];rfl⟩
theorem maxIP{z:Int}{zs:ZL}{Q:Sl->Prop}(q:∀m:Int,Q (.f (.int m))):on (Ki .max [.lst ([.int z]++zs.map .int)]) Q:=by
 have e:maxL (z::zs)=some (zs.foldl (λa b=>if a<b then b else a) z):=rfl;refine Z8 ?_ (q (zs.foldl (λa b=>if a<b then b else a) z));show (Ja ((z::zs).map .int)).bind _=_;rw[PV.ints_map];rfl
theorem Bk.put'{ss:ZD}{XM:ZX}{x:Str}{v:T}(h:Bk ss XM ss)(hx:x∈ss)(hv:Shp ss v):Bk ss (Y9 XM (.inr x) v) ss:=by
 obtain⟨us,h1,_,h3⟩:=h.put hx hv;rw[h3 hx]at h1;exact h1
def ze(root:Str)(ss:ZD)(x:Sl×ZZ):Prop:=∃XM,Oy root XM ss/\x=(.f (.tup [.str root,.dct XM]),[.fn ""])
def Ia(C:Cs):Prop:=∀{root:Str} {XM:ZX} {ss:ZD},Oy root XM ss->on (C "_law_light" [.f (.str root),.o (.dct XM)]) (ze root ss)
set_option maxHeartbeats 1000000 in
theorem la{w:W}(hP:qj w.C){root:Str}{XM:ZX}{ss:ZD}(h:Oy root XM ss):wF Jj w [.f (.str root),.o (.dct XM)] (ze root ss):=by
 have sl:=sizeLine_eq;have h8:=h.l8;refine Yz rfl λD rt _=>?_;have fin:∀XM s2,Oy root XM ss->wS w (Vw [.f (.str root),.o (.dct XM)]) (Yd 1 T8) [.f (.str root),.o (.dct XM),s2] D:=λXM s2 h=>rt _ _ ⟨XM,h,rfl⟩;refine Zx (hP h.f h8) λx hx=>?_;obtain⟨ps,hp,hl,rfl⟩:=hx;obtain⟨zs,ez⟩:=hp.ints;refine Zwo (by rw[Vq];show 1+_<=_;omega) ?_;rw[ez];refine maxIP λm=>?_;refine Zk (b:=decide (100<m)) (λ_=>?_) λ_=>fin XM _ h;refine Nb (h.f.srt XS) ?_;refine Jn (λrest p=>∃rs XM s2,rest=rs.map T.str/\p=[.f (.str root),.o (.dct XM),s2]/\Bk ss XM ss/\Tn XM/\∀x∈rs,x∈ss) ⟨SRT.Us ss,XM,_,rfl,rfl,h.f,h.fit,λy m=>(SRT.Yn ss).mem_iff.mp m⟩ (λx r p D' hi nx _=>?_) λp hi=>?_
 .obtain⟨rs,XM,s2,hr,rfl,hf,hx,hm⟩:=hi;cases rs with
  | nil=>cases hr
  | cons y rs =>
   cases hr;have hy:=hm y V4;have Ly:∀x∈rs,x∈ss:=λx m=>hm x (Uz _ m);obtain⟨t,e,ht⟩:=hf.get hy;refine M5 e ?_;cases ht with
   | @record fs us hp hs =>
    refine M5 e ?_;refine M5 e ?_;refine Ck (by have:=hf.len;omega) ?_;have ec:G6 fs none (some ((1:Nat):Int))=fs.take 1:=Wj fs 1;refine nx _ ⟨rs,_,_,rfl,rfl,hf.put' hy (.record (ss:=us) (ps:=G6 fs none (some ((1:Nat):Int))) ?_ hs),hx.put (R3 λt d e' f=>?_) λYw U3 e' p m=>?_,Ly⟩
    .rw[ec];exact hp.sub (List.take_sublist _ _)
    .rw[e]at e';cases e';cases f
    .cases e';exact hx y _ e fs us rfl p (List.mem_of_mem_take (by rw[<-ec];exact m))
   | _=>exact nx _ ⟨rs,_,_,rfl,rfl,hf,hx,Ly⟩
 .obtain⟨rs,XM,s2,hr,rfl,hf,hx,hm⟩:=hi;exact fin XM _ ⟨hf,h.l0,h.l8,h.po,h.r,hx⟩
def R4(r:Sl):Prop:=∃root XM ss,r=.f (.tup [.str root,.dct XM])/\Oy root XM ss
noncomputable def Cw:ZD:=["record","choice","row","whole","text","record","map","truth","choice","record"]
def G4(g:Str):Prop:=g="record" \/ g="choice"
theorem fu{g:Str}(h:g∈Cw):(g="whole" \/ g="truth" \/ g="text")\/(g="row" \/ g="map")\/G4 g:=by
 simp only[Cw,Y8,U2,or_false]at h;rcases h with rfl | rfl | rfl | rfl | rfl | rfl | rfl | rfl | rfl | rfl<;>simp[G4]
noncomputable def Nc(q:Str×Str):T:=.tup [.str q.1,.str q.2]
theorem Rx:∀(a b:ZD),W9 (a.map .str) (b.map .str)=(a.zip b).map Nc
 | [],_=>rfl
 | _::_,[]=>rfl
 | x::a,y::b=>by show .tup [.str x,.str y]::W9 (a.map .str) (b.map .str)=_;rw[Rx a b];rfl
theorem Zji{body:T->P->En->Prop}{xs ys:ZZ}{p:P}{D:En}(e:xs=ys)(h:Rj body ys p D):Rj body xs p D:=by rw[e];exact h
theorem Zze{XM:ZX}{k:Key}{v v2:T}:Y9 (Y9 XM k v) k v2=Y9 XM k v2:=by
 unfold Y9;by_cases h:(XM.any λp=>decide (p.1=k))=true
 .rw[if_pos h,if_pos h,if_pos]
  .rw[List.map_map];refine List.map_congr_left λp _=>?_;show (if (if p.1=k then (p.1,v) else p).1=k then _ else _)=_;by_cases e:p.1=k
   .rw[if_pos e,if_pos (show (p.1,v).1=k from e),if_pos e];show ((if p.1=k then (p.1,v) else p).1,v2)=_;rw[if_pos e]
   .rw[if_neg e,if_neg e,if_neg e]
  .obtain⟨p,mp,e⟩:=XZ.mp h;have e:=D9 e;exact XZ.mpr ⟨_,List.mem_map_of_mem mp,by rw[if_pos e];exact Mz e⟩
 .rw[if_neg h,if_neg h,if_pos]
  .rw[Ku];show XM.map _++[if k=k then (k,v2) else (k,v)]=_;rw[if_pos rfl]
   congr 1
   conv=>rhs;rw[<-List.map_id XM]
   refine List.map_congr_left λq mq=>?_;rw[if_neg]
   .rfl
   .intro z;exact h (XZ.mpr ⟨q,mq,Mz z⟩)
  .rw[List.any_append];show (_ || (decide (k=k) || false))=true;rw[Mz rfl];simp
theorem Nr{x:Str}:∀{a b:ZD},a.length=b.length->x∈a->∃y,(x,y)∈a.zip b
 | _::_,[],h,_=>by cases h
 | z::a,y::b,h,m=>by
  rcases Y8.mp m with rfl | m
  .exact⟨y,V4⟩
  .obtain⟨u,mu⟩:=Nr (Nat.succ.inj h) m;exact⟨u,Uz _ mu⟩
theorem I9{x a b:Str}:∀{ms gs:ZD},ms.Nodup->(x,a)∈ms.zip gs->(x,b)∈ms.zip gs->a=b
 | [],_,_,h,_=>by cases h
 | _::_,[],_,h,_=>by cases h
 | m::ms,g::gs,d,h,h'=>by
  obtain⟨d1,d2⟩:=List.nodup_cons.mp d;rcases Y8.mp (show (x,a)∈(m,g)::ms.zip gs from h) with e | h
  .obtain⟨e1,e2⟩:=Prod.mk.inj e;rcases Y8.mp (show (x,b)∈(m,g)::ms.zip gs from h') with e' | h'
   .rw[e2,(Prod.mk.inj e').2]
   .exact absurd (e1 ▸ (List.of_mem_zip h').1) d1
  .rcases Y8.mp (show (x,b)∈(m,g)::ms.zip gs from h') with e' | h'
   .exact absurd ((Prod.mk.inj e').1 ▸ (List.of_mem_zip h).1) d1
   .exact I9 d2 h h'
structure Pls(ms gs:ZD)(XM:ZX)(ss:ZD):Prop where
 f:Bk ms XM ss
 n:∀x t,Zb XM (.inr x)=some t->Zw4 t
 g:∀x∈ss,∃g,(x,g)∈ms.zip gs/\¬ G4 g
structure MkC(C:Cs):Prop where
 dr:Uj C
 pl:∀{s:Str} (ns:ZD),(s="whole" \/ s="truth" \/ s="text")->Tp C "_law_plain" [.f (.str s)] (yj (Zjp ns))
 pa:∀{ns:ZD} {XM:ZX} (s:Str),0<ns.length->ns.length<=8->(∀x t,Zb XM x=some t->Shp ns t)->Tp C "_law_parts" [.f (.lst (ns.map .str)),.f (.dct XM),.f (.str s)] (Ap ns XM (decide (s="record")))
 st:∀{ns:ZD} {b:Bool} {ps:ZZ},Y3 ns b ps->Tp C "_law_struck" [.f (.tup ps)] rn
 nm:Tp C "_law_names" [] Q8
 lt:Ia C
set_option maxHeartbeats 2000000 in
theorem make1{w:W}(H:MkC w.C){pt:Nat->Bool}{ms gs:ZD}(n0:0<ms.length)(n8:ms.length<=8){D:En}{S1:Sl}
    (q:∀XM ss zs i l k s5 s6,TP (Zm zs i l k)->Pls ms gs XM ss->(∀q∈ms.zip gs,G4 q.2\/q.1∈ss)->D.nx [.o (Zm zs i l k),.f (.lst (ms.map .str)),S1,.f (.lst (gs.map .str)),.o (.dct XM),s5,s6,.no,.no])
    {zs:ZL} {i l k:Int} (tp:TP (Zm zs i l k)) (hg:∀g∈gs,g∈Cw) :
    Rj (λx s D=>on (asg (.tup (Zy (.v 5) (.v 6))) x s) λs1=>wS w pt (.seq (.ite (.pr (.cm .isin) (Zy (.v 6) (.tup (Jc (ks "whole") (ks "truth") (ks "text")))))
    (Yv (.put 4 (.v 5) (.call "_law_plain" (Zy (.io 0) (.v 6)))))
    .nil)
   (.seq (.ite (.pr (.cm .isin) (Zy (.v 6) (.tup (Zy (ks "row") (ks "map")))))
    (Yv (.put 4 (.v 5) (.tup (Jc (.v 6) (Zw (.v 1) (.call "_law_draw" (Zy (.io 0) (W4 (.v 1))))) (Zw (.lst (Rb (ki 0) (ki 1) (ki 2) (ki 20))) (.call "_law_draw" (Zy (.io 0) (ki 4))))))))
    .nil)
   .nil)) s1 D) ((ms.zip gs).map Nc) [.o (Zm zs i l k),.f (.lst (ms.map .str)),S1,.f (.lst (gs.map .str)),.o (.dct []),.no,.no,.no,.no] D:=by
  have sl:=sizeLine_eq;have l0:(0:Int)<((ms.map T.str).length:Nat):=by rw[Vq];omega
  have l1:(((ms.map T.str).length:Nat):Int)<=1000000:=by rw[Vq];omega
  refine Jn (λrest p=>∃rs XM ss zs i l k s5 s6,rest=rs.map Nc/\p=[.o (Zm zs i l k),.f (.lst (ms.map .str)),S1,.f (.lst (gs.map .str)),.o (.dct XM),s5,s6,.no,.no]/\TP (Zm zs i l k)/\Pls ms gs XM ss/\(∀q∈ms.zip gs,q∈rs\/G4 q.2\/q.1∈ss)/\∀q∈rs,q∈ms.zip gs) ⟨ms.zip gs,[],[],zs,i,l,k,_,_,rfl,rfl,tp,⟨⟨rfl,List.Pairwise.nil,λx m=>absurd m U2,λx m=>absurd m U2⟩,λx t z=>(nomatch z),λx m=>absurd m U2⟩,λq m=>.inl m,λq m=>m⟩ (λx r p D' hi nx _=>?_) λp hi=>?_
  . obtain⟨rs,XM,ss,zs,i,l,k,s5,s6,hr,rfl,tp,hf,hq,hm⟩:=hi
    cases rs with
    | nil=>cases hr
    | cons yg rs =>
      obtain⟨y,g⟩:=yg;cases hr;have hz:=List.of_mem_zip (hm _ V4);have Ly:∀q∈rs,q∈ms.zip gs:=λq m=>hm q (Uz _ m);have hl:XM.length<sizeLine:=by have:=hf.f.len;have:=Ju hf.f.d hf.f.n;omega
      have more:¬ G4 g->∀t zs i l k,TP (Zm zs i l k)->Zjp ms t->D'.nx [.o (Zm zs i l k),.f (.lst (ms.map .str)),S1,.f (.lst (gs.map .str)),.o (.dct (Y9 XM (.inr y) t)),.f (.str y),.f (.str g),.no,.no]:=λng t zs i l k tp ht=>by
        obtain⟨us,h1,h2,_⟩:=hf.f.put hz.1 ht.1;refine nx _ ⟨rs,_,us,zs,i,l,k,_,_,rfl,rfl,tp,⟨h1,λx u e=>?_,λx m=>?_⟩,λq mq=>?_,Ly⟩
        . rw[Vv]at e
          split at e
          . cases e;exact ht.2
          . exact hf.n x u e
        . rcases(h2 x).mp m with m | rfl
          . exact hf.g x m
          . exact⟨g,hm _ V4,ng⟩
        rcases hq q mq with z | z | z
        . rcases Y8.mp z with rfl | z
          . exact .inr (.inr ((h2 _).mpr (.inr rfl)))
          . exact .inl z
        . exact .inr (.inl z)
        . exact .inr (.inr ((h2 _).mpr (.inl z)))
      rcases fu (hg g hz.2) with h | h | h
      . rcases h with rfl | rfl | rfl
        . refine W1 (H.pl ms (.inl rfl)) tp λr zs i l k hr tp=>?_
          obtain⟨t,rfl,ht⟩:=hr;refine Ck hl ?_;exact more (by unfold G4;decide +kernel) _ _ _ _ _ tp ht
        . refine W1 (H.pl ms (.inr (.inl rfl))) tp λr zs i l k hr tp=>?_
          obtain⟨t,rfl,ht⟩:=hr;refine Ck hl ?_;exact more (by unfold G4;decide +kernel) _ _ _ _ _ tp ht
        . refine W1 (H.pl ms (.inr (.inr rfl))) tp λr zs i l k hr tp=>?_
          obtain⟨t,rfl,ht⟩:=hr;refine Ck hl ?_;exact more (by unfold G4;decide +kernel) _ _ _ _ _ tp ht
      . rcases h with rfl | rfl
        . refine Zn H.dr tp l0 l1 λr zs i l k r0 r1 tp=>?_
          refine V2 r0 r1 λo ho=>?_;refine Zn H.dr tp XS XS λr zs i l k r0 r1 tp=>?_;refine Md 0 20 r0 r1 rfl λj j0 j1 _=>?_;refine Ck hl ?_;exact more (by unfold G4;decide +kernel) _ _ _ _ _ tp ⟨.row ho j0 j1,λ_ _ z=>(nomatch z)⟩
        . refine Zn H.dr tp l0 l1 λr zs i l k r0 r1 tp=>?_
          refine V2 r0 r1 λo ho=>?_;refine Zn H.dr tp XS XS λr zs i l k r0 r1 tp=>?_;refine Md 0 20 r0 r1 rfl λj j0 j1 _=>?_;refine Ck hl ?_;exact more (by unfold G4;decide +kernel) _ _ _ _ _ tp ⟨.map ho j0 j1,λ_ _ z=>(nomatch z)⟩
      . have no:D'.nx [.o (Zm zs i l k),.f (.lst (ms.map .str)),S1,.f (.lst (gs.map .str)),.o (.dct XM),.f (.str y),.f (.str g),.no,.no]:=by
          refine nx _ ⟨rs,_,ss,zs,i,l,k,_,_,rfl,rfl,tp,hf,λq mq=>?_,Ly⟩;rcases hq q mq with z | z | z
          . rcases Y8.mp z with rfl | z
            . exact .inr (.inl h)
            . exact .inl z
          . exact .inr (.inl z)
          . exact .inr (.inr z)
        rcases h with rfl | rfl
        . exact no
        . exact no
  . obtain⟨rs,XM,ss,zs,i,l,k,s5,s6,hr,rfl,tp,hf,hq,hm⟩:=hi
    refine q XM ss zs i l k s5 s6 tp hf λq mq=>?_;rcases hq q mq with z | z
    . cases rs with
      | nil=>cases z
      | cons _ _=>cases hr
    . exact z
set_option maxHeartbeats 2000000 in
theorem make2{w:W}(H:MkC w.C){t0:T}{ms gs:ZD}(md:ms.Nodup)(n0:0<ms.length)(n8:ms.length<=8){D:En}{S1:Sl}{R0:ZX}{ss0:ZD}(hp0:Pls ms gs R0 ss0)
    (q:∀XM ss zs i l k s4 s5 s6 s8,TP (Zm zs i l k)->Bk ms XM ss->Tn XM->(∀q∈ms.zip gs,q.1∈ss)->D.nx [.o (Zm zs i l k),.f (.lst (ms.map .str)),S1,.f (.lst (gs.map .str)),s4,s5,s6,.o (.dct XM),s8])
    {zs:ZL} {i l k:Int} (tp:TP (Zm zs i l k)) (hg:∀g∈gs,g∈Cw) (h0:∀q∈ms.zip gs,G4 q.2\/q.1∈ss0) (s5 s6:Sl) :
    Rj (λx s D=>on (asg (.tup (Zy (.v 5) (.v 6))) x s) λs1=>wS w (Vw [.o t0]) (.seq (.ite (.pr (.cm .isin) (Zy (.v 6) (.tup (Zy (ks "record") (ks "choice")))))
    (.seq (.set 8 (.call "_law_parts" (Rb (.io 0) (.v 1) (.v 4) (.v 6))))
   (.seq (.put 7 (.v 5) (.tup (Jc (.v 6) (.v 8) (.call "_law_struck" (Zy (.io 0) (.v 8))))))
   .nil))
    .nil)
   (.seq (.ite (Vz (.v 6) (ks "choice"))
    (Yv (.put 7 (.v 5) (N9 (Zw (.v 7) (.v 5)) (.tup (Ze (Vz (.call "_law_draw" (Zy (.io 0) (ki 2))) (ki 1)))))))
    .nil)
   .nil)) s1 D) ((ms.zip gs).map Nc) [.o (Zm zs i l k),.f (.lst (ms.map .str)),S1,.f (.lst (gs.map .str)),.o (.dct R0),s5,s6,.o (.dct R0),.no] D:=by
  have sl:=sizeLine_eq;have hf0:=hp0.f;refine Jn (λrest p=>∃rs XM ss zs i l k s4 s5 s6 s8,rest=rs.map Nc/\p=[.o (Zm zs i l k),.f (.lst (ms.map .str)),S1,.f (.lst (gs.map .str)),s4,s5,s6,.o (.dct XM),s8]/\OF s4 (.dct R0)/\TP (Zm zs i l k)/\Bk ms XM ss/\(Tn XM/\(∀o s,Zb R0 (.inr o)=some s->Zb XM (.inr o)=some s)/\∀x t,Zb XM (.inr x)=some t->Zb R0 (.inr x)=some t\/∀d,¬ Vt t d)/\(∀q∈ms.zip gs,(G4 q.2/\q∈rs)\/q.1∈ss)/\∀q∈rs,q∈ms.zip gs) ⟨ms.zip gs,R0,ss0,zs,i,l,k,_,_,_,_,rfl,rfl,.inl rfl,tp,hf0,⟨λx t e ps us e'=>absurd e' (hp0.n x t e ps us),λ_ _ e=>e,λ_ _ e=>.inl e⟩,λq m=>(h0 q m).imp (λz=>⟨z,m⟩) id,λq m=>m⟩ (λx r p D' hi nx _=>?_) λp hi=>?_
  . obtain⟨rs,XM,ss,zs,i,l,k,s4,s5,s6,s8,hr,rfl,hof,tp,hf,⟨hx,hK,hN⟩,hq,hm⟩:=hi
    cases rs with
    | nil=>cases hr
    | cons yg rs =>
      obtain⟨y,g⟩:=yg;cases hr;have hz:=List.of_mem_zip (hm _ V4);have Ly:∀q∈rs,q∈ms.zip gs:=λq m=>hm q (Uz _ m);have hl:XM.length<100:=by have:=hf.len;have:=Ju hf.d hf.n;omega
      have hk0:∀x t,Zb R0 x=some t->Shp ms t:=λx t e=>by
        obtain⟨p,mp,rfl,_⟩:=Ni e;exact hf0.p p mp
      have more:G4 g->∀t zs i l k s8,TP (Zm zs i l k)->Shp ms t->(∀d,¬ Vt t d)->La XM t->D'.nx [.o (Zm zs i l k),.f (.lst (ms.map .str)),S1,.f (.lst (gs.map .str)),.f (.dct R0),.f (.str y),.f (.str g),.o (.dct (Y9 XM (.inr y) t)),s8]:=λrc t zs i l k s8 tp ht nt ft=>by
        obtain⟨us,h1,h2,_⟩:=hf.put hz.1 ht
        have y0:Zb R0 (.inr y)=none:=by
          cases e:Zb R0 (.inr y) with
          | none=>rfl
          | some u =>
            have:=zt e;rw[hf0.k]at this;obtain⟨y',my,ey⟩:=Og.mp this;cases ey;obtain⟨g',mg,ng⟩:=hp0.g _ my;rw[I9 md (hm _ V4) mg]at rc;exact absurd rc ng
        have kp:yx XM (Y9 XM (.inr y) t):=R3 λu d e f=>by
          rcases hN y u e with z | z
          . rw[y0]at z;cases z
          . exact absurd f (z d)
        refine nx _ ⟨rs,_,us,zs,i,l,k,_,_,_,_,rfl,rfl,.inr rfl,tp,h1,⟨hx.put kp ft,λo u e=>?_,λo u e=>?_⟩,λq mq=>?_,Ly⟩
        . rw[Vv]
          split
          . rename_i z;cases z;rw[y0]at e;cases e
          . exact hK o u e
        . rw[Vv]at e
          split at e
          . cases e;exact .inr nt
          . exact hN o u e
        rcases hq q mq with ⟨z1,z⟩ | z
        . rcases Y8.mp z with rfl | z
          . exact .inr ((h2 _).mpr (.inr rfl))
          . exact .inl ⟨z1,z⟩
        . exact .inr ((h2 _).mpr (.inl z))
      rcases fu (hg g hz.2) with h | h | h
      . have ng:¬ G4 g:=by rcases h with rfl | rfl | rfl<;>(unfold G4;decide +kernel)
        have no:D'.nx [.o (Zm zs i l k),.f (.lst (ms.map .str)),S1,.f (.lst (gs.map .str)),s4,.f (.str y),.f (.str g),.o (.dct XM),s8]:=by
          refine nx _ ⟨rs,_,ss,zs,i,l,k,_,_,_,_,rfl,rfl,hof,tp,hf,⟨hx,hK,hN⟩,λq mq=>?_,Ly⟩;rcases hq q mq with ⟨z1,z⟩ | z
          . rcases Y8.mp z with rfl | z
            . exact absurd z1 ng
            . exact .inl ⟨z1,z⟩
          . exact .inr z
        rcases h with rfl | rfl | rfl<;>exact no
      . have ng:¬ G4 g:=by rcases h with rfl | rfl<;>(unfold G4;decide +kernel)
        have no:D'.nx [.o (Zm zs i l k),.f (.lst (ms.map .str)),S1,.f (.lst (gs.map .str)),s4,.f (.str y),.f (.str g),.o (.dct XM),s8]:=by
          refine nx _ ⟨rs,_,ss,zs,i,l,k,_,_,_,_,rfl,rfl,hof,tp,hf,⟨hx,hK,hN⟩,λq mq=>?_,Ly⟩;rcases hq q mq with ⟨z1,z⟩ | z
          . rcases Y8.mp z with rfl | z
            . exact absurd z1 ng
            . exact .inl ⟨z1,z⟩
          . exact .inr z
        rcases h with rfl | rfl<;>exact no
      . rcases h with rfl | rfl
        . refine m9 hof rfl ?_
          refine W1 (H.pa "record" n0 n8 hk0) tp λr zs i l k hr tp=>?_;obtain⟨ps,rfl,hps,hpf⟩:=hr;refine W1 (H.st hps) tp λr zs i l k hr tp=>?_;obtain⟨us,rfl,hus⟩:=hr;refine Ck XS ?_;exact more (.inl rfl) _ _ _ _ _ _ tp (.record hps hus) (λd z=>by cases z) λYw U3 e p m=>by cases e;exact(hpf p m).keep λo u d e _=>hK o u e
        . refine m9 hof rfl ?_
          refine W1 (H.pa "choice" n0 n8 hk0) tp λr zs i l k hr tp=>?_;obtain⟨ps,rfl,hps,hpf⟩:=hr;refine W1 (H.st hps) tp λr zs i l k hr tp=>?_;obtain⟨us,rfl,hus⟩:=hr;refine Ck XS ?_;refine M5 (x:=.tup [.str "choice",.tup ps,.tup us]) (by rw[Vv,if_pos rfl]) ?_;refine Zn H.dr tp XS XS λr zs i l k r0 r1 tp=>?_;have e:=hf.len;obtain⟨U3,h1,_⟩:=R1 (x:=y) (v:=.tup [.str "choice",.tup ps,.tup us]) hf.k hf.d;refine Ck ?_ ?_
          . unfold Y9
            split
            . rw[Vq];omega
            . rw[W7,ZI];omega
          . rw[Zze]
            exact more (.inr rfl) _ _ _ _ _ _ tp (.choice hps hus) (λd z=>by cases z) λYw U3 e p m=>by cases e
  . obtain⟨rs,XM,ss,zs,i,l,k,s4,s5,s6,s8,hr,rfl,hof,tp,hf,⟨hx,hK,hN⟩,hq,hm⟩:=hi
    refine q XM ss zs i l k s4 s5 s6 s8 tp hf hx λq mq=>?_;rcases hq q mq with ⟨_,z⟩ | z
    . cases rs with
      | nil=>cases z
      | cons _ _=>cases hr
    . exact z
set_option maxHeartbeats 2000000 in
theorem Zqx{w:W}(H:MkC w.C):Td Gr w [] R4:=by
 intro zs i l k tp;refine Yz rfl λD rt _=>?_;refine W1 H.nm tp λr zs i l k hr tp=>?_;obtain⟨ns,rfl,l8,nd,po⟩:=hr;refine Zn H.dr tp XS XS λr zs i l k r0 r1 tp=>?_;refine Md 1 8 r0 r1 rfl λj j1 j8 _=>?_;have e:G6 (ns.map .str) none (some j)=(ns.take j.toNat).map .str:=by rw[cut_to XS (by rw[Vq];omega),List.map_take]
 show wS w _ _ [.o (Zm zs i l k),.o (.lst (G6 (ns.map .str) none (some j))),.no,.no,.no,.no,.no,.no,.no] _;rw[e];have m0:0<(ns.take j.toNat).length:=by rw[L0t];omega
 have m8:(ns.take j.toNat).length<=8:=by rw[L0t];omega
 have md:(ns.take j.toNat).Nodup:=(List.take_sublist _ _).nodup nd;have mp:∀x∈ns.take j.toNat,x∈aq:=λx m=>po x (List.mem_of_mem_take m);generalize ns.take j.toNat=ms at m0 m8 md mp ⊢;refine Jb (λrest acc p=>∃gs zs i l k s0,acc=gs.map T.str/\gs.length+rest.length=ms.length/\(∀g∈gs,g∈Cw)/\TP (Zm zs i l k)/\p=[s0,.o (.lst (Cw.map .str)),.o (Zm zs i l k)]) ⟨[],zs,i,l,k,_,rfl,by simp,λg m=>absurd m U2,tp,rfl⟩ (λx r acc p K hi ky kn=>?_) λacc p hi=>?_
 .obtain⟨gs,zs,i,l,k,s0,rfl,hl,hg,tp,rfl⟩:=hi;refine Zn H.dr tp XS XS λr zs i l k r0 r1 tp=>?_;refine V2 (ss:=Cw) r0 r1 λg mg=>?_;refine ky _ _ ⟨gs++[g],zs,i,l,k,_,by rw[Ku];rfl,by rw[W7,ZI];rw[Rz]at hl;omega,λa ma=>?_,tp,rfl⟩;rcases yk.mp ma with ma | ma
  .exact hg a ma
  .cases F8.mp ma;exact mg
 obtain⟨gs,zs,i,l,k,s0,rfl,hl,hg,tp,rfl⟩:=hi;have hl:ms.length=gs.length:=by simpa using hl.symm
 show wS w _ _ [.o (Zm zs i l k),.f (.lst (ms.map .str)),.o (.lst (Cw.map .str)),.o (.lst (gs.map .str)),.no,.no,.no,.no,.no] _;refine Zji (Rx ms gs) ?_;refine make1 H m0 m8 (λXM ss zs i l k s5 s6 tp hf hq=>?_) tp hg;refine Zji (Rx ms gs) ?_;refine make2 H md m0 m8 hf (λXM ss zs i l k s4 s5 s6 s8 tp hf hfit hq=>?_) tp hg hq s5 s6;have l0:(0:Int)<((ms.map T.str).length:Nat):=by rw[Vq];omega
 have l1:(((ms.map T.str).length:Nat):Int)<=1000000:=by rw[Vq];omega
 refine Zn H.dr tp l0 l1 λr zs i l k r0 r1 tp=>?_;refine V2 r0 r1 λo ho=>?_
 have sub:∀x∈ms,x∈ss:=λx m=>by
  obtain⟨y,my⟩:=Nr hl m;exact hq _ my
 have le:=Ju hf.d hf.n;have ge:=Ju md sub;refine Zx (H.lt (root:=o) (XM:=XM) (ss:=ss) ⟨⟨hf.k,hf.d,λx m=>m,λp m=>(hf.p p m).mono sub⟩,by omega,by omega,λx m=>mp x (hf.n x m),sub o ho,hfit⟩) λx hx=>?_;obtain⟨kvs',hm,rfl⟩:=hx;exact rt _ _ ⟨_,_,⟨_,_,_,rfl,hm⟩,tp,rfl⟩
def isIn(lo hi:Int)(t:T):Prop:=∃v:Int,t=.int v/\lo<=v/\v<=hi
theorem Bu{w:W}(hD:Uj w.C){n lo hi:Int}(h:lo<=hi):Td Yc w [.f (.int n),.f (.int lo),.f (.int hi)] (yj (isIn lo hi)):=by
 intro zs i l k tp;refine Yz rfl λD rt _=>?_;refine Zn hD tp XS XS λr zs i l k r0 r1 tp=>?_;refine Md (-1) 2 r0 r1 rfl λd _ _ _=>?_;exact rt _ _ ⟨.f (.int (if (if n+d<hi then n+d else hi)>lo then (if n+d<hi then n+d else hi) else lo)),_,⟨_,rfl,_,rfl,by split<;>omega,by split<;>split<;>omega⟩,tp,rfl⟩
def Zwi(C:Cs):Prop:=∀{n lo hi:Int},lo<=hi->Tp C "_law_number_turned" [.f (.int n),.f (.int lo),.f (.int hi)] (yj (isIn lo hi))
theorem S8{ns:ZD}{k:Bool}:∀{ps:ZZ},(∀t∈ps,W5 ns k t)->B2 ps=some (ps.map Ys)
 | [],_=>rfl
 | t::ps,h=>by
  have ih:=S8 λt m=>h t (Uz _ m);cases h t V4 with
  | mk _ _ _ _ =>
   show (B2 ps).map _=_;rw[ih];rfl
theorem ir{ns:ZD}{k:Bool}{ps:ZZ}(h:Y3 ns k ps):∃us,jz ps=some us/\Y3 ns k us:=by
 have hh:=S8 h.p
 have pm:((SRT.Rk ((ps.map Ys).zip ps)).map (·.2)).Perm ps:=by
  have:=(SRT.D3 ((ps.map Ys).zip ps)).map (·.2);rw[List.map_snd_zip (by rw[Vq];omega)]at this;exact this
 refine⟨(SRT.Rk ((ps.map Ys).zip ps)).map (·.2),?_,?_,?_,λt m=>h.p t (pm.mem_iff.mp m)⟩
 .unfold jz;rw[hh];show (if _ then _ else _)=_;rw[if_pos ⟨h.d,by have:=h.l;omega⟩]
 .rw[pm.length_eq];exact h.l
 .exact((pm.map Ys).nodup_iff).mpr h.d
theorem Y3.set{ns:ZD}{k:Bool}{ps:ZZ}{j:Nat}{x y:T}(h:Y3 ns k ps)(e:ps[j]?=some x)(hy:W5 ns k y)(hd:Ys y=Ys x):Y3 ns k (ps.set j y):=by
 have em:(ps.set j y).map Ys=ps.map Ys:=by
  rw[List.map_set];refine List.ext_getElem? λi=>?_;rw[List.getElem?_set]
  split
  .rename_i z
   subst z;have hl:=(W8.mp e).1;rw[if_pos (by rw[Vq];exact hl),Oj,e,hd];rfl
  .rfl
 refine⟨by rw[XY];exact h.l,by rw[em];exact h.d,λp m=>?_⟩;rcases List.mem_or_eq_of_mem_set m with m | rfl
 .exact h.p p m
 .exact hy
theorem Y3.app{ns:ZD}{k:Bool}{ps:ZZ}{y:T}(h:Y3 ns k ps)(l:ps.length<8)(hy:W5 ns k y)(hd:∀z∈ps.map Ys,z≠Ys y):Y3 ns k (ps++[y]):=by
 refine⟨by rw[W7,ZI];omega,?_,λp m=>?_⟩
 .rw[Ku,List.nodup_append];refine⟨h.d,by simp,λa ma b mb=>?_⟩;rw[show b=Ys y by simpa using mb];exact hd a ma
 .rcases yk.mp m with m | m
  .exact h.p p m
  .cases F8.mp m;exact hy
theorem dm{ts:ZZ}{i:Int}{t:T}{Q:T->Prop}(h0:0<=i)(h1:i<ts.length)(q:Q (.lst (ts.set i.toNat t))):on (putAt (.lst ts) (.int i) t) Q:=by
 refine Z8 ?_ q;show (Q6 ts.length i).map _=_;unfold Q6;rw[if_pos h0,if_pos h1];rfl
theorem Zjt{ts:ZZ}{i:Int}{t:T}(h0:0<=i)(h1:i<ts.length):Tq (ts.set i.toNat t) i=some t:=by
 unfold Tq Q6;rw[if_pos h0,XY,if_pos h1];show (ts.set i.toNat t)[i.toNat]?=_;rw[List.getElem?_set_self XS]
noncomputable def Qr(k:Bool)(ps us:ZZ)(b:Bool):T:=match k with
 | true=>.tup [.str "record",.tup ps,.tup us]
 | false=>.tup [.str "choice",.tup ps,.tup us,.bl b]
set_option maxHeartbeats 2000000 in
theorem gm{w:W}(hD:Uj w.C){ns:ZD}{a0:List Sl}{k:Bool}{ps0 us ps:ZZ}{b:Bool}(hs:Stk us)(hp:Y3 ns k ps){D:En}{N1:Sl}(rt:∀r zs i l k' p,TP (Zm zs i l k')->Shp ns r->p.length=12->D.rt (.f r) (.o (Zm zs i l k')::p))
  {zs:ZL} {i l k':Int} (tp:TP (Zm zs i l k')) (t0:T) (s3 s4 s6 s7 s8 s9:Sl) :
  wS w (Vw [.o t0,.f (.lst (ns.map .str)),.f (Qr k ps0 us b)]) (Yd 8 Zf) [.o (Zm zs i l k'),N1,.f (Qr k ps0 us b),s3,s4,.o (.lst ps),s6,s7,s8,s9,.no,.no,.no] D:=by
 obtain⟨zz,rfl,zl,zb⟩:=hs;obtain⟨qs,eq,hq⟩:=ir hp;cases k
 all_goals
  refine zf hp.p λs0=>?_;refine Jb (λrest acc p=>∃rs ms s0,rest=rs.map T.int/\acc=ms.map T.int/\(ms++rs).Sublist zz/\p=[s0,.o (.lst ((ps.map Ys).map .int))]) ⟨zz,[],_,rfl,rfl,List.Sublist.refl _,rfl⟩ (λx r acc p K hi ky kn=>?_) λacc p hi=>?_
  .obtain⟨rs,ms,s0,hr,rfl,hs,rfl⟩:=hi;cases rs with
   | nil=>cases hr
   | cons z rs =>
    cases hr;refine Qi ?_;refine Zk (b:=!((ps.map Ys).any λy=>decide (y=z))) (λ_=>?_) λ_=>?_
    .exact ky _ _ ⟨rs,ms++[z],_,rfl,by rw[Ku];rfl,by rw[XX];exact hs,rfl⟩
    .exact kn _ ⟨rs,ms,_,rfl,rfl,(List.Sublist.append (List.Sublist.refl _) (List.sublist_cons_self _ _)).trans hs,rfl⟩
  obtain⟨rs,ms,s0,hr,rfl,hs,rfl⟩:=hi;have hs:ms.Sublist zz:=(List.sublist_append_left _ _).trans hs;have st:Stk (ms.map .int):=⟨ms,rfl,Tg hs.length_le zl,λz m=>zb z (hs.subset m)⟩;refine srtP eq ?_
 .refine Zn hD tp XS XS λr zs i l k r0 r1 tp=>?_;exact rt _ _ _ _ _ _ tp (.choice hq st) rfl
 .exact rt _ _ _ _ _ _ tp (.record hq st) rfl
theorem bit{b:Bool}:(0:Int)<=(if b=true then 1 else 0)/\(if b=true then (1:Int) else 0)<2:=by cases b<;>decide
theorem Ru:∀a∈[("f" : Str),"g","h","k","b"],a.length=1/\∀c∈a.cps.toList,97<=c/\c<=122:=by decide +kernel
def vq:S->S
 | .seq (.ite _ _ b) _=>b
 | s=>s
theorem zk{j:Int}(h:T.int j∈[1,2,3,9,10,500].map T.int):j∈Mb:=by
 obtain⟨z,mz,ez⟩:=Og.mp h;cases ez;exact(show ∀z∈[1,2,3,9,10,500],z∈Mb by decide) j mz
set_option maxHeartbeats 4000000 in
theorem Xy{w:W}(hD:Uj w.C)(hW:Ks w.C){ns:ZD}(n0:0<ns.length)(n8:ns.length<=8){k:Bool}{us ps:ZZ}{b:Bool}(hs:Stk us)(hp:Y3 ns k ps){D:En}(rt:∀r zs i l k' p,TP (Zm zs i l k')->Shp ns r->p.length=12->D.rt (.f r) (.o (Zm zs i l k')::p))
  {zs:ZL} {i l k':Int} (tp:TP (Zm zs i l k')) (t0:T) :
  wS w (Vw [.o t0,.f (.lst (ns.map .str)),.f (Qr k ps us b)]) (Yd 4 Zf) [.o (Zm zs i l k'),.f (.lst (ns.map .str)),.f (Qr k ps us b),.no,.no,.no,.no,.no,.no,.no,.no,.no,.no] D:=by
 have sl:=sizeLine_eq;have l0:(0:Int)<((ns.map T.str).length:Nat):=by rw[Vq];omega
 have l1:(((ns.map T.str).length:Nat):Int)<=1000000:=by rw[Vq];omega
 have pl:=hp.l;have fin:∀{Yw:ZZ} {zs i l k'} (s3 s4 s6 s7 s8 s9:Sl),TP (Zm zs i l k')->Y3 ns k Yw->wS w (Vw [.o t0,.f (.lst (ns.map .str)),.f (Qr k ps us b)]) (Yd 8 Zf) [.o (Zm zs i l k'),.f (.lst (ns.map .str)),.f (Qr k ps us b),s3,s4,.o (.lst Yw),s6,s7,s8,s9,.no,.no,.no] D:=λs3 s4 s6 s7 s8 s9 tp K4=>gm hD (a0:=[]) hs K4 rt tp t0 s3 s4 s6 s7 s8 s9;cases k
 all_goals
  refine Zn hD tp XS XS λa zs i l k a0 a1 tp=>?_;refine Zn hD tp XS XS λway zs i l k w0 w1 tp=>?_;show wS w _ _ [.o (Zm zs i l k),.f (.lst (ns.map .str)),.f (Qr _ ps us b),.no,.no,.o (.lst ps),.f (.int a),.f (.int way),.no,.no,.no,.no,.no] _
 .have p8:wS w (Vw [.o t0,.f (.lst (ns.map .str)),.f (Qr false ps us b)]) (vq (vq (Yd 7 Zf))) [.o (Zm zs i l k),.f (.lst (ns.map .str)),.f (Qr false ps us b),.no,.no,.o (.lst ps),.f (.int a),.f (.int way),.no,.no,.no,.no,.no] ⟨λq=>wS w (Vw [.o t0,.f (.lst (ns.map .str)),.f (Qr false ps us b)]) (Yd 8 Zf) q D,D.rt,D.bk,D.ct⟩:=by
   refine Zn hD tp XS XS λr zs i l k r0 r1 tp=>?_;refine Md 1 500 r0 r1 rfl λj _ _ mj=>?_;have hj:j∈Mb:=zk mj;refine Ob hW hj ?_;have xv:=Ny (Ru "k" XH) hj;refine Kl (by have:=xv.1;rw[Str.length_append]at this;omega) ?_;refine Zn hD tp l0 l1 λr zs i l k r0 r1 tp=>?_;refine V2 r0 r1 λo ho=>?_;refine zf hp.p λs0=>?_;refine Qi ?_;refine Zk (b:=!((ps.map Ys).any λy=>decide (y=j))) (λh=>?_) λ_=>fin _ _ _ _ _ _ tp hp;refine Zk (b:=decide (((ps.length:Nat):Int)<8)) (λh2=>?_) λ_=>fin _ _ _ _ _ _ tp hp;have h2:=D9 h2;refine Ui XS ?_;exact fin _ _ _ _ _ _ tp (hp.app XS (.mk hj xv ho trivial) (uo h))
  have els:wS w (Vw [.o t0,.f (.lst (ns.map .str)),.f (Qr false ps us b)]) (vq (Yd 7 Zf)) [.o (Zm zs i l k),.f (.lst (ns.map .str)),.f (Qr false ps us b),.no,.no,.o (.lst ps),.f (.int a),.f (.int way),.no,.no,.no,.no,.no] ⟨λq=>wS w (Vw [.o t0,.f (.lst (ns.map .str)),.f (Qr false ps us b)]) (Yd 8 Zf) q D,D.rt,D.bk,D.ct⟩:=by
   refine Zk (b:=decide (way<3)) (λ_=>?_) λ_=>p8;refine Zk (b:=decide (a<((ps.length:Nat):Int))) (λh2=>?_) λ_=>p8;have h2:=D9 h2;obtain⟨x,atx,gx,mx⟩:=Wl a0 h2;obtain⟨n,y,o,rfl,hn,hy,ho⟩:=(hp.p x mx).cho;refine Bi atx ?_;refine Zn hD tp l0 l1 λr zs i l k r0 r1 tp=>?_;refine V2 r0 r1 λo1 a8=>?_;refine Zn hD tp XS XS λr zs i l k r0 r1 tp=>?_;refine V2 (ss:=[o,o1]) (bit (b:=decide (r=0))).1 (bit (b:=decide (r=0))).2 λo2 Cf=>?_
   have Cf:o2∈ns:=by
    simp only[Y8,U2,or_false]at Cf;rcases Cf with rfl | rfl
    .exact ho
    .exact a8
   refine Bi atx ?_;refine Bi atx ?_;refine Ob hW hn ?_;have xv:=Ny (Ru "h" XH) hn;refine Kl (by have:=xv.1;rw[Str.length_append]at this;omega) ?_;refine Bi atx ?_;refine dm a0 h2 ?_;exact fin _ _ _ _ _ _ tp (hp.set gx (.mk hn xv Cf trivial) rfl)
  refine Zk (b:=decide (way=0)) (λ_=>?_) λ_=>els;refine Zk (b:=decide (a<((ps.length:Nat):Int))) (λh2=>?_) λ_=>els;refine popP a0 (D9 h2) λx _ _=>?_;exact fin _ _ _ _ _ _ tp (hp.sub (List.eraseIdx_sublist _ _))
 .have p8:wS w (Vw [.o t0,.f (.lst (ns.map .str)),.f (Qr true ps us b)]) (vq (vq (Yd 7 Zf))) [.o (Zm zs i l k),.f (.lst (ns.map .str)),.f (Qr true ps us b),.no,.no,.o (.lst ps),.f (.int a),.f (.int way),.no,.no,.no,.no,.no] ⟨λq=>wS w (Vw [.o t0,.f (.lst (ns.map .str)),.f (Qr true ps us b)]) (Yd 8 Zf) q D,D.rt,D.bk,D.ct⟩:=by
   refine Zn hD tp XS XS λr zs i l k r0 r1 tp=>?_;refine Md 1 500 r0 r1 rfl λj _ _ mj=>?_;have hj:j∈Mb:=zk mj;refine Ob hW hj ?_;have xv:=Ny (Ru "k" XH) hj;refine Kl (by have:=xv.1;rw[Str.length_append]at this;omega) ?_;refine Zn hD tp l0 l1 λr zs i l k r0 r1 tp=>?_;refine V2 r0 r1 λo ho=>?_;refine Zn hD tp XS XS λr zs i l k r0 r1 tp=>?_;refine ixP r0 r1 λd _ md=>?_
   have hd:oh d:=by
    simp only[Y8,U2,or_false]at md;rcases md with rfl | rfl
    .exact .no
    .exact .is (.int (by unfold K5;decide))
   refine zf hp.p λs0=>?_;refine Qi ?_;refine Zk (b:=!((ps.map Ys).any λy=>decide (y=j))) (λh=>?_) λ_=>fin _ _ _ _ _ _ tp hp;refine Zk (b:=decide (((ps.length:Nat):Int)<8)) (λh2=>?_) λ_=>fin _ _ _ _ _ _ tp hp;have h2:=D9 h2;refine Ui XS ?_;exact fin _ _ _ _ _ _ tp (hp.app XS (.mk hj xv ho hd) (uo h))
  have els:wS w (Vw [.o t0,.f (.lst (ns.map .str)),.f (Qr true ps us b)]) (vq (Yd 7 Zf)) [.o (Zm zs i l k),.f (.lst (ns.map .str)),.f (Qr true ps us b),.no,.no,.o (.lst ps),.f (.int a),.f (.int way),.no,.no,.no,.no,.no] ⟨λq=>wS w (Vw [.o t0,.f (.lst (ns.map .str)),.f (Qr true ps us b)]) (Yd 8 Zf) q D,D.rt,D.bk,D.ct⟩:=by
   refine Zk (b:=decide (way<3)) (λ_=>?_) λ_=>p8;refine Zk (b:=decide (a<((ps.length:Nat):Int))) (λh2=>?_) λ_=>p8;have h2:=D9 h2;obtain⟨x,atx,gx,mx⟩:=Wl a0 h2;obtain⟨n,y,o,ds,rfl,hn,hy,ho,hd⟩:=(hp.p x mx).asR;refine Bi atx ?_;refine Zn hD tp l0 l1 λr zs i l k r0 r1 tp=>?_;refine V2 r0 r1 λo1 a8=>?_;refine Zn hD tp XS XS λr zs i l k r0 r1 tp=>?_;refine V2 (ss:=[o,o1]) (bit (b:=decide (r=0))).1 (bit (b:=decide (r=0))).2 λo2 Cf=>?_
   have Cf:o2∈ns:=by
    simp only[Y8,U2,or_false]at Cf;rcases Cf with rfl | rfl
    .exact ho
    .exact a8
   refine Bi atx ?_;refine Bi atx ?_;refine Ob hW hn ?_;have xv:=Ny (Ru "h" XH) hn;refine Kl (by have:=xv.1;rw[Str.length_append]at this;omega) ?_;refine Bi atx ?_;refine dm a0 h2 ?_;have h1:=hp.set gx (.mk hn xv Cf hd:W5 ns true (.tup [.int n,.str ("h" ++ wd n),.str o2,.tup ds])) rfl;refine Zn hD tp XS XS λr zs i l k r0 r1 tp=>?_;refine Zk (b:=decide (r=0)) (λ_=>?_) λ_=>fin _ _ _ _ _ _ tp h1;refine Zn hD tp XS XS λr zs i l k r0 r1 tp=>?_;refine ixP r0 r1 λs _ ms=>?_
   have hsd:oh s:=by
    simp only[Y8,U2,or_false]at ms;rcases ms with rfl | rfl | rfl
    .exact .is (.int (by unfold K5;decide))
    .exact .is (.int (by unfold K5;decide))
    .exact .is (.str (Xe XH (Ru "b" XH).2))
   have ga:=Zjt (t:=.tup [.int n,.str ("h" ++ wd n),.str o2,.tup ds]) a0 h2;refine Bi ga ?_;refine Bi ga ?_;refine ixP (bit (b:=ds.isEmpty)).1 (bit (b:=ds.isEmpty)).2 λd _ md=>?_
   have hd2:oh d:=by
    simp only[Y8,U2,or_false]at md;rcases md with rfl | rfl
    .exact .no
    .exact hsd
   refine dm a0 (by rw[XY];exact h2) ?_;refine fin _ _ _ _ _ _ tp (h1.set (x:=.tup [.int n,.str ("h" ++ wd n),.str o2,.tup ds]) ?_ (.mk hn xv Cf hd2) rfl);rw[List.getElem?_set_self XS]
  refine Zk (b:=decide (way=0)) (λ_=>?_) λ_=>els;refine Zk (b:=decide (a<((ps.length:Nat):Int))) (λh2=>?_) λ_=>els;refine popP a0 (D9 h2) λx _ _=>?_;exact fin _ _ _ _ _ _ tp (hp.sub (List.eraseIdx_sublist _ _))
theorem wCompE{body:T->P->(Option T->P->Prop)->Prop}{xs ys acc:ZZ}{p:P}{Q:ZZ->P->Prop}(e:xs=ys)(h:Ga body ys acc p Q):Ga body xs acc p Q:=by rw[e];exact h
set_option maxHeartbeats 2000000 in
theorem Cv{w:W}(hD:Uj w.C)(hW:Ks w.C)(hT:Zwi w.C){ns:ZD}(n0:0<ns.length)(n8:ns.length<=8){t:T}(ht:Shp ns t):Td Yu w [.f (.lst (ns.map .str)),.f t] (yj (Shp ns)):=by
 intro zs i l k tp;have l0:(0:Int)<((ns.map T.str).length:Nat):=by rw[Vq];omega
 have l1:(((ns.map T.str).length:Nat):Int)<=1000000:=by rw[Vq];omega
 refine Yz rfl λD rt _=>?_
 have O5:∀r zs i l k' p,TP (Zm zs i l k')->Shp ns r->p.length=12->D.rt (.f r) (.o (Zm zs i l k')::p):=λr zs i l k' p tp hr hp=>by
  refine rt _ _ ?_
  match p,hp with
  | a::b::p,_=>exact⟨_,_,⟨_,rfl,hr⟩,tp,rfl⟩
 cases ht with
 | @whole a b ha hb _ =>
  refine wCompE (ys:=[.int a,.int b]) rfl ?_;refine W1 (hT (lo:=-10 ^ 18) (hi:=10 ^ 18) XU) tp λr zs i l k hr tp=>?_;obtain⟨_,rfl,u,rfl,u0,u1⟩:=hr;refine W1 (hT (lo:=-10 ^ 18) (hi:=10 ^ 18) XU) tp λr zs i l k hr tp=>?_;obtain⟨_,rfl,v,rfl,v0,v1⟩:=hr;exact rt _ _ ⟨.f (.tup [.str "whole",.int (if v<u then v else u),.int (if u<v then v else u)]),_,⟨_,rfl,.whole ⟨by split<;>omega,by split<;>omega⟩ ⟨by split<;>omega,by split<;>omega⟩ (by split<;>split<;>omega)⟩,tp,rfl⟩
 | text h0 h1 =>
  refine W1 (hT (lo:=0) (hi:=200) XU) tp λr zs i l k hr tp=>?_;obtain⟨_,rfl,u,rfl,u0,u1⟩:=hr;exact rt _ _ ⟨_,_,⟨_,rfl,.text u0 u1⟩,tp,rfl⟩
 | truth =>
  refine Zn hD tp XS XS λr zs i l k r0 r1 tp=>?_;refine ixP r0 r1 λx _ mx=>?_;simp only[Y8,U2,or_false]at mx;rcases mx with rfl | rfl | rfl
  .exact rt _ _ ⟨_,_,⟨_,rfl,.truth⟩,tp,rfl⟩
  .exact rt _ _ ⟨_,_,⟨_,rfl,.whole (by unfold K5;decide) (by unfold K5;decide) XU⟩,tp,rfl⟩
  .exact rt _ _ ⟨_,_,⟨_,rfl,.whole (by unfold K5;decide) (by unfold K5;decide) XU⟩,tp,rfl⟩
 | @row o n ho h0 h1 =>
  refine Zn hD tp l0 l1 λr zs i l k r0 r1 tp=>?_;refine V2 r0 r1 λo1 a8=>?_;refine Zn hD tp XS XS λr zs i l k r0 r1 tp=>?_;refine V2 (ss:=[o,o1]) (bit (b:=decide (r=0))).1 (bit (b:=decide (r=0))).2 λo2 Cf=>?_
  have Cf:o2∈ns:=by
   simp only[Y8,U2,or_false]at Cf;rcases Cf with rfl | rfl
   .exact ho
   .exact a8
  refine W1 (hT (lo:=0) (hi:=20) XU) tp λr zs i l k hr tp=>?_;obtain⟨_,rfl,u,rfl,u0,u1⟩:=hr;exact rt _ _ ⟨_,_,⟨_,rfl,.row Cf u0 u1⟩,tp,rfl⟩
 | @map o n ho h0 h1 =>
  refine Zn hD tp l0 l1 λr zs i l k r0 r1 tp=>?_;refine V2 r0 r1 λo1 a8=>?_;refine Zn hD tp XS XS λr zs i l k r0 r1 tp=>?_;refine V2 (ss:=[o,o1]) (bit (b:=decide (r=0))).1 (bit (b:=decide (r=0))).2 λo2 Cf=>?_
  have Cf:o2∈ns:=by
   simp only[Y8,U2,or_false]at Cf;rcases Cf with rfl | rfl
   .exact ho
   .exact a8
  refine W1 (hT (lo:=0) (hi:=20) XU) tp λr zs i l k hr tp=>?_;obtain⟨_,rfl,u,rfl,u0,u1⟩:=hr;exact rt _ _ ⟨_,_,⟨_,rfl,.map Cf u0 u1⟩,tp,rfl⟩
 | @record ps us hp hs=>exact Xy hD hW n0 n8 (k:=true) (b:=true) hs hp O5 tp (Zm zs i l k)
 | @choice ps us b hp hs=>exact Xy hD hW n0 n8 (k:=false) (b:=b) hs hp O5 tp (Zm zs i l k)
theorem maxB{lo hi:Int}{b c:Bool}(le:lo<=hi)(hc:c=decide ((if b=true then 1 else 0)<hi)){Q:Sl->Prop}(q:∀t,(t=.bl b/\lo<=(if b=true then 1 else 0)/\(if b=true then (1:Int) else 0)<=hi)\/(∃z,t=.int z/\lo<=z/\z<=hi)->Q (.f t)):on (Ki .max [.int lo,if c=true then .bl b else .int hi]) Q:=by
 cases c with
 | true =>
  have h1:=D9 hc.symm;show Q (.f (if decide ((if b=true then 1 else 0)>lo)=true then .bl b else .int lo));by_cases h2:(if b=true then (1:Int) else 0)>lo
  .rw[Mz h2,if_pos rfl];exact q _ (.inl ⟨rfl,by omega,by omega⟩)
  .rw[Bf h2,if_neg Nj];exact q _ (.inr ⟨lo,rfl,Int.le_refl _,le⟩)
 | false =>
  show Q (.f (.int (if hi>lo then hi else lo)))
  split
  .exact q _ (.inr ⟨hi,rfl,le,Int.le_refl _⟩)
  .exact q _ (.inr ⟨lo,rfl,Int.le_refl _,le⟩)
theorem Nm{x:Str}(h:Sm x)(l u:ZR):Sm (Txt.slice x l u):=⟨Tg (Txt.slice_le x l u) h.1,λc m=>h.2 c (jx x l u c m)⟩
theorem Hl{lo hi i:Int}(le:lo<=hi):lo<=(if (if i<hi then i else hi)>lo then (if i<hi then i else hi) else lo)+0/\(if (if i<hi then i else hi)>lo then (if i<hi then i else hi) else lo)+0<=hi:=by
 split<;>split<;>omega
theorem bnd_in{lo hi i:Int}(h1:K5 lo)(h2:K5 hi)(h:lo<=i/\i<=hi):K5 i:=by
 obtain⟨a,b⟩:=h1;obtain⟨c,d⟩:=h2;exact⟨by omega,by omega⟩
def ay(C:Cs):Prop:=∀{ns ss:ZD} {XM:ZX} {t:T},Bk ns XM ss->(∀x∈ns,x∈ss)->Shp ns t->on (C "_law_fixed" [.o (.dct XM),.f t]) λx=>∃u,(Shp ns u/\La XM u/\∀d,Vt t d->u=t)/\x=(.f u,[.dct XM])
set_option maxHeartbeats 4000000 in
theorem si{w:W}{ns ss:ZD}{XM:ZX}{t:T}(hf:Bk ns XM ss)(sub:∀x∈ns,x∈ss)(ht:Shp ns t):wF Jv w [.o (.dct XM),.f t] λx=>∃u,(Shp ns u/\La XM u/\∀d,Vt t d->u=t)/\x=(.f u,[.dct XM]):=by
 have sl:=sizeLine_eq;refine Yz rfl λD rt _=>?_;cases ht with
 | whole ha hb le=>exact rt _ _ ⟨_,⟨.whole ha hb le,λ_ _ e=>(by cases e),λ_ _=>rfl⟩,rfl⟩
 | truth=>exact rt _ _ ⟨_,⟨.truth,λ_ _ e=>(by cases e),λ_ _=>rfl⟩,rfl⟩
 | text h0 h1=>exact rt _ _ ⟨_,⟨.text h0 h1,λ_ _ e=>(by cases e),λ_ _=>rfl⟩,rfl⟩
 | row ho h0 h1=>exact rt _ _ ⟨_,⟨.row ho h0 h1,λ_ _ e=>(by cases e),λ_ _=>rfl⟩,rfl⟩
 | map ho h0 h1=>exact rt _ _ ⟨_,⟨.map ho h0 h1,λ_ _ e=>(by cases e),λ_ _=>rfl⟩,rfl⟩
 | choice hp hs=>exact rt _ _ ⟨_,⟨.choice hp hs,λ_ _ e=>(by cases e),λ_ _=>rfl⟩,rfl⟩
 | @record fs us hp hs =>
  have fl:=hp.l;refine Jn (λrest p=>∃ps s3 s4 s5 s6 s7,p=[.o (.dct XM),.f (.tup [.str "record",.tup fs,.tup us]),.o (.lst ps),s3,s4,s5,s6,s7]/\ps.map Ys++rest.map Ys=fs.map Ys/\(∀p∈ps,W5 ns true p/\Ka XM p)/\∀x∈rest,x∈fs) ⟨[],_,_,_,_,_,rfl,rfl,λp m=>absurd m U2,λx m=>m⟩ (λx r p D' hi nx _=>?_) λp hi=>?_
  .obtain⟨ps,s3,s4,s5,s6,s7,rfl,he,hq,hm⟩:=hi;obtain⟨n,y,o,ds,rfl,hn,hy,ho,hd⟩:=(hp.p x (hm _ V4)).asR;have Ly:∀x∈r,x∈fs:=λx m=>hm x (Uz _ m);have hl:ps.length<sizeLine:=by have:=congrArg List.length he;simp at this;omega
   have more:∀d s3 s4 s5 s6 s7,oh d->(∀x,d=.tup [x]->∃s,Zb XM (.inr o)=some s/\Vt s x)->D'.nx [.o (.dct XM),.f (.tup [.str "record",.tup fs,.tup us]),.o (.lst (ps++[.tup [.int n,.str y,.str o,d]])),s3,s4,s5,s6,s7]:=λd s3 s4 s5 s6 s7 hd hx=>nx _ ⟨_,_,_,_,_,_,rfl,by rw[Ku,XX];exact he,λp m=>by
    rcases yk.mp m with m | m
    .exact hq p m
    .cases F8.mp m;exact⟨.mk hn hy ho hd,λn' y' o' d' e=>(by cases e;exact hx d' rfl)⟩,Ly⟩
   obtain⟨f,e,hsf⟩:=hf.get (sub o ho);refine M5 e ?_;have no:∀x:T,T.tup []=.tup [x]->∃s,Zb XM (.inr o)=some s/\Vt s x:=λx z=>by cases z
   have one:∀{x:T},Vt f x->∀y:T,T.tup [x]=.tup [y]->∃s,Zb XM (.inr o)=some s/\Vt s y:=λh y z=>by cases z;exact⟨f,e,h⟩
   cases hsf with
   | record _ _=>cases hd<;>(refine Ui hl ?_;exact more _ _ _ _ _ _ .no no)
   | choice _ _=>cases hd<;>(refine Ui hl ?_;exact more _ _ _ _ _ _ .no no)
   | @whole lo hi' b1 b2 le =>
    cases hd with
    | no=>refine Ui hl ?_;exact more _ _ _ _ _ _ .no no
    | is h =>
     have fin:∀{z:Int} {s3 s4 s5 s6 s7:Sl},lo<=z/\z<=hi'->D'.nx [.o (.dct XM),.f (.tup [.str "record",.tup fs,.tup us]),.o (.lst (ps++[.tup [.int n,.str y,.str o,.tup [.int z]]])),s3,s4,s5,s6,s7]:=λh=>more _ _ _ _ _ _ (.is (.int (bnd_in b1 b2 h))) (one (.whole h.1 h.2));cases h with
     | @int i h=>refine Ui hl ?_;exact fin (Hl le)
     | str h=>refine Ui hl ?_;exact fin (Hl le)
     | nil=>refine Ui hl ?_;exact fin (Hl le)
     | @bl b =>
      refine maxB le rfl λt ht=>?_;rcases ht with ⟨rfl,h1,h2⟩ | ⟨z,rfl,h1,h2⟩
      .refine Ui hl ?_;exact fin ⟨by rw[Int.add_zero];exact h1,by rw[Int.add_zero];exact h2⟩
      .refine Ui hl ?_;exact fin ⟨by rw[Int.add_zero];exact h1,by rw[Int.add_zero];exact h2⟩
   | truth =>
    cases hd with
    | no=>refine Ui hl ?_;exact more _ _ _ _ _ _ .no no
    | is h=>cases h<;>(refine Ui hl ?_;exact more _ _ _ _ _ _ (.is .bl) (one .truth))
   | @text m h0 h1 =>
    have sh:∀x:Str,((Txt.slice x none (some m)).length:Int)<=m:=λx=>by
     obtain⟨k,rfl⟩:=Int.eq_ofNat_of_zero_le h0;have:=bc x none k;omega
    have em:Sm "" := by unfold Sm;decide +kernel
    cases hd with
    | no=>refine Ui hl ?_;exact more _ _ _ _ _ _ .no no
    | is h =>
     cases h with
     | str h =>
      refine Sd (by have:=h.1;omega) ?_;refine Ui hl ?_;exact more _ _ _ _ _ _ (.is (.str (Nm h _ _))) (one (.text (sh _)))
     | int h=>refine Ui hl ?_;exact more _ _ _ _ _ _ (.is (.str (Nm em _ _))) (one (.text (sh _)))
     | bl=>refine Ui hl ?_;exact more _ _ _ _ _ _ (.is (.str (Nm em _ _))) (one (.text (sh _)))
     | nil=>refine Ui hl ?_;exact more _ _ _ _ _ _ (.is (.str (Nm em _ _))) (one (.text (sh _)))
   | row _ _ _ =>
    cases hd with
    | no=>refine Ui hl ?_;exact more _ _ _ _ _ _ .no no
    | is h=>refine Ui hl ?_;exact more _ _ _ _ _ _ (.is .nil) (one .row)
   | map _ _ _ =>
    cases hd with
    | no=>refine Ui hl ?_;exact more _ _ _ _ _ _ .no no
    | is h=>refine Ui hl ?_;exact more _ _ _ _ _ _ (.is .nil) (one .map)
  .obtain⟨ps,s3,s4,s5,s6,s7,rfl,he,hq,hm⟩:=hi;have he:ps.map Ys=fs.map Ys:=by simpa using he
   exact rt _ _ ⟨_,⟨.record ⟨by have:=congrArg List.length he;simp at this;omega,by rw[he];exact hp.d,λp m=>(hq p m).1⟩ hs,λYw U3 e p m=>(by cases e;exact(hq p m).2),λd z=>(by cases z)⟩,rfl⟩
def PShT(C:Cs):Prop:=∀{ns:ZD} {t:T},0<ns.length->ns.length<=8->Shp ns t->Tp C "_law_shape_turned" [.f (.lst (ns.map .str)),.f t] (yj (Shp ns))
theorem Bk.putU{ns ss:ZD}{XM:ZX}{x:Str}{v:T}(h:Bk ns XM ss)(hx:x∈ss)(hv:Shp ns v):Bk ns (Y9 XM (.inr x) v) ss:=by
 obtain⟨us,h1,_,h3⟩:=h.put (h.n x hx) hv;rw[h3 hx]at h1;exact h1
set_option maxHeartbeats 2000000 in
theorem qm{w:W}(hD:Uj w.C)(hS:PShT w.C)(hF:ay w.C)(hL:Ia w.C){root:Str}{XM:ZX}{ss:ZD}(h:Oy root XM ss):Td Uk w [Mq9 root XM] R4:=by
 intro zs i l k tp;have sl:=sizeLine_eq;have h8:=h.l8;have h0:=h.l0;have pm:=SRT.Yn ss;have hn:(SRT.Us ss).length=ss.length:=pm.length_eq;have f0:Bk (SRT.Us ss) XM ss:=⟨h.f.k,h.f.d,λx m=>pm.mem_iff.mpr m,λp m=>(h.f.p p m).mono λx m=>pm.mem_iff.mpr m⟩;have sub:∀x∈SRT.Us ss,x∈ss:=λx m=>pm.mem_iff.mp m;refine Yz rfl λD rt _=>?_;refine Nb (h.f.srt XS) ?_;generalize SRT.Us ss=us at hn f0 sub;have l0:(0:Int)<((us.map T.str).length:Nat):=by rw[Vq];omega
 have l1:(((us.map T.str).length:Nat):Int)<=1000000:=by rw[Vq];omega
 refine Zn hD tp XS XS λr zs i l k r0 r1 tp=>?_;refine Md 0 12 r0 r1 rfl λm m0 m1 _=>?_;refine rngP XS XS ?_;refine Jn (λrest p=>∃kvs' zs i l k s2 s4 s5,p=[.o (Zm zs i l k),Mq9 root XM,s2,.o (.dct kvs'),s4,s5]/\OF s2 (.lst (us.map .str))/\TP (Zm zs i l k)/\Bk us kvs' ss) ⟨XM,zs,i,l,k,_,_,_,rfl,.inl rfl,tp,f0⟩ (λx r p D' hi nx _=>?_) λp hi=>?_
 .obtain⟨kvs',zs,i,l,k,s2,s4,s5,rfl,hof,tp,hf⟩:=hi;have go:∀s2:Sl,OF s2 (.lst (us.map .str))->D'.nx=D'.nx:=λ_ _=>rfl;have hl:kvs'.length<sizeLine:=by have:=hf.len;omega
  rcases hof with rfl | rfl
  all_goals
   refine Zn hD tp l0 l1 λr zs i l k r0 r1 tp=>?_;refine V2 r0 r1 λo ho=>?_;have ho:=sub o ho;obtain⟨t,e,ht⟩:=hf.get ho;refine M5 e ?_;refine W1 (hS XS XS ht) tp λr zs i l k hr tp=>?_;obtain⟨u,rfl,hu⟩:=hr;refine Ck hl ?_;exact nx _ ⟨_,_,_,_,_,_,_,_,rfl,.inr rfl,tp,hf.putU ho hu⟩
 obtain⟨kvs',zs,i,l,k,s2,s4,s5,rfl,hof,tp,hf⟩:=hi;refine m9 hof rfl ?_;refine Jn (λrest p=>∃rs kvs' s5,rest=rs.map T.str/\p=[.o (Zm zs i l k),Mq9 root XM,.f (.lst (us.map .str)),.o (.dct kvs'),s4,s5]/\Bk us kvs' ss/\(∀x∈ss,x∈rs\/∀t,Zb kvs' (.inr x)=some t->La kvs' t)/\∀x∈rs,x∈ss) ⟨us,kvs',_,rfl,rfl,hf,λx m=>.inl (f0.n x m),sub⟩ (λx r p D' hi nx _=>?_) λp hi=>?_
 .obtain⟨rs,kvs',s5,hr,rfl,hf,hx,hm⟩:=hi;cases rs with
  | nil=>cases hr
  | cons y rs =>
   cases hr;have hy:=hm y V4;obtain⟨t,e,ht⟩:=hf.get hy;refine M5 e ?_;refine Zx (hF hf sub ht) λx hy'=>?_;obtain⟨u,⟨hu,hfu,xv⟩,rfl⟩:=hy';refine Ck (by have:=hf.len;omega) ?_;have kp:yx kvs' (Y9 kvs' (.inr y) u):=R3 λt' d e' f=>by rw[e]at e';cases e';exact xv d f
   refine nx _ ⟨rs,_,_,rfl,rfl,hf.putU hy hu,λx m=>?_,λx m=>hm x (Uz _ m)⟩;by_cases z:y=x
   .subst z;refine .inr λt' e'=>?_;rw[Vv,if_pos rfl]at e';cases e';exact hfu.keep kp
   .rcases hx x m with q | q
    .exact .inl ((Y8.mp q).resolve_left λw=>z w.symm)
    .refine .inr λt' e'=>?_;rw[Vv,if_neg λw=>z (Sum.inr.inj w)]at e';exact(q t' e').keep kp
 obtain⟨rs,kvs',s5,hr,rfl,hf,hx,hm⟩:=hi;refine Zx (hL (root:=root) (XM:=kvs') (ss:=ss) ⟨⟨hf.k,hf.d,λx m=>m,λp m=>(hf.p p m).mono sub⟩,h0,h8,h.po,h.r,λx t e=>?_⟩) λx hx=>?_
 .have mx:x∈ss:=by
   have:=zt e;rw[hf.k]at this;obtain⟨y,my,ey⟩:=Og.mp this;cases ey;exact my
  rcases hx x mx with q | q
  .cases rs with
   | nil=>cases q
   | cons _ _=>cases hr
  .exact q t e
 obtain⟨kvs2,hm,rfl⟩:=hx;exact rt _ _ ⟨_,_,⟨_,_,_,rfl,hm⟩,tp,rfl⟩
def Zw0(C:Cs):Prop:=∀zs:ZL,on (C "_law_tape" [.f (.lst (zs.map .int))]) λx=>∃t,TP t/\x=(.o t,[])
def qz(C:Cs):Prop:=∀{root:Str} {XM:ZX} {ss:ZD},Oy root XM ss->Tp C "_law_turned" [Mq9 root XM] R4
theorem Xz{body:T->P->En->Prop}{xs:ZZ}{p:P}{D:En}(I:ZZ->P->Prop)(h:I xs p)(st:∀x r p (D':En),I (x::r) p->(∀q,I r q->D'.nx q)->(∀s q,D.rt s q->D'.rt s q)->body x p D')(q:∀q,I [] q->D.nx q):Rj body xs p D :=
 Xx I (λ_=>False) D.rt (λx r p D' h n _ _ r'=>st x r p D' h n r') xs p D h q (λ_ z=>z.elim) λ_ _ z=>z
def v7(P:Prop)(x:Sl×ZZ):Prop:=∃b:Bool,(b=true↔P)/\x=(.f (.bl b),[])
def qw(C:Cs):Prop:=∀{root x:Str} {XM:ZX} {t:T},Zb XM (.inr x)=some t->on (C "form_of" [Mq9 root XM,.f (.str x)]) λy=>y=(.f t,[])
theorem Zqo{w:W}{root x:Str}{XM:ZX}{t:T}(e:Zb XM (.inr x)=some t):wF D7 w [Mq9 root XM,.f (.str x)] λy=>y=(.f t,[]):=by
 refine Yz rfl λD rt _=>?_;refine rt _ _ ?_;show ((.f ((Zb XM (.inr x)).getD .non),[]):Sl×ZZ)=(.f t,[]);rw[e];rfl
theorem Zqw{w:W}{n:Int}{x o:Str}{ds:ZZ}:wF Y4 w [.f (.tup [.int n,.str x,.str o,.tup ds])] λy=>y=(.f (.bl (!ds.isEmpty)),[]):=by
 refine Yz rfl λD rt _=>?_;exact rt _ _ rfl
def aj(C:Cs):Prop:=∀{n:Int} {x o:Str} {ds:ZZ},on (C "may_be_left_out" [.f (.tup [.int n,.str x,.str o,.tup ds])]) λy=>y=(.f (.bl (!ds.isEmpty)),[])
noncomputable def Yf(ps:ZZ)(n:Int):Option T:=ps.find? λp=>decide (Ys p=n)
theorem Eg{p:T}{ps:ZZ}{n:Int}(e:Ys p=n):Yf (p::ps) n=some p:=List.find?_cons_of_pos (p:=λp=>decide (Ys p=n)) (Mz e)
theorem Ef{p:T}{ps:ZZ}{n:Int}(e:Ys p≠n):Yf (p::ps) n=Yf ps n:=List.find?_cons_of_neg (p:=λp=>decide (Ys p=n)) λz=>e (D9 z)
def Zju(C:Cs):Prop:=∀{ns:ZD} {k:Bool} {ps r:ZZ} {s:Str} {n:Int},(∀p∈ps,W5 ns k p)->on (C "member_of" [.f (.tup (.str s::.tup ps::r)),.f (.int n)]) λx=>x=(.f ((Yf ps n).getD .non),[])
theorem wx{w:W}{ns:ZD}{k:Bool}{ps r:ZZ}{s:Str}{n:Int}(h:∀p∈ps,W5 ns k p):wF U6 w [.f (.tup (.str s::.tup ps::r)),.f (.int n)] λx=>x=(.f ((Yf ps n).getD .non),[]):=by
 refine Yz rfl λD rt _=>?_;refine ixSn ?_;refine Xz (λrest p=>∃s2,p=[.f (.tup (.str s::.tup ps::r)),.f (.int n),s2]/\(∀x∈rest,x∈ps)/\Yf ps n=Yf rest n) ⟨_,rfl,λx m=>m,rfl⟩ (λx rest p D' hi nx O5=>?_) λp hi=>?_
 .obtain⟨s2,rfl,hr,hf⟩:=hi;have hx:=h x (hr x V4);cases hx with | @mk m y o ds hn hy ho hd =>
  refine ixHd ?_;refine Zk (b:=decide (m=n)) (λe=>?_) λe=>?_
  .refine O5 _ _ (rt _ _ ?_);rw[hf,Eg (show Ys (T.tup (.int m::.str y::.str o::ds))=n from D9 e)];rfl
  .refine nx _ ⟨_,rfl,λy m=>hr y (Uz _ m),?_⟩;rw[hf,Ef (show Ys (T.tup (.int m::.str y::.str o::ds))≠n from of_decide_eq_false e)]
 .obtain⟨s2,rfl,_,hf⟩:=hi;exact rt _ _ (by rw[hf];rfl)
theorem find_none{ps:ZZ}{n:Int}:Yf ps n=none↔∀g∈ps,Ys g≠n:=by
 unfold Yf;rw[XF];exact⟨λh g m e=>h g m (Mz e),λh g m e=>h g m (D9 e)⟩
theorem find_some{ps:ZZ}{n:Int}{g:T}(d:(ps.map Ys).Nodup):Yf ps n=some g↔g∈ps/\Ys g=n:=by
 constructor
 .intro h;exact⟨List.mem_of_find?_eq_some h,D9 (by have:=List.find?_some h;exact this)⟩
 .rintro⟨m,e⟩
  induction ps with
  | nil=>cases m
  | cons p ps ih =>
   obtain⟨d1,d2⟩:=List.nodup_cons.mp (show (Ys p::ps.map Ys).Nodup from d);rcases Y8.mp m with rfl | m
   .exact Eg e
   .rw[Ef λz=>d1 (by rw[z, <-e];exact List.mem_map_of_mem m)];exact ih d2 m
noncomputable def Zc(ps:List (Str×Str))(es:ZD):T:=.tup [.tup (ps.map Nc),.tup (es.map .str)]
noncomputable def hB(ps:List (Str×Str))(es:ZD)(w r:Str):Bool:=(ps.any λq=>decide (q=(w,r))) || es.any λy=>decide (y=w)
theorem Tw(q:Str×Str):∀ps:List (Str×Str),G1 (Nc q) (ps.map Nc)=some (ps.any λp=>decide (p=q))
 | []=>rfl
 | p::ps=>by
  show (eqE (Nc p) (Nc q)).bind _=_
  have e:eqE (Nc p) (Nc q)=some (decide (p=q)):=by
   show some (decide (p.1=q.1)&&(decide (p.2=q.2)&&true))=_;rw[Bool.and_true, <-Bool.decide_and]
   congr 1
   exact decide_eq_decide.mpr ⟨λ⟨a,b⟩=>Prod.ext a b,λe=>by rw[e];exact⟨rfl,rfl⟩⟩
  rw[e];show (G1 (Nc q) (ps.map Nc)).map _=_;rw[Tw q ps];rfl
theorem inpP{q:Str×Str}{ps:List (Str×Str)}{Q:Sl->Prop}(h:Q (.f (.bl (ps.any λp=>decide (p=q))))):on ((B9 .isin (.tup [.str q.1,.str q.2]) (.tup (ps.map Nc))).map λr=>Sl.f (.bl r)) Q:=Z8 (by show (G1 (Nc q) (ps.map Nc)).map _=_;rw[Tw];rfl) h
theorem ninpP{q:Str×Str}{ps:List (Str×Str)}{Q:Sl->Prop}(h:Q (.f (.bl (!(ps.any λp=>decide (p=q)))))):on ((B9 .notin (.tup [.str q.1,.str q.2]) (.lst (ps.map Nc))).map λr=>Sl.f (.bl r)) Q:=Z8 (by show ((G1 (Nc q) (ps.map Nc)).map not).map _=_;rw[Tw];rfl) h
theorem z7{a:Str}{zs:ZD}{Q:Sl->Prop}(q:Q (.f (.bl (zs.any λz=>decide (z=a))))):on ((B9 .isin (.str a) (.tup (zs.map .str))).map λr=>Sl.f (.bl r)) Q:=Z8 (by show (r9 (.str a) (.tup (zs.map .str))).map _=_;rw[S5];rfl) q
theorem ninstP{a:Str}{zs:ZD}{Q:Sl->Prop}(q:Q (.f (.bl (!(zs.any λz=>decide (z=a)))))):on ((B9 .notin (.str a) (.tup (zs.map .str))).map λr=>Sl.f (.bl r)) Q:=Z8 (by show ((r9 (.str a) (.tup (zs.map .str))).map not).map _=_;rw[S5];rfl) q
def Dp(f:Str)(C:Cs):Prop:=∀{ps:List (Str×Str)} {es:ZD} {w r:Str},on (C f [.f (Zc ps es),.f (.str w),.f (.str r)]) λx=>x=(.f (.bl (hB ps es w r)),[])
theorem S6{w:W}{ps:List (Str×Str)}{es:ZD}{a r:Str}:wF C7 w [.f (Zc ps es),.f (.str a),.f (.str r)] λx=>x=(.f (.bl (hB ps es a r)),[]):=by
 refine Yz rfl λD rt _=>?_;refine inpP (q:=(a,r)) ?_;refine Zk (b:=ps.any λp=>decide (p=(a,r))) (λh=>?_) λh=>?_
 .refine rt _ _ ?_;unfold hB;rw[h];rfl
 .refine z7 ?_;refine rt _ _ ?_;unfold hB;rw[h];rfl
theorem Q2{w:W}{ps:List (Str×Str)}{es:ZD}{a r:Str}:wF Jw w [.f (Zc ps es),.f (.str a),.f (.str r)] λx=>x=(.f (.bl (hB ps es a r)),[]):=S6 (w:=w)
def SIG : Str := " !\"#$&'()*+,-./0123456789:;<=>?@ABCDEFGHIJKLMNOPQRSTUVWXYZ[\\]^_`abcdefghijklmnopqrstuvwxyz{|}~"
theorem Zzm:∀k,k<26->(!(Builtin.Str.occurrences SIG ⟨#[97+k]⟩ 0 SIG.length 1).isEmpty)=true:=by decide +kernel
theorem sig_in{c:Nat}(h:97<=c/\c<=122):(!(Builtin.Str.occurrences SIG ⟨#[c]⟩ 0 SIG.length 1).isEmpty)=true:=by
 have:=Zzm (c-97) XS;rw[show 97+(c-97)=c by omega]at this;exact this
theorem Si{w:W}{i a b:Int}(h1:a<=i)(h2:i<=b):wF Gh w [.f (.int i),.f (.int a),.f (.int b)] λx=>x=(.f (.bl true),[]):=by
 refine Yz rfl λD rt _=>?_;refine c2P ?_;refine rt _ _ ?_;rw[Mz h1,Mz h2];rfl
theorem Ah{w:W}(hg:w.gl "SIGNS"=some (.str SIG)){x:Str}{n:Int}(hx:Sm x)(h:(x.length:Int)<=n):wF D6 w [.f (.str x),.f (.int n)] λy=>y=(.f (.bl true),[]):=by
 have sl:=sizeLine_eq;have hl:x.length<=sizeLine:=by have:=hx.1;omega
 refine Yz rfl λD rt _=>?_;refine lenP hl ?_;refine Zk (b:=!decide (n<((x.length:Nat):Int))) (λ_=>?_) λz=>absurd (D9 (Dq z)) XS;refine walkP hl ?_;refine Jl (λ_=>.bl true) (λp=>∃s0,p=[s0]) ⟨_,rfl⟩ (λf mf p K hp hk=>?_) λp hp=>?_
 .obtain⟨s0,rfl⟩:=hp;obtain⟨c,mc,rfl⟩:=Og.mp mf;refine glP hg ?_;have hk:=hk [.f (.str ⟨#[c]⟩)] ⟨_,rfl⟩;rw[<-sig_in (hx.2 c mc)]at hk;exact hk
 obtain⟨s0,rfl⟩:=hp;refine allP (f:=λ_=>true) ?_;refine rt _ _ ?_;rw[yq.mpr λ_ _=>rfl];rfl
structure DF(s d:T):Prop where
 f:Vt s d
 x:Dx d
def az(C:Cs):Prop:=∀{i a b:Int},a<=i->i<=b->on (C "is_whole" [.f (.int i),.f (.int a),.f (.int b)]) λx=>x=(.f (.bl true),[])
def Zwe(C:Cs):Prop:=∀{x:Str} {n:Int},Sm x->(x.length:Int)<=n->on (C "is_text" [.f (.str x),.f (.int n)]) λx=>x=(.f (.bl true),[])
inductive Sng:T->T->Prop
 | whole{a b i:Int}(h1:a<=i)(h2:i<=b):Sng (.tup [.str "whole",.int a,.int b]) (.int i)
 | truth {b:Bool}:Sng (.tup [.str "truth"]) (.bl b)
 | text {n:Int} {x:Str} (h:(x.length:Int)<=n) (s:Sm x):Sng (.tup [.str "text",.int n]) (.str x)
def PSng(C:Cs):Prop:=∀{s d:T},Sng s d->on (C "is_single_value" [.f s,.f d]) λx=>x=(.f (.bl true),[])
theorem jq{w:W}(hW:az w.C)(hT:Zwe w.C){s d:T}(h:Sng s d):wF Y5 w [.f s,.f d] λx=>x=(.f (.bl true),[]):=by
 refine Yz rfl λD rt _=>?_;cases h with
 | whole h1 h2=>refine Zx (hW h1 h2) λx e=>?_;subst e;exact rt _ _ rfl
 | truth=>exact rt _ _ rfl
 | text h s=>refine Zx (hT s h) λx e=>?_;subst e;exact rt _ _ rfl
def Kh(C:Cs)(f:Str)(as:List Sl)(y:Sl×ZZ):Prop:=on (C f as) λx=>x=y
theorem c6{w:W}:wF Jg w [.f (.tup [])] λx=>x=(.f (.bl true),[]):=by
 refine Yz rfl λD rt _=>?_;exact rt _ _ rfl
theorem b9{w:W}:wF C6 w [.f (.lst [])] λx=>x=(.f (.bl true),[]):=by
 refine Yz rfl λD rt _=>?_;exact rt _ _ rfl
theorem wk{w:W}(h:Kh w.C "rises" [.f (.lst [])] (.f (.bl true),[])){f:T}:wF Um w [.f (.lst []),.f f] λx=>x=(.f (.bl true),[]):=by
 refine Yz rfl λD rt _=>?_;refine Zx h λx e=>?_;subst e;exact rt _ _ rfl
theorem Ay{w:W}{o:Str}{n:Int}(h0:0<=n):wF Vr w [.f (.tup [.str "row",.str o,.int n]),.f (.tup [])] λx=>x=(.o (.lst []),[]):=by
 refine Yz rfl λD rt _=>?_;refine Zk (b:=decide (n<0)) (λz=>absurd (D9 z) XS) λ_=>?_;exact rt _ _ rfl
theorem Ak{w:W}(hg:w.gl "is_name"=some (.fn "is_name"))(hP:Kh w.C "are_pairs" [.f (.tup [])] (.f (.bl true),[]))(hL:∀f,Kh w.C "are_labels" [.f (.lst []),.f f] (.f (.bl true),[])){o:Str}{n:Int}(h0:0<=n):wF Vs w [.f (.tup [.str "map",.str o,.int n]),.f (.tup [])] λx=>x=(.o (.lst []),[]):=by
 refine Yz rfl λD rt _=>?_;refine Zx hP λx e=>?_;subst e;refine Zk (b:=decide (n<0)) (λz=>absurd (D9 z) XS) λ_=>?_;refine glP hg ?_;refine Zx (hL _) λx e=>?_;subst e;exact rt _ _ rfl
def PPin(C:Cs):Prop:=∀{ns:ZD} {s d:T},Shp ns s->DF s d->on (C "parts_in" [.f s,.f d,.f (.bl false)]) λx=>x=(.o (.lst []),[])
theorem Sg{w:W}(hS:PSng w.C)(hR:∀{o:Str} {n:Int},0<=n->Kh w.C "parts_in_row" [.f (.tup [.str "row",.str o,.int n]),.f (.tup [])] (.o (.lst []),[]))(hM:∀{o:Str} {n:Int},0<=n->Kh w.C "parts_in_map" [.f (.tup [.str "map",.str o,.int n]),.f (.tup [])] (.o (.lst []),[])){ns:ZD}{s d:T}(hs:Shp ns s)(h:DF s d):wF Gm w [.f s,.f d,.f (.bl false)] λx=>x=(.o (.lst []),[]):=by
 refine Yz rfl λD rt _=>?_;obtain⟨h,hx⟩:=h;cases h with
 | whole h1 h2=>refine Zx (hS (.whole h1 h2)) λx e=>?_;subst e;exact rt _ _ rfl
 | truth=>refine Zx (hS .truth) λx e=>?_;subst e;exact rt _ _ rfl
 | text h=>cases hx with | str s=>refine Zx (hS (.text h s)) λx e=>?_;subst e;exact rt _ _ rfl
 | row=>cases hs with | row _ h0 _=>refine Zx (hR h0) λx e=>?_;subst e;exact rt _ _ rfl
 | map=>cases hs with | map _ h0 _=>refine Zx (hM h0) λx e=>?_;subst e;exact rt _ _ rfl
def PThr(C:Cs):Prop:=∀{ns:ZD} {root x:Str} {XM:ZX} {s d:T},Zb XM (.inr x)=some s->Shp ns s->DF s d->on (C "is_right_through" [Mq9 root XM,.f (.str x),.f d,.f (.bl false)]) λy=>y=(.f (.bl true),[])
theorem Hg{w:W}(hF:qw w.C)(hP:PPin w.C){ns:ZD}{root x:Str}{XM:ZX}{s d:T}(e:Zb XM (.inr x)=some s)(hs:Shp ns s)(h:DF s d):wF Yo w [Mq9 root XM,.f (.str x),.f d,.f (.bl false)] λy=>y=(.f (.bl true),[]):=by
 have sl:=sizeLine_eq;refine Yz rfl λD rt _=>?_;refine whS ?_;refine wWhI (λn p=>∃ts s5 s6,p=[Mq9 root XM,.f (.str x),.f d,.f (.bl false),.o (.lst ts),s5,s6]/\((n=1/\ts=[.tup [.str x,d]])\/(n=0/\ts=[]))) (λn p K hi kt kf=>?_) 1 1000000 _ XS ⟨_,_,_,rfl,.inl ⟨rfl,rfl⟩⟩;obtain⟨ts,s5,s6,rfl,⟨rfl,rfl⟩ | ⟨rfl,rfl⟩⟩:=hi
 .refine kt _ λD' nx _ _ O5=>?_;show wS w _ _ [Mq9 root XM,.f (.str x),.f d,.f (.bl false),.o (.lst []),.f (.tup [.str x,d]),s6] _;refine cE9 (hF e) ?_;refine cE9 (hP hs h) ?_;show wS w _ _ [Mq9 root XM,.f (.str x),.f d,.f (.bl false),.o (.lst []),.f (.tup [.str x,d]),.o (.lst [])] _;exact nx 0 _ XS ⟨_,_,_,rfl,.inr ⟨rfl,rfl⟩⟩
 .exact kf _ (rt _ _ rfl)
def PVal(C:Cs):Prop:=∀{ns:ZD} {root x:Str} {XM:ZX} {s d:T},Zb XM (.inr x)=some s->Shp ns s->DF s d->on (C "is_value" [Mq9 root XM,.f (.str x),.f d]) λy=>y=(.f (.bl true),[])
theorem Se{w:W}(hT:PThr w.C){ns:ZD}{root x:Str}{XM:ZX}{s d:T}(e:Zb XM (.inr x)=some s)(hs:Shp ns s)(h:DF s d):wF Gp w [Mq9 root XM,.f (.str x),.f d] λy=>y=(.f (.bl true),[]):=by
 refine Yz rfl λD rt _=>?_;refine cE9 (hT e hs h) ?_;exact rt _ _ rfl
theorem Zl:Ye "whole"=some "whole" := by decide +kernel
theorem Zr:Ye "truth"=some "whole" := by decide +kernel
theorem Zs:Ye "text"=some "text" := by decide +kernel
theorem Zo:Ye "row"=some "row" := by decide +kernel
theorem Zi:Ye "map"=some "map" := by decide +kernel
theorem Di:Ye "record"=some "rec" := by decide +kernel
theorem De:Ye "choice"=some "arm" := by decide +kernel
def PIS(C:Cs):Prop:=∀{s z:Str} {r:ZZ},Ye s=some z->on (C "item_sort" [.f (.tup (.str s::r))]) λx=>x=(.f (.str z),[])
inductive Bn:T->Int->Int->Prop
 | whole{a b:Int}:Bn (.tup [.str "whole",.int a,.int b]) a b
 | truth:Bn (.tup [.str "truth"]) 0 1
noncomputable def wn:T->ZR
 | .int i=>some i
 | .bl b=>some (if b=true then 1 else 0)
 | _=>none
inductive K6:T->T->T->T->Prop
 | num{s s' d d':T}{a b a' b' i:Int}(h:Bn s a b)(h':Bn s' a' b')(e:wn d=some i)(e':wn d'=some i):K6 s s' d d'
 | text {n m:Int} {x:Str}:K6 (.tup [.str "text",.int n]) (.tup [.str "text",.int m]) (.str x) (.str x)
 | row {o o':Str} {n m:Int}:K6 (.tup [.str "row",.str o,.int n]) (.tup [.str "row",.str o',.int m]) (.tup []) (.tup [])
 | map {o o':Str} {n m:Int}:K6 (.tup [.str "map",.str o,.int n]) (.tup [.str "map",.str o',.int m]) (.tup []) (.tup [])
theorem Z3{k k' z z':Str}{r r':ZZ}{d d':T}(w1:Ye k=some z)(w2:Ye k'=some z')(ne:z≠z'):¬ K6 (.tup (.str k::r)) (.tup (.str k'::r')) d d':=by
 intro h;generalize hs:T.tup (.str k::r)=s at h;generalize Jt:T.tup (.str k'::r')=s' at h
 have fin:∀{u:Str},Ye k=some u->Ye k'=some u->False:=λ{u} h1 h2=>by
  rw[w1]at h1;rw[w2]at h2;cases h1;cases h2;exact ne rfl
 cases h with
 | num h1 h2 e1 e2 =>
  have c1:Ye k=some "whole" := by
   cases h1
   .injection hs with hs;injection hs with hs;injection hs with hs;rw[hs];exact Zl
   .injection hs with hs;injection hs with hs;injection hs with hs;rw[hs];exact Zr
  have c2:Ye k'=some "whole" := by
   cases h2
   .injection Jt with hs;injection hs with hs;injection hs with hs;rw[hs];exact Zl
   .injection Jt with hs;injection hs with hs;injection hs with hs;rw[hs];exact Zr
  exact fin c1 c2
 | text=>injection hs with hs;injection hs with hs;injection hs with hs;injection Jt with Jt;injection Jt with Jt;injection Jt with Jt;subst hs Jt;exact fin Zs Zs
 | row=>injection hs with hs;injection hs with hs;injection hs with hs;injection Jt with Jt;injection Jt with Jt;injection Jt with Jt;subst hs Jt;exact fin Zo Zo
 | map=>injection hs with hs;injection hs with hs;injection hs with hs;injection Jt with Jt;injection Jt with Jt;injection Jt with Jt;subst hs Jt;exact fin Zi Zi
theorem Zzh{w:W}{s s':T}{o o':Str}{r r':ZZ}:wF Yy w [.f (.tup (s::.str o::r)),.f (.tup []),.f (.tup (s'::.str o'::r')),.f (.tup [])] λx=>x=(.o (.lst []),[]):=by
 refine Yz rfl λD rt _=>?_;exact rt _ _ rfl
theorem b8{w:W}{s s':T}{o o':Str}{r r':ZZ}:wF Yy w [.f (.tup (s::.str o::r)),.f (.lst []),.f (.tup (s'::.str o'::r')),.f (.lst [])] λx=>x=(.o (.lst []),[]):=by
 refine Yz rfl λD rt _=>?_;exact rt _ _ rfl
def qx(C:Cs)(v:T):Prop:=∀{s s':T} {o o':Str} {r r':ZZ},Kh C "parts_of_rows" [.f (.tup (s::.str o::r)),.f v,.f (.tup (s'::.str o'::r')),.f v] (.o (.lst []),[])
def Zw1(C:Cs):Prop:=∀{s s':T} {o o':Str} {r r':ZZ},Kh C "parts_of_maps" [.f (.tup (s::.str o::r)),.f (.tup []),.f (.tup (s'::.str o'::r')),.f (.tup [])] (.o (.lst []),[])
theorem Zqz{w:W}(h:qx w.C (.lst [])){s s':T}{o o':Str}{r r':ZZ}:wF Vg w [.f (.tup (s::.str o::r)),.f (.tup []),.f (.tup (s'::.str o'::r')),.f (.tup [])] λx=>x=(.o (.lst []),[]):=by
 refine Yz rfl λD rt _=>?_;refine Zx h λx e=>?_;subst e;exact rt _ _ rfl
def TelB(P:Prop)(x:Sl×ZZ):Prop:=∃b:Bool,(b=true↔P)/\x=(if b=true then .o (.lst []) else .f .non,[])
def Zw3(C:Cs):Prop:=∀{root root' x x':Str} {XM kvs':ZX} {s s' d d':T},Zb XM (.inr x)=some s->Zb kvs' (.inr x')=some s'->Vt s d->Vt s' d'->on (C "parts_of_both" [Mq9 root XM,Mq9 root' kvs',.f (.tup [.str x,d,.str x',d'])]) (TelB (K6 s s' d d'))
theorem C8{i j:Int}:(i==j)=decide (i=j):=Bool.beq_eq_decide_eq i j
theorem Uw{s s' d d':T}{a b a' b' i j:Int}{c:Bool}(h:Bn s a b)(h':Bn s' a' b')(e:wn d=some i)(e':wn d'=some j)(hc:c=decide (i=j)):c=true↔K6 s s' d d':=by
 subst hc;constructor
 .intro z;have:=D9 z;subst this;exact .num h h' e e'
 .intro z;refine Mz ?_;cases z with
  | num _ _ e1 e2=>rw[e]at e1;rw[e']at e2;cases e1;cases e2;rfl
  | text=>cases e
  | row=>cases e
  | map=>cases e
theorem Qv{n m:Int}{x y:Str}{c:Bool}(hc:c=decide (x=y)):c=true↔K6 (.tup [.str "text",.int n]) (.tup [.str "text",.int m]) (.str x) (.str y):=by
 subst hc;constructor
 .intro z;have:=D9 z;subst this;exact .text
 .intro z;refine Mz ?_;generalize hs:T.tup [.str "text",.int n]=s at z;generalize hx:T.str x=u at z;generalize hy:T.str y=v at z;cases z with
  | num _ _ e1 e2=>rw[<-hx]at e1;cases e1
  | text=>cases hx;cases hy;rfl
set_option maxHeartbeats 2000000 in
theorem Zjm{w:W}(hF:qw w.C)(hI:PIS w.C)(hR:qx w.C (.tup []))(hM:Zw1 w.C){root root' x x':Str}{XM kvs':ZX}{s s' d d':T}(e:Zb XM (.inr x)=some s)(e':Zb kvs' (.inr x')=some s')(f:Vt s d)(f':Vt s' d'):wF Vf w [Mq9 root XM,Mq9 root' kvs',.f (.tup [.str x,d,.str x',d'])] (TelB (K6 s s' d d')):=by
 refine Yz rfl λD rt _=>?_;refine cE9 (hF e) ?_;refine cE9 (hF e') ?_;have no:∀q:P,¬ K6 s s' d d'->q.length=5->D.rt (.f .non) (.f (.tup [.str root,.dct XM])::.f (.tup [.str root',.dct kvs'])::.f (.tup [.str x,d,.str x',d'])::q):=λq h _=>rt _ _ ⟨false,⟨(λz=>nomatch z),λz=>absurd z h⟩,rfl⟩;cases f with
 | @whole a1 b1 i h1 h2 =>
  refine cE9 (hI Zl) ?_;cases f' with
  | @whole a2 b2 j g1 g2 =>
   refine cE9 (hI Zl) ?_;refine Zk (b:=decide (i=j)) (λz=>?_) λz=>?_
   .exact rt _ _ ⟨true,Uw .whole .whole rfl rfl z.symm,rfl⟩
   .exact rt _ _ ⟨false,Uw .whole .whole rfl rfl z.symm,rfl⟩
  | @truth b =>
   refine cE9 (hI Zr) ?_;refine Zk (b:=i==if b=true then 1 else 0) (λz=>?_) λz=>?_
   .exact rt _ _ ⟨true,Uw .whole .truth rfl rfl (z.symm.trans C8),rfl⟩
   .exact rt _ _ ⟨false,Uw .whole .truth rfl rfl (z.symm.trans C8),rfl⟩
  | text g=>refine cE9 (hI Zs) ?_;exact no _ (Z3 Zl Zs XH) rfl
  | row=>refine cE9 (hI Zo) ?_;exact no _ (Z3 Zl Zo XH) rfl
  | map=>refine cE9 (hI Zi) ?_;exact no _ (Z3 Zl Zi XH) rfl
 | @truth b =>
  refine cE9 (hI Zr) ?_;cases f' with
  | @whole a2 b2 j g1 g2 =>
   refine cE9 (hI Zl) ?_;refine Zk (b:=(if b=true then 1 else 0)==j) (λz=>?_) λz=>?_
   .exact rt _ _ ⟨true,Uw .truth .whole rfl rfl (z.symm.trans C8),rfl⟩
   .exact rt _ _ ⟨false,Uw .truth .whole rfl rfl (z.symm.trans C8),rfl⟩
  | @truth c =>
   refine cE9 (hI Zr) ?_;have q:(b==c)=decide ((if b=true then (1:Int) else 0)=if c=true then 1 else 0):=by cases b<;>cases c<;>rfl
   refine Zk (b:=b==c) (λz=>?_) λz=>?_
   .exact rt _ _ ⟨true,Uw .truth .truth rfl rfl (z.symm.trans q),rfl⟩
   .exact rt _ _ ⟨false,Uw .truth .truth rfl rfl (z.symm.trans q),rfl⟩
  | text g=>refine cE9 (hI Zs) ?_;exact no _ (Z3 Zr Zs XH) rfl
  | row=>refine cE9 (hI Zo) ?_;exact no _ (Z3 Zr Zo XH) rfl
  | map=>refine cE9 (hI Zi) ?_;exact no _ (Z3 Zr Zi XH) rfl
 | @text n1 a h =>
  refine cE9 (hI Zs) ?_;cases f' with
  | whole g1 g2=>refine cE9 (hI Zl) ?_;exact no _ (Z3 Zs Zl XH) rfl
  | truth=>refine cE9 (hI Zr) ?_;exact no _ (Z3 Zs Zr XH) rfl
  | @text n2 c g =>
   refine cE9 (hI Zs) ?_;refine Zk (b:=decide (a=c)) (λz=>?_) λz=>?_
   .exact rt _ _ ⟨true,Qv z.symm,rfl⟩
   .exact rt _ _ ⟨false,Qv z.symm,rfl⟩
  | row=>refine cE9 (hI Zo) ?_;exact no _ (Z3 Zs Zo XH) rfl
  | map=>refine cE9 (hI Zi) ?_;exact no _ (Z3 Zs Zi XH) rfl
 | row =>
  refine cE9 (hI Zo) ?_;cases f' with
  | whole g1 g2=>refine cE9 (hI Zl) ?_;exact no _ (Z3 Zo Zl XH) rfl
  | truth=>refine cE9 (hI Zr) ?_;exact no _ (Z3 Zo Zr XH) rfl
  | text g=>refine cE9 (hI Zs) ?_;exact no _ (Z3 Zo Zs XH) rfl
  | row =>
   refine cE9 (hI Zo) ?_;refine cE9 hR ?_;exact rt _ _ ⟨true,⟨λ_=>.row,λ_=>rfl⟩,rfl⟩
  | map=>refine cE9 (hI Zi) ?_;exact no _ (Z3 Zo Zi XH) rfl
 | map =>
  refine cE9 (hI Zi) ?_;cases f' with
  | whole g1 g2=>refine cE9 (hI Zl) ?_;exact no _ (Z3 Zi Zl XH) rfl
  | truth=>refine cE9 (hI Zr) ?_;exact no _ (Z3 Zi Zr XH) rfl
  | text g=>refine cE9 (hI Zs) ?_;exact no _ (Z3 Zi Zs XH) rfl
  | row=>refine cE9 (hI Zo) ?_;exact no _ (Z3 Zi Zo XH) rfl
  | map =>
   refine cE9 (hI Zi) ?_;refine cE9 hM ?_;exact rt _ _ ⟨true,⟨λ_=>.map,λ_=>rfl⟩,rfl⟩
def PAlk(C:Cs):Prop:=∀{U5:ZD} {root root' x x':Str} {XM kvs':ZX} {s s' d d':T},Zb XM (.inr x)=some s->Zb kvs' (.inr x')=some s'->Vt s d->Shp U5 s'->DF s' d'->on (C "tells_alike" [Mq9 root XM,.f (.str x),.f d,Mq9 root' kvs',.f (.str x'),.f d']) (v7 (K6 s s' d d'))
theorem gh{w:W}(hV:PVal w.C)(hB:Zw3 w.C){U5:ZD}{root root' x x':Str}{XM kvs':ZX}{s s' d d':T}(e:Zb XM (.inr x)=some s)(e':Zb kvs' (.inr x')=some s')(f:Vt s d)(Jt:Shp U5 s')(f':DF s' d'):wF Vi w [Mq9 root XM,.f (.str x),.f d,Mq9 root' kvs',.f (.str x'),.f d'] (v7 (K6 s s' d d')):=by
 refine Yz rfl λD rt _=>?_;refine cE9 (hV e' Jt f') ?_;refine whS ?_;refine wWhI (λn p=>∃ts s7,p=[Mq9 root XM,.f (.str x),.f d,Mq9 root' kvs',.f (.str x'),.f d',.o (.lst ts),s7]/\((n=1/\ts=[.tup [.str x,d,.str x',d']])\/(n=0/\ts=[]/\K6 s s' d d'))) (λn p K hi kt kf=>?_) 1 1000000 _ XS ⟨_,_,rfl,.inl ⟨rfl,rfl⟩⟩;obtain⟨ts,s7,rfl,⟨rfl,rfl⟩ | ⟨rfl,rfl,al⟩⟩:=hi
 .refine kt _ λD' nx _ _ O5=>?_;refine Zx (hB e e' f f'.f) λy hy=>?_;obtain⟨b,hb,rfl⟩:=hy;cases b with
  | true =>
   show wS w _ _ [Mq9 root XM,.f (.str x),.f d,Mq9 root' kvs',.f (.str x'),.f d',.o (.lst []),.o (.lst [])] _;exact nx 0 _ XS ⟨_,_,rfl,.inr ⟨rfl,rfl,hb.mp rfl⟩⟩
  | false =>
   show wS w _ _ [Mq9 root XM,.f (.str x),.f d,Mq9 root' kvs',.f (.str x'),.f d',.o (.lst []),.f .non] _;exact O5 _ _ (rt _ _ ⟨false,hb,rfl⟩)
 .exact kf _ (rt _ _ ⟨true,⟨λ_=>al,λ_=>rfl⟩,rfl⟩)
structure Zja(C:Cs):Prop where
 y:∀{t:T} {a b:Int},Bn t a b->Kh C "_law_bounds" [.f t] (.f (.tup [.int a,.int b]),[])
 n:∀{k z:Str} {r:ZZ},Ye k=some z->z ≠ "whole" -> Kh C "_law_bounds" [.f (.tup (.str k::r))] (.f (.tup []),[])
def PLAl(C:Cs):Prop:=∀{s s' d d':T},Vt s d->Vt s' d'->on (C "_law_alike" [.f (.tup [s,s']),.f d,.f d']) (v7 (K6 s s' d d'))
theorem bn_hd{t:T}{a b:Int}(h:Bn t a b):∃k r,t=.tup (.str k::r)/\Ye k=some "whole" := by
 cases h
 .exact⟨_,_,rfl,Zl⟩
 .exact⟨_,_,rfl,Zr⟩
theorem pz{s d:T}(h:Vt s d):(∃a b i,Bn s a b/\wn d=some i/\(d=.int i\/∃c:Bool,d=.bl c/\i=if c=true then 1 else 0))\/∃k z r,s=.tup (.str k::r)/\Ye k=some z/\z ≠ "whole" /\ wn d=none:=by
 cases h with
 | whole h1 h2=>exact .inl ⟨_,_,_,.whole,rfl,.inl rfl⟩
 | truth=>exact .inl ⟨_,_,_,.truth,rfl,.inr ⟨_,rfl,rfl⟩⟩
 | text h=>exact .inr ⟨_,_,_,rfl,Zs,by decide +kernel,rfl⟩
 | row=>exact .inr ⟨_,_,_,rfl,Zo,by decide +kernel,rfl⟩
 | map=>exact .inr ⟨_,_,_,rfl,Zi,by decide +kernel,rfl⟩
theorem intP{d:T}{i:Int}(h:d=.int i\/∃c:Bool,d=.bl c/\i=if c=true then 1 else 0){Q:Sl->Prop}(q:Q (.f (.int i))):on (Ki .int [d]) Q:=by
 rcases h with rfl | ⟨c,rfl,rfl⟩
 .exact q
 .exact q
set_option maxHeartbeats 1000000 in
theorem Q3{w:W}(hB:Zja w.C){s s' d d':T}(f:Vt s d)(f':Vt s' d'):wF Jy w [.f (.tup [s,s']),.f d,.f d'] (v7 (K6 s s' d d')):=by
 refine Yz rfl λD rt _=>?_
 have bs:∀{s d:T},Vt s d->∃ts,Kh w.C "_law_bounds" [.f s] (.f (.tup ts),[])/\((ts=[]/\wn d=none)\/∃a b,ts=[.int a,.int b]/\Bn s a b):=λ{s d} f=>by
  rcases pz f with ⟨a,b,i,h,_⟩ | ⟨k,z,r,rfl,h1,h2,h3⟩
  .exact⟨_,hB.y h,.inr ⟨a,b,rfl,h⟩⟩
  .exact⟨_,hB.n h1 h2,.inl ⟨rfl,h3⟩⟩
 obtain⟨ts,c1,k1⟩:=bs f;obtain⟨Oc,c2,k2⟩:=bs f';refine cE9 c1 ?_;refine cE9 c2 ?_
 have seq:(wn d=none\/wn d'=none)->wS w (Vw [.f (.tup [s,s']),.f d,.f d']) (Yd 1 T9) [.f (.tup [s,s']),.f d,.f d'] D:=λhn=>by
  cases f with
  | whole h1 h2=>cases f'<;>first
   | (rcases hn with z | z<;>cases z;done)
   | exact rt _ _ ⟨false,⟨(λz=>nomatch z),λz=>absurd z (by first | exact Z3 Zl Zs XH | exact Z3 Zl Zo XH | exact Z3 Zl Zi XH)⟩,rfl⟩
  | truth=>cases f'<;>first
   | (rcases hn with z | z<;>cases z;done)
   | exact rt _ _ ⟨false,⟨(λz=>nomatch z),λz=>absurd z (by first | exact Z3 Zr Zs XH | exact Z3 Zr Zo XH | exact Z3 Zr Zi XH)⟩,rfl⟩
  | @text n1 a h=>cases f' with
   | @text n2 c g =>
    refine rt _ _ ⟨decide (a=c),Qv rfl,rfl⟩
   | whole g1 g2=>exact rt _ _ ⟨false,⟨(λz=>nomatch z),λz=>absurd z (Z3 Zs Zl XH)⟩,rfl⟩
   | truth=>exact rt _ _ ⟨false,⟨(λz=>nomatch z),λz=>absurd z (Z3 Zs Zr XH)⟩,rfl⟩
   | row=>exact rt _ _ ⟨false,⟨(λz=>nomatch z),λz=>absurd z (Z3 Zs Zo XH)⟩,rfl⟩
   | map=>exact rt _ _ ⟨false,⟨(λz=>nomatch z),λz=>absurd z (Z3 Zs Zi XH)⟩,rfl⟩
  | row=>cases f' with
   | row=>exact rt _ _ ⟨true,⟨λ_=>.row,λ_=>rfl⟩,rfl⟩
   | whole g1 g2=>exact rt _ _ ⟨false,⟨(λz=>nomatch z),λz=>absurd z (Z3 Zo Zl XH)⟩,rfl⟩
   | truth=>exact rt _ _ ⟨false,⟨(λz=>nomatch z),λz=>absurd z (Z3 Zo Zr XH)⟩,rfl⟩
   | text g=>exact rt _ _ ⟨false,⟨(λz=>nomatch z),λz=>absurd z (Z3 Zo Zs XH)⟩,rfl⟩
   | map=>exact rt _ _ ⟨false,⟨(λz=>nomatch z),λz=>absurd z (Z3 Zo Zi XH)⟩,rfl⟩
  | map=>cases f' with
   | map=>exact rt _ _ ⟨true,⟨λ_=>.map,λ_=>rfl⟩,rfl⟩
   | whole g1 g2=>exact rt _ _ ⟨false,⟨(λz=>nomatch z),λz=>absurd z (Z3 Zi Zl XH)⟩,rfl⟩
   | truth=>exact rt _ _ ⟨false,⟨(λz=>nomatch z),λz=>absurd z (Z3 Zi Zr XH)⟩,rfl⟩
   | text g=>exact rt _ _ ⟨false,⟨(λz=>nomatch z),λz=>absurd z (Z3 Zi Zs XH)⟩,rfl⟩
   | row=>exact rt _ _ ⟨false,⟨(λz=>nomatch z),λz=>absurd z (Z3 Zi Zo XH)⟩,rfl⟩
 rcases k1 with ⟨rfl,n1⟩ | ⟨a,b,rfl,b1⟩
 .rcases k2 with ⟨rfl,n2⟩ | ⟨a',b',rfl,b2⟩
  .exact seq (.inl n1)
  .exact seq (.inl n1)
 .rcases k2 with ⟨rfl,n2⟩ | ⟨a',b',rfl,b2⟩
  .exact seq (.inr n2)
  .have num:∀{s d:T} {a b:Int},Vt s d->Bn s a b->∃i,wn d=some i/\(d=.int i\/∃c:Bool,d=.bl c/\i=if c=true then 1 else 0):=λ{s d a b} f h=>by
    rcases pz f with ⟨_,_,i,_,e1,e2⟩ | ⟨k,z,r,rfl,h1,h2,_⟩
    .exact⟨i,e1,e2⟩
    .obtain⟨k',r',e,h3⟩:=bn_hd h;cases e;rw[h1]at h3;cases h3;exact absurd rfl h2
   obtain⟨i,e1,g1⟩:=num f b1;obtain⟨j,e2,g2⟩:=num f' b2;refine intP g1 ?_;refine intP g2 ?_;exact rt _ _ ⟨decide (i=j),Uw b1 b2 e1 e2 rfl,rfl⟩
noncomputable def dN:T->Bool
 | .tup [_,_,_,.tup ds]=>ds.isEmpty
 | _=>false
noncomputable def mlB(ps:ZZ)(g:T):Bool:=!dN g || (Yf ps (Ys g)).isSome
theorem Zqi{ps:ZZ}{n:Int}:(Yf ps n).isSome=true↔∃f∈ps,Ys f=n:=by
 cases e:Yf ps n with
 | none=>exact⟨(λz=>nomatch z),λ⟨f,m,z⟩=>absurd z (find_none.mp e f m)⟩
 | some f=>exact⟨λ_=>⟨f,List.mem_of_find?_eq_some e,D9 (by have:=List.find?_some e;exact this)⟩,λ_=>rfl⟩
theorem ml_all{ps Yw:ZZ}:Yw.all (mlB ps)=true↔∀g∈Yw,dN g=true->∃f∈ps,Ys f=Ys g:=by
 rw[yq];refine forall_congr' λg=>forall_congr' λ_=>?_;unfold mlB;rw[<-Zqi];cases dN g<;>simp
def ak(ps Yw:ZZ):Prop:=∀g∈Yw,dN g=true->∃f∈ps,Ys f=Ys g
noncomputable def V1(ps us:ZZ):T:=.tup [.str "record",.tup ps,.tup us]
def Zw2(C:Cs):Prop:=∀{ns U5:ZD} {ps Yw us U3:ZZ},Y3 ns true ps->Y3 U5 true Yw->on (C "may_lack" [.f (V1 ps us),.f (V1 Yw U3)]) (v7 (ak ps Yw))
theorem Zqk{w:W}(hL:aj w.C)(hM:Zju w.C){ns U5:ZD}{ps Yw us U3:ZZ}(hp:Y3 ns true ps)(K4:Y3 U5 true Yw):wF Gd w [.f (V1 ps us),.f (V1 Yw U3)] (v7 (ak ps Yw)):=by
 refine Yz rfl λD rt _=>?_;refine Jl (λg=>.bl (mlB ps g)) (λp=>∃s0,p=[s0,.f (V1 ps us)]) ⟨_,rfl⟩ (λg mg p K hi hk=>?_) λp hi=>?_
 .obtain⟨s0,rfl⟩:=hi;obtain⟨n,x,o,ds,rfl,_⟩:=(K4.p g mg).asR;have hk:=hk [.f (.tup [.int n,.str x,.str o,.tup ds]),.f (V1 ps us)] ⟨_,rfl⟩;refine cE9 hL ?_;refine Zk (b:=!ds.isEmpty) (λz=>?_) λz=>?_
  .have:mlB ps (.tup [.int n,.str x,.str o,.tup ds])=true:=by
    show (!ds.isEmpty || _)=true;rw[z];rfl
   rw[this]at hk;exact hk
  .have e:mlB ps (.tup [.int n,.str x,.str o,.tup ds])=(Yf ps n).isSome:=by
    show (!ds.isEmpty || _)=_;rw[z];rfl
   rw[e]at hk;refine cE9 (hM (s:="record") (r:=[.tup us]) hp.p) ?_;cases q:Yf ps n with
   | none=>rw[q]at hk;exact hk
   | some f =>
    rw[q]at hk;obtain⟨n',x',o',Ln,rfl,_⟩:=(hp.p f (List.mem_of_find?_eq_some q)).asR;exact hk
 obtain⟨s0,rfl⟩:=hi;refine allP ?_;exact rt _ _ ⟨_,ml_all,rfl⟩
def LoP(XM kvs':ZX)(o o':Str)(ds Ln:ZZ):Prop:=∀d,ds=[d]->∃d' s s',Ln=[d']/\Zb XM (.inr o)=some s/\Zb kvs' (.inr o')=some s'/\K6 s s' d d'
structure FdO(ns:ZD)(XM:ZX)(o:Str)(ds:ZZ):Prop where
 d:ds=[]\/∃d s,ds=[d]/\Zb XM (.inr o)=some s/\Shp ns s/\DF s d
def PLoa(C:Cs):Prop:=∀{ns U5:ZD} {root root' x x' o o':Str} {XM kvs':ZX} {n n':Int} {ds Ln:ZZ},FdO ns XM o ds->FdO U5 kvs' o' Ln->on (C "are_left_out_alike" [Mq9 root XM,Mq9 root' kvs',.f (.tup [.int n,.str x,.str o,.tup ds]),.f (.tup [.int n',.str x',.str o',.tup Ln])]) (v7 (LoP XM kvs' o o' ds Ln))
theorem loa_ok{w:W}(hL:aj w.C)(hA:PAlk w.C){ns U5:ZD}{root root' x x' o o':Str}{XM kvs':ZX}{n n':Int}{ds Ln:ZZ}(h:FdO ns XM o ds)(h':FdO U5 kvs' o' Ln):wF Yb w [Mq9 root XM,Mq9 root' kvs',.f (.tup [.int n,.str x,.str o,.tup ds]),.f (.tup [.int n',.str x',.str o',.tup Ln])] (v7 (LoP XM kvs' o o' ds Ln)):=by
 refine Yz rfl λD rt _=>?_;refine cE9 hL ?_;rcases h.d with rfl | ⟨d,s,rfl,e,hs,df⟩
 .exact rt _ _ ⟨true,⟨λ_ d z=>(nomatch z),λ_=>rfl⟩,rfl⟩
 .refine cE9 hL ?_;rcases h'.d with rfl | ⟨d',s',rfl,e',Jt,df'⟩
  .exact rt _ _ ⟨false,⟨(λz=>nomatch z),λz=>by obtain⟨_,_,_,q,_⟩:=z d rfl;cases q⟩,rfl⟩
  .refine Zx (hA e e' df.f Jt df') λy hy=>?_;obtain⟨b,hb,rfl⟩:=hy;refine rt _ _ ⟨b,⟨λz d1 q=>?_,λz=>hb.mpr ?_⟩,rfl⟩
   .cases q;exact⟨d',s,s',rfl,e,e',hb.mp z⟩
   .obtain⟨d1,s1,s1',q,e1,e1',al⟩:=z d rfl;cases q;rw[e]at e1;rw[e']at e1';cases e1;cases e1';exact al
def ot(hb:Str->Str->Bool)(XM kvs':ZX)(f g:T):Prop:=∀(n:Int) (x o:Str) (ds:ZZ) (n':Int) (x' o':Str) (Ln:ZZ),f=.tup [.int n,.str x,.str o,.tup ds]->g=.tup [.int n',.str x',.str o',.tup Ln]->hb o o'=true/\LoP XM kvs' o o' ds Ln
def FR(hb:Str->Str->Bool)(XM kvs':ZX)(ps Yw:ZZ):Prop:=ak ps Yw/\∀f∈ps,∀g∈Yw,Ys f=Ys g->ot hb XM kvs' f g
theorem ot.mk{hb:Str->Str->Bool}{XM kvs':ZX}{n n':Int}{x x' o o':Str}{ds Ln:ZZ}(h1:hb o o'=true)(h2:LoP XM kvs' o o' ds Ln):ot hb XM kvs' (.tup [.int n,.str x,.str o,.tup ds]) (.tup [.int n',.str x',.str o',.tup Ln]):=λ_ _ _ _ _ _ _ _ e e'=>by cases e;cases e';exact⟨h1,h2⟩
structure Wi(ns:ZD)(XM:ZX)(ps:ZZ):Prop where
 p:Y3 ns true ps
 f:∀f∈ps,∃n x o ds,f=.tup [.int n,.str x,.str o,.tup ds]/\FdO ns XM o ds
def PARF(C:Cs):Prop:=∀{ns U5:ZD} {root root':Str} {XM kvs':ZX} {ps Yw us U3:ZZ} {pp:List (Str×Str)} {es:ZD},Wi ns XM ps->Wi U5 kvs' Yw->on (C "are_right_fields" [Mq9 root XM,Mq9 root' kvs',.f (Zc pp es),.f (V1 ps us),.f (V1 Yw U3)]) (v7 (FR (hB pp es) XM kvs' ps Yw))
set_option maxHeartbeats 2000000 in
theorem arf_ok{w:W}(hK:Zw2 w.C)(hM:Zju w.C)(hH:Dp "holds" w.C)(hL:PLoa w.C){ns U5:ZD}{root root':Str}{XM kvs':ZX}{ps Yw us U3:ZZ}{pp:List (Str×Str)}{es:ZD}(h:Wi ns XM ps)(h':Wi U5 kvs' Yw):wF Yi w [Mq9 root XM,Mq9 root' kvs',.f (Zc pp es),.f (V1 ps us),.f (V1 Yw U3)] (v7 (FR (hB pp es) XM kvs' ps Yw)):=by
 refine Yz rfl λD rt _=>?_;refine Zx (hK h.p h'.p) λy hy=>?_;obtain⟨b,hb,rfl⟩:=hy;refine Zk (b:=!b) (λz=>rt _ _ ⟨false,⟨(λq=>nomatch q),λq=>by rw[hb.mpr q.1]at z;cases z⟩,rfl⟩) λz=>?_;have lk:=hb.mp (Dq z);refine Xz (λrest p=>∃s5 s6,p=[Mq9 root XM,Mq9 root' kvs',.f (Zc pp es),.f (V1 ps us),.f (V1 Yw U3),s5,s6]/\(∀x∈rest,x∈ps)/\∀f∈ps,f∈rest\/∀g∈Yw,Ys f=Ys g->ot (hB pp es) XM kvs' f g) ⟨_,_,rfl,λx m=>m,λf m=>.inl m⟩ (λf rest p D' hi nx O5=>?_) λp hi=>?_
 .obtain⟨s5,s6,rfl,hr,hd⟩:=hi;have mf:=hr f V4;have K3:∀x∈rest,x∈ps:=λx m=>hr x (Uz _ m);obtain⟨n,x,o,ds,rfl,fo⟩:=h.f f mf
  have go:(∀g∈Yw,n=Ys g->ot (hB pp es) XM kvs' (.tup [.int n,.str x,.str o,.tup ds]) g)->∀f∈ps,f∈rest\/∀g∈Yw,Ys f=Ys g->ot (hB pp es) XM kvs' f g:=λhf f1 m1=>by
   rcases hd f1 m1 with q | q
   .rcases Y8.mp q with rfl | q
    .exact .inr hf
    .exact .inl q
   .exact .inr q
  refine cE9 (hM (s:="record") (r:=[.tup U3]) h'.p.p) ?_;cases q:Yf Yw n with
  | none=>exact nx _ ⟨_,_,rfl,K3,go λg mg e=>absurd e.symm (find_none.mp q g mg)⟩
  | some g =>
   obtain⟨mg,eg⟩:=(find_some h'.p.d).mp q;obtain⟨n',x',o',Ln,rfl,fo'⟩:=h'.f g mg;refine cE9 hH ?_;refine Zk (b:=!hB pp es o o') (λz=>?_) λz=>?_
   .refine O5 _ _ (rt _ _ ⟨false,⟨(λq=>nomatch q),λq=>?_⟩,rfl⟩);have:=(q.2 _ mf _ mg eg.symm _ _ _ _ _ _ _ _ rfl rfl).1;rw[this]at z;cases z
   .refine Zx (hL fo fo') λy hy=>?_;obtain⟨b,hb,rfl⟩:=hy;refine Zk (b:=!b) (λz=>?_) λz2=>?_
    .refine O5 _ _ (rt _ _ ⟨false,⟨(λq=>nomatch q),λq=>?_⟩,rfl⟩);have:=(q.2 _ mf _ mg eg.symm _ _ _ _ _ _ _ _ rfl rfl).2;rw[hb.mpr this]at z;cases z
    .refine nx _ ⟨_,_,rfl,K3,go λg1 m1 e1=>?_⟩;have:Yf Yw n=some g1:=(find_some h'.p.d).mpr ⟨m1,e1.symm⟩;rw[q]at this;cases this;exact .mk (Dq z) (hb.mp (Dq z2))
 .obtain⟨s5,s6,rfl,_,hd⟩:=hi;refine rt _ _ ⟨true,⟨λ_=>⟨lk,λf m=>?_⟩,λ_=>rfl⟩,rfl⟩;rcases hd f m with q | q
  .cases q
  .exact q
noncomputable def wz(L:List (Int×T))(acc:ZX):ZX:=(L.map λp=>((Sum.inl p.1:Key),p.2)).foldl (λacc kv=>Y9 acc kv.1 kv.2) acc
theorem Rr:∀L:List (Int×T),Mo (L.map λp=>.tup [.int p.1,p.2])=some (L.map λp=>((Sum.inl p.1:Key),p.2))
 | []=>rfl
 | p::L=>by show (some (Sum.inl p.1:Key)).bind _=_;show (Mo (L.map λp=>.tup [.int p.1,p.2])).map _=_;rw[Rr L];rfl
theorem p9{L:List (Int×T)}{Q:Sl->Prop}(q:Q (.o (.dct (wz L [])))):on (Ki .dict [.lst (L.map λp=>.tup [.int p.1,p.2])]) Q:=Z8 (by show (Mo _).map _=_;rw[Rr];rfl) q
theorem C4{y:Int}:∀{L:List (Int×T)} {acc:ZX},y∉L.map (·.1)->Zb (wz L acc) (.inl y)=Zb acc (.inl y)
 | [],_,_=>rfl
 | p::L,acc,h=>by
  show Zb (wz L (Y9 acc (.inl p.1) p.2)) (.inl y)=_;rw[C9,Y8]at h;rw[C4 (λz=>h (.inr z)),Vv,if_neg (λz=>h (.inl (Sum.inl.inj z).symm))]
theorem Ac{y:Int}{t:T}:∀{L:List (Int×T)} {acc:ZX},(L.map (·.1)).Nodup->(y,t)∈L->Zb (wz L acc) (.inl y)=some t
 | [],_,_,h=>absurd h U2
 | p::L,acc,d,h=>by
  obtain⟨d1,d2⟩:=List.nodup_cons.mp (show (p.1::L.map (·.1)).Nodup from d);show Zb (wz L (Y9 acc (.inl p.1) p.2)) (.inl y)=some t;rcases Y8.mp h with e | h
  .subst e;rw[C4 d1,Vv,if_pos rfl]
  .exact Ac d2 h
noncomputable def Tj:T->Int×T
 | .tup [.int n,_,o]=>(n,o)
 | _=>(0,.non)
theorem v5{w:W}{ss:ZD}{fs:ZZ}(hf:Y3 ss false fs){Q:ZZ->P->Prop}(q:∀s0,Q ((fs.map Tj).map λp=>.tup [.int p.1,p.2]) [s0]) :
  Ga (λx s K=>on (asg (.v 0) x s) λs1=>if isNil .nil=true then wE w (.pr .sl2 (.cons (.v 0) .nil)) s1 λr s2=>Ov r λy=>K (some y) s2
   else wE w .nil s1 λr s2=>j7 r λb=>if b=true then wE w (.pr .sl2 (.cons (.v 0) .nil)) s2 λr s3=>Ov r λy=>K (some y) s3 else K none s2) fs [] [.no] Q:=by
 refine Jl (λt=>.tup [.int (Tj t).1,(Tj t).2]) (λs=>∃s0,s=[s0]) ⟨_,rfl⟩ (λx mx s K hs hk=>?_) λs hs=>?_
 .obtain⟨s0,rfl⟩:=hs;obtain⟨n,y,o,rfl,_⟩:=(hf.p x mx).cho;exact hk _ ⟨_,rfl⟩
 .obtain⟨s0,rfl⟩:=hs;rw[show fs.map (λt=>T.tup [.int (Tj t).1,(Tj t).2])=(fs.map Tj).map λp=>.tup [.int p.1,p.2] by rw[List.map_map];rfl];exact q s0
theorem x8{ss:ZD}:∀{fs:ZZ},(∀f∈fs,W5 ss false f)->(fs.map Tj).map (·.1)=fs.map Ys
 | [],_=>rfl
 | f::fs,h=>by
  obtain⟨n,y,o,rfl,_⟩:=(h f V4).cho;rw[C9,C9,C9,x8 λf m=>h f (Uz _ m)];rfl
theorem ixIP{XM:ZX}{k:Int}{x:T}{Q:Sl->Prop}(e:Zb XM (.inl k)=some x)(q:Q (.f x)):on ((K2 (.dct XM) (.int k)).map Sl.f) Q:=Z8 (by show (Zb XM (.inl k)).map _=_;rw[e];rfl) q
inductive Kx where | num | text | row | map | rcd | cho
noncomputable def kz:Kx->Str
 | .num => "whole"
 | .text => "text"
 | .row => "row"
 | .map => "map"
 | .rcd => "rec"
 | .cho => "arm"
theorem Al{x y:Kx}(h:kz x=kz y):x=y:=by
 cases x<;>cases y<;>first | rfl | exact absurd h XH
noncomputable def Va(ps us:ZZ)(b:Bool):T:=.tup [.str "choice",.tup ps,.tup us,.bl b]
inductive v9(ns:ZD):T->Kx->Prop
 | num{t:T}{a b:Int}(h:Bn t a b):v9 ns t .num
 | text {n:Int}:v9 ns (.tup [.str "text",.int n]) .text
 | row {o:Str} {n:Int} (ho:o∈ns):v9 ns (.tup [.str "row",.str o,.int n]) .row
 | map {o:Str} {n:Int} (ho:o∈ns):v9 ns (.tup [.str "map",.str o,.int n]) .map
 | rcd {ps us:ZZ} (hp:Y3 ns true ps):v9 ns (V1 ps us) .rcd
 | cho {ps us:ZZ} {b:Bool} (hp:Y3 ns false ps):v9 ns (Va ps us b) .cho
theorem Gq{ns:ZD}{t:T}(h:Shp ns t):∃k x r,t=.tup (.str k::r)/\Ye k=some (kz x)/\v9 ns t x:=by
 cases h with
 | whole a b c=>exact⟨_,.num,_,rfl,Zl,.num .whole⟩
 | truth=>exact⟨_,.num,_,rfl,Zr,.num .truth⟩
 | text a b=>exact⟨_,.text,_,rfl,Zs,.text⟩
 | row a b c=>exact⟨_,.row,_,rfl,Zo,.row a⟩
 | map a b c=>exact⟨_,.map,_,rfl,Zi,.map a⟩
 | record a b=>exact⟨_,.rcd,_,rfl,Di,.rcd a⟩
 | choice a b=>exact⟨_,.cho,_,rfl,De,.cho a⟩
theorem Dw{ns:ZD}{t:T}{x:Kx}(h:v9 ns t x){k:Str}{r:ZZ}(e:t=.tup (.str k::r)):Ye k=some (kz x):=by
 cases h with
 | num h=>cases h<;>cases e<;>first | exact Zl | exact Zr
 | text=>cases e;exact Zs
 | row _=>cases e;exact Zo
 | map _=>cases e;exact Zi
 | rcd _=>cases e;exact Di
 | cho _=>cases e;exact De
def xh(es:ZD)(o:Str):Bool:=es.any λy=>decide (y=o)
noncomputable def ofN:T->Str
 | .tup (_::_::.str o::_)=>o
 | _ => ""
noncomputable def Lu(pp:List (Str×Str))(es:ZD)(Yw:ZZ)(b':Bool)(f:T):Bool:=match Yf Yw (Ys f) with
 | none=>xh es (ofN f) || b'
 | some g=>hB pp es (ofN f) (ofN g)
def Ip(pp:List (Str×Str))(es:ZD)(o o':Str)(n m:Int):Prop:=xh es o=true\/n=0\/(n<=m/\hB pp es o o'=true)
inductive PR(pp:List (Str×Str))(es:ZD)(XM kvs':ZX):T->T->Prop
 | num{t t':T}{a b c d:Int}(h:Bn t a b)(h':Bn t' c d)(l:c<=a)(u:b<=d):PR pp es XM kvs' t t'
 | text {n m:Int} (l:n<=m):PR pp es XM kvs' (.tup [.str "text",.int n]) (.tup [.str "text",.int m])
 | row {o o':Str} {n m:Int} (h:Ip pp es o o' n m):PR pp es XM kvs' (.tup [.str "row",.str o,.int n]) (.tup [.str "row",.str o',.int m])
 | map {o o':Str} {n m:Int} (h:Ip pp es o o' n m):PR pp es XM kvs' (.tup [.str "map",.str o,.int n]) (.tup [.str "map",.str o',.int m])
 | rcd {ps us Yw U3:ZZ} (h:FR (hB pp es) XM kvs' ps Yw):PR pp es XM kvs' (V1 ps us) (V1 Yw U3)
 | cho {ps us Yw U3:ZZ} {b b':Bool} (h:∀f∈ps,Lu pp es Yw b' f=true):PR pp es XM kvs' (Va ps us b) (Va Yw U3 b')
section
variable{pp:List (Str×Str)}{es:ZD}{XM kvs':ZX}
theorem Zz8{t t':T}(h:PR pp es XM kvs' t t'):∃x:Kx,(∀k r,t=.tup (.str k::r)->Ye k=some (kz x))/\∀k r,t'=.tup (.str k::r)->Ye k=some (kz x):=by
 cases h with
 | num h h' _ _=>exact⟨.num,λk r e=>Dw (ns:=[]) (.num h) e,λk r e=>Dw (ns:=[]) (.num h') e⟩
 | text _=>exact⟨.text,λk r e=>by cases e;exact Zs,λk r e=>by cases e;exact Zs⟩
 | row _=>exact⟨.row,λk r e=>by cases e;exact Zo,λk r e=>by cases e;exact Zo⟩
 | map _=>exact⟨.map,λk r e=>by cases e;exact Zi,λk r e=>by cases e;exact Zi⟩
 | rcd _=>exact⟨.rcd,λk r e=>by cases e;exact Di,λk r e=>by cases e;exact Di⟩
 | cho _=>exact⟨.cho,λk r e=>by cases e;exact De,λk r e=>by cases e;exact De⟩
theorem Zwx{ns U5:ZD}{t t':T}{x y:Kx}(h:Shp ns t)(h':Shp U5 t')(kx:v9 ns t x)(ky:v9 U5 t' y)(ne:x≠y):¬ PR pp es XM kvs' t t':=λz=>by
 obtain⟨u,h1,h2⟩:=Zz8 z;obtain⟨k,_,r,e,_⟩:=Gq h;obtain⟨k',_,r',e',_⟩:=Gq h';have a:=h1 k r e;have b:=h2 k' r' e';rw[Dw kx e]at a;rw[Dw ky e']at b;exact ne (Al ((D8 a).trans (D8 b).symm))
theorem ud{t:T}{a b c d:Int}(h:Bn t a b)(h':Bn t c d):a=c/\b=d:=by
 cases h with
 | whole=>cases h';exact⟨rfl,rfl⟩
 | truth=>cases h';exact⟨rfl,rfl⟩
theorem Bh{t t':T}{a b c d:Int}{x y:Bool}(h:Bn t a b)(h':Bn t' c d)(hx:x=true↔c<=a)(hy:y=true↔b<=d):(x&&y)=true↔PR pp es XM kvs' t t':=by
 rw[Vl,hx,hy];constructor
 .exact λ⟨l,u⟩=>.num h h' l u
 .intro z;cases z with
  | num g g' l u=>obtain⟨rfl,rfl⟩:=ud h g;obtain⟨rfl,rfl⟩:=ud h' g';exact⟨l,u⟩
  | text _=>cases h
  | row _=>cases h
  | map _=>cases h
  | rcd _=>cases h
  | cho _=>cases h
theorem X9{n m:Int}:PR pp es XM kvs' (.tup [.str "text",.int n]) (.tup [.str "text",.int m])↔n<=m:=by
 constructor
 .intro z;cases z with
  | num g _ _ _=>cases g
  | text l=>exact l
 .exact .text
theorem tj{o o':Str}{n m:Int}:PR pp es XM kvs' (.tup [.str "row",.str o,.int n]) (.tup [.str "row",.str o',.int m])↔Ip pp es o o' n m:=by
 constructor
 .intro z;cases z with
  | num g _ _ _=>cases g
  | row l=>exact l
 .exact .row
theorem tf{o o':Str}{n m:Int}:PR pp es XM kvs' (.tup [.str "map",.str o,.int n]) (.tup [.str "map",.str o',.int m])↔Ip pp es o o' n m:=by
 constructor
 .intro z;cases z with
  | num g _ _ _=>cases g
  | map l=>exact l
 .exact .map
theorem tw{ps us Yw U3:ZZ}:PR pp es XM kvs' (V1 ps us) (V1 Yw U3)↔FR (hB pp es) XM kvs' ps Yw:=by
 constructor
 .intro z;generalize e:V1 ps us=t at z;generalize e':V1 Yw U3=t' at z;cases z with
  | num g _ _ _=>cases g<;>cases e
  | text _=>cases e
  | row _=>cases e
  | map _=>cases e
  | rcd l=>cases e;cases e';exact l
  | cho _=>cases e
 .exact .rcd
theorem Aw{ps us Yw U3:ZZ}{b b':Bool}:PR pp es XM kvs' (Va ps us b) (Va Yw U3 b')↔∀f∈ps,Lu pp es Yw b' f=true:=by
 constructor
 .intro z;generalize e:Va ps us b=t at z;generalize e':Va Yw U3 b'=t' at z;cases z with
  | num g _ _ _=>cases g<;>cases e
  | text _=>cases e
  | row _=>cases e
  | map _=>cases e
  | rcd l=>cases e
  | cho l=>cases e;cases e';exact l
 .exact .cho
end
def PBo(C:Cs):Prop:=∀{t:T} {a b:Int},Bn t a b->Kh C "bounds_of" [.f t] (.f (.tup [.int a,.int b]),[])
theorem vo{w:W}{t:T}{a b:Int}(h:Bn t a b):wF Jk w [.f t] λx=>x=(.f (.tup [.int a,.int b]),[]):=by
 refine Yz rfl λD rt _=>?_;cases h<;>exact rt _ _ rfl
def PArm(C:Cs):Prop:=∀{ns U5:ZD} {Yw U3:ZZ} {b':Bool} {f:T} {pp:List (Str×Str)} {es:ZD},W5 ns false f->Y3 U5 false Yw->on (C "is_right_arm" [.f (Zc pp es),.f f,.f (Va Yw U3 b')]) λx=>x=(.f (.bl (Lu pp es Yw b' f)),[])
theorem arm_ok{w:W}(hM:Zju w.C)(hH:Dp "holds" w.C){ns U5:ZD}{Yw U3:ZZ}{b':Bool}{f:T}{pp:List (Str×Str)}{es:ZD}(hf:W5 ns false f)(hp:Y3 U5 false Yw):wF Vh w [.f (Zc pp es),.f f,.f (Va Yw U3 b')] λx=>x=(.f (.bl (Lu pp es Yw b' f)),[]):=by
 refine Yz rfl λD rt _=>?_;obtain⟨n,x,o,rfl,_⟩:=hf.cho;refine cE9 (hM (s:="choice") (r:=[.tup U3,.bl b']) hp.p) ?_;have ea:Lu pp es Yw b' (.tup [.int n,.str x,.str o])=match Yf Yw n with | none=>xh es o || b' | some g=>hB pp es o (ofN g):=rfl
 rw[ea]at rt;cases q:Yf Yw n with
 | none =>
  rw[q]at rt;show wS w _ _ [.f (Zc pp es),.f (.tup [.int n,.str x,.str o]),.f (Va Yw U3 b'),.f .non] _;refine z7 ?_;refine Zk (b:=es.any λy=>decide (y=o)) (λz=>?_) λz=>?_
  .refine rt _ _ ?_;unfold xh;rw[z];rfl
  .refine rt _ _ ?_;unfold xh;rw[z];rfl
 | some g =>
  rw[q]at rt;obtain⟨n',x',o',rfl,_⟩:=(hp.p g (List.mem_of_find?_eq_some q)).cho;show wS w _ _ [.f (Zc pp es),.f (.tup [.int n,.str x,.str o]),.f (Va Yw U3 b'),.f (.tup [.int n',.str x',.str o'])] _;refine cE9 hH ?_;exact rt _ _ rfl
structure Mk(ns:ZD)(XM:ZX):Prop where
 g:∀o∈ns,∃s,Zb XM (.inr o)=some s/\Shp ns s
 f:∀{ps us:ZZ} {x:Str},Zb XM (.inr x)=some (V1 ps us)->Y3 ns true ps->Wi ns XM ps
def rl(pp:List (Str×Str))(es:ZD)(XM kvs':ZX)(t t':T):Sl×ZZ->Prop:=v7 (PR pp es XM kvs' t t')
theorem not_lt{a b:Int}:(!decide (a<b))=true↔b<=a:=by
 by_cases h:a<b
 .rw[Mz h];exact⟨(λz=>nomatch z),λz=>absurd h XS⟩
 .rw[Bf h];exact⟨λ_=>by omega,λ_=>rfl⟩
def PIRP(C:Cs):Prop:=∀{ns U5:ZD} {root root' a r:Str} {XM kvs':ZX} {t t':T} {pp:List (Str×Str)} {es:ZD},Mk ns XM->Mk U5 kvs'->Zb XM (.inr a)=some t->Zb kvs' (.inr r)=some t'->Shp ns t->Shp U5 t'->on (C "is_right_pair" [Mq9 root XM,Mq9 root' kvs',.f (Zc pp es),.f (.tup [.str a,.str r])]) (rl pp es XM kvs' t t')
set_option maxHeartbeats 2000000 in
theorem irp_ok{w:W}(hF:qw w.C)(hI:PIS w.C)(hBo:PBo w.C)(hR:PARF w.C)(hA:PArm w.C)(hH:Dp "holds" w.C){ns U5:ZD}{root root' a r:Str}{XM kvs':ZX}{t t':T}{pp:List (Str×Str)}{es:ZD}(m:Mk ns XM)(m':Mk U5 kvs')(e:Zb XM (.inr a)=some t)(e':Zb kvs' (.inr r)=some t')(h:Shp ns t)(h':Shp U5 t'):wF Vb w [Mq9 root XM,Mq9 root' kvs',.f (Zc pp es),.f (.tup [.str a,.str r])] (rl pp es XM kvs' t t'):=by
 refine Yz rfl λD rt _=>?_;refine cE9 (hF e) ?_;refine cE9 (hF e') ?_;obtain⟨k,x,r1,e1,w1,k1⟩:=Gq h;obtain⟨k',x',r2,e2,w2,k2⟩:=Gq h';have c1:on (w.C "item_sort" [.f t]) λy=>y=(.f (.str (kz x)),[]):=by rw[e1];exact hI w1
 have c2:on (w.C "item_sort" [.f t']) λy=>y=(.f (.str (kz x')),[]):=by rw[e2];exact hI w2
 refine cE9 c1 ?_;show wS w _ _ [Mq9 root XM,Mq9 root' kvs',.f (Zc pp es),.f (.tup [.str a,.str r]),.f t,.f t',.f (.str (kz x)),.no,.no] _;refine cE9 c2 ?_;refine Zk (b:=!decide (kz x'=kz x)) (λz=>?_) λz=>?_
 .refine rt _ _ ⟨false,⟨(λq=>nomatch q),λq=>absurd q (Zwx h h' k1 k2 λex=>?_)⟩,rfl⟩;rw[ex,Mz rfl]at z;cases z
 have ex:x'=x:=Al (D9 (Dq z));subst ex
 have row:∀{s o o':Str} {n q:Int},t=.tup [.str s,.str o,.int n]->t'=.tup [.str s,.str o',.int q]->(PR pp es XM kvs' t t'↔Ip pp es o o' n q) ->
   wS w (Vw [Mq9 root XM,Mq9 root' kvs',.f (Zc pp es),.f (.tup [.str a,.str r])]) (Yd 8 G0) [Mq9 root XM,Mq9 root' kvs',.f (Zc pp es),.f (.tup [.str a,.str r]),.f t,.f t',.f (.str (kz x')),.no,.no] D:=λ{s o o' n q} et et' hr=>by
  subst et et';refine z7 ?_;refine Zk (b:=es.any λy=>decide (y=o)) (λz=>rt _ _ ⟨true,⟨λ_=>hr.mpr (.inl z),λ_=>rfl⟩,rfl⟩) λz=>?_;refine Zk (b:=decide (n=0)) (λz=>rt _ _ ⟨true,⟨λ_=>hr.mpr (.inr (.inl (D9 z))),λ_=>rfl⟩,rfl⟩) λz2=>?_
  have hn:Ip pp es o o' n q->n<=q/\hB pp es o o'=true:=λg=>by
   rcases g with g | g | g
   .rw[show xh es o=false from z]at g;cases g
   .exact absurd g (of_decide_eq_false z2)
   .exact g
  refine Zk (b:=!decide (q<n)) (λz3=>?_) λz3=>?_
  .refine cE9 hH ?_;exact rt _ _ ⟨_,⟨λg=>hr.mpr (.inr (.inr ⟨not_lt.mp z3,g⟩)),λg=>(hn (hr.mp g)).2⟩,rfl⟩
  .refine rt _ _ ⟨false,⟨(λq=>nomatch q),λg=>?_⟩,rfl⟩;have:=not_lt.mpr (hn (hr.mp g)).1;rw[this]at z3;cases z3
 cases k1 with
 | @num _ a1 a2 b1=>cases k2 with | @num _ c1 c2 b2 =>
  refine cE9 (hBo b1) ?_;refine cE9 (hBo b2) ?_;refine Zk (b:=!decide (a1<c1)) (λz=>?_) λz=>?_
  .exact rt _ _ ⟨_,⟨λq=>(Bh b1 b2 not_lt not_lt).mp (by rw[z];exact q),λq=>by have:=(Bh (pp:=pp) (es:=es) (XM:=XM) (kvs':=kvs') b1 b2 not_lt not_lt).mpr q;rw[z]at this;exact this⟩,rfl⟩
  .exact rt _ _ ⟨false,⟨(λq=>nomatch q),λq=>by have:=(Bh (pp:=pp) (es:=es) (XM:=XM) (kvs':=kvs') b1 b2 not_lt not_lt).mpr q;rw[z]at this;cases this⟩,rfl⟩
 | text=>cases k2 with | text=>exact rt _ _ ⟨_,not_lt.trans X9.symm,rfl⟩
 | row ho=>cases k2 with | row B1=>exact row rfl rfl tj
 | map ho=>cases k2 with | map B1=>exact row rfl rfl tf
 | rcd hp=>cases k2 with | rcd K4 =>
  refine Zx (hR (m.f e hp) (m'.f e' K4)) λy hy=>?_;obtain⟨b,hb,rfl⟩:=hy;exact rt _ _ ⟨b,hb.trans tw.symm,rfl⟩
 | @cho ps us b hp=>cases k2 with | @cho Yw U3 b' K4 =>
  refine Jl (λf=>.bl (Lu pp es Yw b' f)) (λp=>∃s0,p=[s0,.f (Zc pp es),.f (Va Yw U3 b')]) ⟨_,rfl⟩ (λf mf p K hi hk=>?_) λp hi=>?_
  .obtain⟨s0,rfl⟩:=hi;refine cE9 (hA (hp.p f mf) K4) ?_;exact hk _ ⟨_,rfl⟩
  obtain⟨s0,rfl⟩:=hi;refine allP ?_;exact rt _ _ ⟨_,yq.trans Aw.symm,rfl⟩
def fdP(f:T):Int×T:=(Ys f,f)
theorem Ro{ps:ZZ}(d:(ps.map Ys).Nodup)(n:Int):Zb (wz (ps.map fdP) []) (.inl n)=Yf ps n:=by
 have ek:(ps.map fdP).map (·.1)=ps.map Ys:=by rw[List.map_map];rfl
 cases q:Yf ps n with
 | none =>
  rw[C4 (by rw[ek];exactλz=>by obtain⟨f,m,e⟩:=Og.mp z;exact find_none.mp q f m e)]
  rfl
 | some f =>
  obtain⟨m,e⟩:=(find_some d).mp q;exact Ac (by rw[ek];exact d) (Og.mpr ⟨f,m,by unfold fdP;rw[e]⟩)
def PLFR(C:Cs):Prop:=∀{ns U5:ZD} {root root':Str} {XM kvs':ZX} {ps Yw us U3:ZZ} {pp:List (Str×Str)} {es:ZD},Mk ns XM->Mk U5 kvs'->Wi ns XM ps->Wi U5 kvs' Yw->on (C "_law_fields_right" [Mq9 root XM,Mq9 root' kvs',.f (Zc pp es),.f (V1 ps us),.f (V1 Yw U3)]) (v7 (FR (hB pp es) XM kvs' ps Yw))
theorem Wi.get{ns:ZD}{XM:ZX}{ps:ZZ}(h:Wi ns XM ps){f:T}(m:f∈ps):∃n x o ds,f=.tup [.int n,.str x,.str o,.tup ds]/\FdO ns XM o ds/\o∈ns:=by
 obtain⟨n,x,o,ds,rfl,fo⟩:=h.f f m;obtain⟨_,_,_,_,e,_,_,ho,_⟩:=(h.p.p _ m).asR;cases e;exact⟨n,x,o,ds,rfl,fo,ho⟩
set_option maxHeartbeats 4000000 in
theorem lfr_ok{w:W}(hH:Dp "_law_holds" w.C)(hA:PLAl w.C){ns U5:ZD}{root root':Str}{XM kvs':ZX}{ps Yw us U3:ZZ}{pp:List (Str×Str)}{es:ZD}(m:Mk ns XM)(m':Mk U5 kvs')(h:Wi ns XM ps)(h':Wi U5 kvs' Yw):wF Ya w [Mq9 root XM,Mq9 root' kvs',.f (Zc pp es),.f (V1 ps us),.f (V1 Yw U3)] (v7 (FR (hB pp es) XM kvs' ps Yw)):=by
 refine Yz rfl λD rt _=>?_;refine Jl (λf=>.tup [.int (Ys f),f]) (λp=>∃s0,p=[s0]) ⟨_,rfl⟩ (λf mf p K hi hk=>?_) λp hi=>?_
 .obtain⟨s0,rfl⟩:=hi;obtain⟨n,x,o,ds,rfl,_⟩:=h.get mf;exact hk _ ⟨_,rfl⟩
 obtain⟨s0,rfl⟩:=hi;rw[show (ps.map λf=>T.tup [.int (Ys f),f])=(ps.map fdP).map λp=>.tup [.int p.1,p.2] by rw[List.map_map];rfl];refine p9 ?_;refine Xz (λrest p=>∃s6 s7 s8 s9 s10 s11 s12,p=[Mq9 root XM,Mq9 root' kvs',.f (Zc pp es),.f (V1 ps us),.f (V1 Yw U3),.o (.dct (wz (ps.map fdP) [])),s6,s7,s8,s9,s10,s11,s12]/\(∀x∈rest,x∈Yw)/\∀g∈Yw,g∈rest\/((dN g=true->∃f∈ps,Ys f=Ys g)/\∀f∈ps,Ys f=Ys g->ot (hB pp es) XM kvs' f g)) ⟨_,_,_,_,_,_,_,rfl,λx m=>m,λf m=>.inl m⟩ (λg rest p D' hi nx O5=>?_) λp hi=>?_
 .obtain⟨s6,s7,s8,s9,s10,s11,s12,rfl,hr,hd⟩:=hi;have mg:=hr g V4;have K3:∀x∈rest,x∈Yw:=λx m=>hr x (Uz _ m);obtain⟨n',x',o',Ln,rfl,fo',B1⟩:=h'.get mg
  have go:((Ln.isEmpty=true->∃f∈ps,Ys f=n')/\∀f∈ps,Ys f=n'->ot (hB pp es) XM kvs' f (.tup [.int n',.str x',.str o',.tup Ln]))->∀g∈Yw,g∈rest\/((dN g=true->∃f∈ps,Ys f=Ys g)/\∀f∈ps,Ys f=Ys g->ot (hB pp es) XM kvs' f g):=λhg g1 m1=>by
   rcases hd g1 m1 with q | q
   .rcases Y8.mp q with rfl | q
    .exact .inr hg
    .exact .inl q
   .exact .inr q
  refine Zk (b:=!(Zb (wz (ps.map fdP) []) (.inl n')).isSome) (λz=>?_) λz=>?_
  .rw[Ro h.p.d]at z
   have q:Yf ps n'=none:=by
    cases q:Yf ps n' with
    | none=>rfl
    | some f=>rw[q]at z;cases z
   refine Zk (b:=Ln.isEmpty) (λz2=>?_) λz2=>?_
   .refine O5 _ _ (rt _ _ ⟨false,⟨(λq=>nomatch q),λq2=>?_⟩,rfl⟩);obtain⟨f,mf,ef⟩:=q2.1 _ mg z2;exact absurd ef (find_none.mp q f mf)
   .exact nx _ ⟨_,_,_,_,_,_,_,rfl,K3,go ⟨(λz3=>by rw[z2]at z3;cases z3),λf mf ef=>absurd ef (find_none.mp q f mf)⟩⟩
  .rw[Ro h.p.d]at z;obtain⟨f,q⟩:=Option.isSome_iff_exists.mp (Dq z);obtain⟨mf,ef⟩:=(find_some h.p.d).mp q;obtain⟨n,x,o,ds,rfl,fo,ho⟩:=h.get mf;refine ixIP (by rw[Ro h.p.d];exact q) ?_;refine cE9 hH ?_
   have only:∀f∈ps,Ys f=n'->f=.tup [.int n,.str x,.str o,.tup ds]:=λf1 m1 e1=>by
    have:=(find_some h.p.d).mpr ⟨m1,e1⟩;rw[q]at this;cases this;rfl
   refine Zk (b:=!hB pp es o o') (λz=>?_) λz=>?_
   .refine O5 _ _ (rt _ _ ⟨false,⟨(λq=>nomatch q),λq2=>?_⟩,rfl⟩);have:=(q2.2 _ mf _ mg ef _ _ _ _ _ _ _ _ rfl rfl).1;rw[this]at z;cases z
   obtain⟨s,es,hs⟩:=m.g o ho;obtain⟨s',ph,Jt⟩:=m'.g o' B1;rcases fo.d with rfl | ⟨d,s1,rfl,e1,_,df⟩
   .refine M5 es ?_;refine M5 ph ?_;exact nx _ ⟨_,_,_,_,_,_,_,rfl,K3,go ⟨λ_=>⟨_,mf,ef⟩,λf1 m1 g1=>by rw[only f1 m1 g1];exact .mk (Dq z) λd z=>nomatch z⟩⟩
   .rw[es]at e1;cases e1;rcases fo'.d with rfl | ⟨d',s1',rfl,e1',_,df'⟩
    .refine O5 _ _ (rt _ _ ⟨false,⟨(λq=>nomatch q),λq2=>?_⟩,rfl⟩);obtain⟨_,_,_,z9,_⟩:=(q2.2 _ mf _ mg ef _ _ _ _ _ _ _ _ rfl rfl).2 d rfl;cases z9
    .rw[ph]at e1';cases e1';refine M5 es ?_;refine M5 ph ?_;refine Zx (hA df.f df'.f) λy hy=>?_;obtain⟨b,hb,rfl⟩:=hy;refine Zk (b:=!b) (λz3=>?_) λz3=>?_
     .refine O5 _ _ (rt _ _ ⟨false,⟨(λq=>nomatch q),λq2=>?_⟩,rfl⟩);obtain⟨d1,t1,t2,z9,g1,g2,al⟩:=(q2.2 _ mf _ mg ef _ _ _ _ _ _ _ _ rfl rfl).2 d rfl;cases z9;rw[es]at g1;rw[ph]at g2;cases g1;cases g2;rw[hb.mpr al]at z3;cases z3
     .exact nx _ ⟨_,_,_,_,_,_,_,rfl,K3,go ⟨λz3=>(nomatch z3),λf1 m1 g1=>by rw[only f1 m1 g1];exact .mk (Dq z) λd1 q1=>by cases q1;exact⟨d',s,s',rfl,es,ph,hb.mp (Dq z3)⟩⟩⟩
 .obtain⟨s6,s7,s8,s9,s10,s11,s12,rfl,_,hd⟩:=hi
  have all:∀g∈Yw,(dN g=true->∃f∈ps,Ys f=Ys g)/\∀f∈ps,Ys f=Ys g->ot (hB pp es) XM kvs' f g:=λg mg=>by
   rcases hd g mg with q | q
   .cases q
   .exact q
  exact rt _ _ ⟨true,⟨λ_=>⟨λg mg=>(all g mg).1,λf mf g mg e=>(all g mg).2 f mf e⟩,λ_=>rfl⟩,rfl⟩
theorem Oq{ns:ZD}{ps:ZZ}(h:Y3 ns false ps)(n:Int):Zb (wz (ps.map Tj) []) (.inl n)=(Yf ps n).map λg=>.str (ofN g):=by
 have ek:(ps.map Tj).map (·.1)=ps.map Ys:=x8 h.p;cases q:Yf ps n with
 | none =>
  rw[C4 (by rw[ek];exactλz=>by obtain⟨f,m,e⟩:=Og.mp z;exact find_none.mp q f m e)]
  rfl
 | some f =>
  obtain⟨m,e⟩:=(find_some h.d).mp q;obtain⟨n',x,o,rfl,_⟩:=(h.p f m).cho;refine Ac (by rw[ek];exact h.d) (Og.mpr ⟨_,m,?_⟩);show (n',T.str o)=(n,T.str o);rw[show n'=n from e]
def thnS:S->S
 | .seq (.ite _ a _) _=>a
 | s=>s
def lpB:S->S
 | .seq (.loop _ _ b) _=>b
 | s=>s
theorem hB_em{pp:List (Str×Str)}{es:ZD}{o o':Str}(h:xh es o=true):hB pp es o o'=true:=by
 unfold hB;rw[show (es.any λy=>decide (y=o))=true from h,Bool.or_true]
def PLPR(C:Cs):Prop:=∀{ns U5:ZD} {root root' a r:Str} {XM kvs':ZX} {t t':T} {pp:List (Str×Str)} {es:ZD},Mk ns XM->Mk U5 kvs'->Zb XM (.inr a)=some t->Zb kvs' (.inr r)=some t'->Shp ns t->Shp U5 t'->on (C "_law_pair_right" [Mq9 root XM,Mq9 root' kvs',.f (Zc pp es),.f (.str a),.f (.str r)]) (rl pp es XM kvs' t t')
theorem rg{ns:ZD}{t:T}{x:Kx}(k:v9 ns t x){C:Cs}(hB:Zja C)(h:Shp ns t):∃ts,Kh C "_law_bounds" [.f t] (.f (.tup ts),[])/\((ts=[]/\x≠.num)\/∃a b,ts=[.int a,.int b]/\Bn t a b/\x=.num):=by
 obtain⟨k',x',r,rfl,w1,_⟩:=Gq h;have w2:=Dw k rfl;by_cases z:x=.num
 .subst z;cases k with | num b=>exact⟨_,hB.y b,.inr ⟨_,_,rfl,b,rfl⟩⟩
 .exact⟨_,hB.n w2 (λe=>z (Al (x:=x) (y:=.num) e)),.inl ⟨rfl,z⟩⟩
set_option maxHeartbeats 4000000 in
theorem Q0{w:W}(hR:PLFR w.C)(hH:Dp "_law_holds" w.C){ns U5:ZD}{root root' a r:Str}{XM kvs':ZX}{t t':T}{pp:List (Str×Str)}{es:ZD}(m:Mk ns XM)(m':Mk U5 kvs')(e:Zb XM (.inr a)=some t)(e':Zb kvs' (.inr r)=some t')(h:Shp ns t)(h':Shp U5 t'){x x':Kx}(k1:v9 ns t x)(k2:v9 U5 t' x'){D:En}(rt:∀r1 p,on (fin [Mq9 root XM,Mq9 root' kvs',.f (Zc pp es),.f (.str a),.f (.str r)] r1 p) (rl pp es XM kvs' t t')->D.rt r1 p)(ts Oc:ZZ)(nn:x=.num->x'=.num->False):wS w (Vw [Mq9 root XM,Mq9 root' kvs',.f (Zc pp es),.f (.str a),.f (.str r)]) (Yd 4 Z2) [Mq9 root XM,Mq9 root' kvs',.f (Zc pp es),.f (.str a),.f (.str r),.f t,.f t',.o (.lst [.tup ts,.tup Oc]),.no,.no,.no,.no,.no] D:=by
 have no:x≠x'->∀q:P,D.rt (.f (.bl false)) (.f (.tup [.str root,.dct XM])::.f (.tup [.str root',.dct kvs'])::.f (Zc pp es)::.f (.str a)::.f (.str r)::q):=λne q=>rt _ _ ⟨false,⟨(λq=>nomatch q),λq=>absurd q (Zwx h h' k1 k2 ne)⟩,rfl⟩
 have row:∀{s o o':Str} {n q:Int},t=.tup [.str s,.str o,.int n]->t'=.tup [.str s,.str o',.int q]->(PR pp es XM kvs' t t'↔Ip pp es o o' n q) ->
   wS w (Vw [Mq9 root XM,Mq9 root' kvs',.f (Zc pp es),.f (.str a),.f (.str r)]) (thnS (Yd 6 Z2)) [Mq9 root XM,Mq9 root' kvs',.f (Zc pp es),.f (.str a),.f (.str r),.f t,.f t',.o (.lst [.tup ts,.tup Oc]),.no,.no,.no,.no,.no] ⟨λq=>wS w (Vw [Mq9 root XM,Mq9 root' kvs',.f (Zc pp es),.f (.str a),.f (.str r)]) (Yd 7 Z2) q D,D.rt,D.bk,D.ct⟩:=λ{s o o' n q} et et' hr=>by
  subst et et'
  have fin:∀b:Bool,(b=true↔n<=q/\hB pp es o o'=true)->wS w (Vw [Mq9 root XM,Mq9 root' kvs',.f (Zc pp es),.f (.str a),.f (.str r)]) (Yd 1 (thnS (Yd 6 Z2))) [Mq9 root XM,Mq9 root' kvs',.f (Zc pp es),.f (.str a),.f (.str r),.f (.tup [.str s,.str o,.int n]),.f (.tup [.str s,.str o',.int q]),.o (.lst [.tup ts,.tup Oc]),.f (.bl b),.no,.no,.no,.no] ⟨λq=>wS w (Vw [Mq9 root XM,Mq9 root' kvs',.f (Zc pp es),.f (.str a),.f (.str r)]) (Yd 7 Z2) q D,D.rt,D.bk,D.ct⟩:=λb hb=>by
   refine z7 ?_;refine Zk (b:=es.any λy=>decide (y=o)) (λz=>rt _ _ ⟨true,⟨λ_=>hr.mpr (.inl z),λ_=>rfl⟩,rfl⟩) λz=>?_;refine Zk (b:=decide (n=0)) (λz=>rt _ _ ⟨true,⟨λ_=>hr.mpr (.inr (.inl (D9 z))),λ_=>rfl⟩,rfl⟩) λz2=>?_;refine rt _ _ ⟨b,⟨λz3=>hr.mpr (.inr (.inr (hb.mp z3))),λz3=>hb.mpr ?_⟩,rfl⟩;rcases hr.mp z3 with g | g | g
   .rw[show xh es o=false from z]at g;cases g
   .exact absurd g (of_decide_eq_false z2)
   .exact g
  refine Zk (b:=!decide (q<n)) (λz3=>?_) λz3=>?_
  .refine cE9 hH ?_;exact fin _ ⟨λg=>⟨not_lt.mp z3,g⟩,λg=>g.2⟩
  .refine fin false ⟨(λq=>nomatch q),λg=>?_⟩;have:=not_lt.mpr g.1;rw[this]at z3;cases z3
 cases k1 with
 | num b1 =>
  cases b1 with
  | whole=>cases k2 with
   | num b2=>exact(nn rfl rfl).elim
   | _=>exact no (λz=>nomatch z) _
  | truth=>cases k2 with
   | num b2=>exact(nn rfl rfl).elim
   | _=>exact no (λz=>nomatch z) _
 | text=>cases k2 with
  | num b2=>cases b2<;>exact no (λz=>nomatch z) _
  | text=>exact rt _ _ ⟨_,not_lt.trans X9.symm,rfl⟩
  | _=>exact no (λz=>nomatch z) _
 | row ho=>cases k2 with
  | num b2=>cases b2<;>exact no (λz=>nomatch z) _
  | row B1=>exact row rfl rfl tj
  | _=>exact no (λz=>nomatch z) _
 | map ho=>cases k2 with
  | num b2=>cases b2<;>exact no (λz=>nomatch z) _
  | map B1=>exact row rfl rfl tf
  | _=>exact no (λz=>nomatch z) _
 | rcd hp=>cases k2 with
  | num b2=>cases b2<;>exact no (λz=>nomatch z) _
  | rcd K4 =>
   refine Zx (hR m m' (m.f e hp) (m'.f e' K4)) λy hy=>?_;obtain⟨b,hb,rfl⟩:=hy;exact rt _ _ ⟨b,hb.trans tw.symm,rfl⟩
  | _=>exact no (λz=>nomatch z) _
 | @cho ps us b hp=>cases k2 with
  | num b2=>cases b2<;>exact no (λz=>nomatch z) _
  | @cho Yw U3 b' K4 =>
   refine v5 K4 λs0=>?_;refine p9 ?_;refine Xz (λrest p=>∃s8 s10 s11 s12,p=[Mq9 root XM,Mq9 root' kvs',.f (Zc pp es),.f (.str a),.f (.str r),.f (Va ps us b),.f (Va Yw U3 b'),.o (.lst [.tup ts,.tup Oc]),s8,.o (.dct (wz (Yw.map Tj) [])),s10,s11,s12]/\(∀x∈rest,x∈ps)/\∀f∈ps,f∈rest\/Lu pp es Yw b' f=true) ⟨_,_,_,_,rfl,λx m=>m,λf m=>.inl m⟩ (λf rest p D' hi nx O5=>?_) λp hi=>?_
   .obtain⟨s8,s10,s11,s12,rfl,hr,hd⟩:=hi;have mf:=hr f V4;have K3:∀x∈rest,x∈ps:=λx m=>hr x (Uz _ m);obtain⟨n,x1,o,rfl,_⟩:=(hp.p f mf).cho;have ea:Lu pp es Yw b' (.tup [.int n,.str x1,.str o])=match Yf Yw n with | none=>xh es o || b' | some g=>hB pp es o (ofN g):=rfl
    have fin:∀good:Bool,(xh es o || good)=Lu pp es Yw b' (.tup [.int n,.str x1,.str o])->wS w (Vw [Mq9 root XM,Mq9 root' kvs',.f (Zc pp es),.f (.str a),.f (.str r)]) (Yd 1 (lpB (Yd 9 Z2))) [Mq9 root XM,Mq9 root' kvs',.f (Zc pp es),.f (.str a),.f (.str r),.f (Va ps us b),.f (Va Yw U3 b'),.o (.lst [.tup ts,.tup Oc]),.f (.bl good),.o (.dct (wz (Yw.map Tj) [])),.f (.int n),.f (.str x1),.f (.str o)] D':=λgood hg=>by
     have yes:Lu pp es Yw b' (.tup [.int n,.str x1,.str o])=true->D'.nx [Mq9 root XM,Mq9 root' kvs',.f (Zc pp es),.f (.str a),.f (.str r),.f (Va ps us b),.f (Va Yw U3 b'),.o (.lst [.tup ts,.tup Oc]),.f (.bl good),.o (.dct (wz (Yw.map Tj) [])),.f (.int n),.f (.str x1),.f (.str o)]:=λy=>nx _ ⟨_,_,_,_,rfl,K3,λf1 m1=>by
      rcases hd f1 m1 with q | q
      .rcases Y8.mp q with rfl | q
       .exact .inr y
       .exact .inl q
      .exact .inr q⟩
     refine ninstP ?_;refine Zk (b:=!es.any λy=>decide (y=o)) (λz=>?_) λz=>?_
     .refine Zk (b:=!good) (λz2=>?_) λz2=>?_
      .refine O5 _ _ (rt _ _ ⟨false,⟨(λq=>nomatch q),λq=>?_⟩,rfl⟩);have:=Aw.mp q _ mf;rw[<-hg,show xh es o=false from Zwk z,Zwk z2]at this;cases this
      .refine yes ?_;rw[<-hg,Dq z2,Bool.or_true]
     .refine yes ?_;rw[<-hg,show xh es o=true from Dq z];rfl
    refine Zk (b:=(Zb (wz (Yw.map Tj) []) (.inl n)).isSome) (λz=>?_) λz=>?_
    .rw[Oq K4]at z;cases q:Yf Yw n with
     | none=>rw[q]at z;cases z
     | some g =>
      refine ixIP (x:=.str (ofN g)) (by rw[Oq K4,q];rfl) ?_;refine cE9 hH ?_;refine fin _ ?_;rw[ea,q];show (xh es o || hB pp es o (ofN g))=hB pp es o (ofN g);cases q3:xh es o with
      | false=>rfl
      | true=>rw[hB_em q3];rfl
    .rw[Oq K4]at z;refine fin b' ?_;cases q:Yf Yw n with
     | none=>rw[ea,q]
     | some g=>rw[q]at z;cases z
   .obtain⟨s8,s10,s11,s12,rfl,_,hd⟩:=hi;refine rt _ _ ⟨true,⟨λ_=>Aw.mpr λf mf=>?_,λ_=>rfl⟩,rfl⟩;rcases hd f mf with q | q
    .cases q
    .exact q
  | _=>exact no (λz=>nomatch z) _
set_option maxHeartbeats 4000000 in
theorem lpr_ok{w:W}(hBd:Zja w.C)(hR:PLFR w.C)(hH:Dp "_law_holds" w.C){ns U5:ZD}{root root' a r:Str}{XM kvs':ZX}{t t':T}{pp:List (Str×Str)}{es:ZD}(m:Mk ns XM)(m':Mk U5 kvs')(e:Zb XM (.inr a)=some t)(e':Zb kvs' (.inr r)=some t')(h:Shp ns t)(h':Shp U5 t'):wF Vx w [Mq9 root XM,Mq9 root' kvs',.f (Zc pp es),.f (.str a),.f (.str r)] (rl pp es XM kvs' t t'):=by
 refine Yz rfl λD rt _=>?_;refine M5 e ?_;refine M5 e' ?_;obtain⟨k,x,r1,e1,w1,k1⟩:=Gq h;obtain⟨k',x',r2,e2,w2,k2⟩:=Gq h';obtain⟨ts,c1,b1⟩:=rg k1 hBd h;obtain⟨Oc,c2,b2⟩:=rg k2 hBd h';show wS w _ _ [Mq9 root XM,Mq9 root' kvs',.f (Zc pp es),.f (.str a),.f (.str r),.f t,.f t',.no,.no,.no,.no,.no,.no] _;refine cE9 c1 ?_;refine cE9 c2 ?_;rcases b1 with ⟨rfl,n1⟩ | ⟨a1,a2,rfl,b1,rfl⟩
 .rcases b2 with ⟨rfl,n2⟩ | ⟨c1,c2,rfl,b2,rfl⟩
  .exact Q0 hR hH m m' e e' h h' k1 k2 rt _ _ λz _=>n1 z
  .exact Q0 hR hH m m' e e' h h' k1 k2 rt _ _ λz _=>n1 z
 .rcases b2 with ⟨rfl,n2⟩ | ⟨c1,c2,rfl,b2,rfl⟩
  .exact Q0 hR hH m m' e e' h h' k1 k2 rt _ _ λ_ z=>n2 z
  .refine Zk (b:=!decide (a1<c1)) (λz=>?_) λz=>?_
   .exact rt _ _ ⟨_,⟨λq=>(Bh b1 b2 not_lt not_lt).mp (by rw[z];exact q),λq=>by have:=(Bh (pp:=pp) (es:=es) (XM:=XM) (kvs':=kvs') b1 b2 not_lt not_lt).mpr q;rw[z]at this;exact this⟩,rfl⟩
   .exact rt _ _ ⟨false,⟨(λq=>nomatch q),λq=>by have:=(Bh (pp:=pp) (es:=es) (XM:=XM) (kvs':=kvs') b1 b2 not_lt not_lt).mpr q;rw[z]at this;cases this⟩,rfl⟩
theorem Oy.toMk{root:Str}{XM:ZX}{ss:ZD}(h:Oy root XM ss):Mk ss XM:=by
 refine⟨λo mo=>h.f.get mo,λ{ps us x} e hp=>⟨hp,λf mf=>?_⟩⟩;obtain⟨n,y,o,ds,rfl,_,_,ho,hd⟩:=(hp.p f mf).asR;refine⟨n,y,o,ds,rfl,⟨?_⟩⟩;cases hd with
 | no=>exact .inl rfl
 | is dx =>
  obtain⟨s,es,fx⟩:=h.fit x _ e ps us rfl _ mf n y o _ rfl;exact .inr ⟨_,s,rfl,es,h.f.at es,⟨fx,dx⟩⟩
def zi(t:T):Prop:=∃pp es,t=Zc pp es
noncomputable def mkT(root:Str)(XM:ZX):T:=.tup [.str root,.dct XM]
def PPap(C:Cs):Prop:=∀{root root':Str} {XM kvs':ZX} {ss Lq:ZD},Oy root XM ss->Oy root' kvs' Lq->Tp C "_law_paper" [.f (mkT root XM),.f (mkT root' kvs')] (yj zi)
set_option maxHeartbeats 2000000 in
theorem cu{w:W}(hD:Uj w.C){root root':Str}{XM kvs':ZX}{ss Lq:ZD}(h:Oy root XM ss)(h':Oy root' kvs' Lq):Td Jx w [.f (mkT root XM),.f (mkT root' kvs')] (yj zi):=by
 intro z0 i0 j0 k0 tp;have sl:=sizeLine_eq;have l8:=h.l8;have l8':=h'.l8;have s1:=h.f.srt (show ss.length<64 by omega);have s2:=h'.f.srt (show Lq.length<64 by omega);have n1:(SRT.Us ss).length=ss.length:=(SRT.Yn ss).length_eq;have n2:(SRT.Us Lq).length=Lq.length:=(SRT.Yn Lq).length_eq;refine Yz rfl λD rt _=>?_;refine Zn hD tp XS XS λq zs i l k q0 q1 tp=>?_;show wS w _ _ [.o (Zm zs i l k),.f (mkT root XM),.f (mkT root' kvs'),.f (.int (1+q)),.no,.no] _;refine Nb s1 ?_;refine Jn (λrest p=>∃(zs:ZL) (i l k:Int) (pp:List (Str×Str)) (s5:Sl) (rs:ZD),p=[.o (Zm zs i l k),.f (mkT root XM),.f (mkT root' kvs'),.f (.int (1+q)),.o (.lst (pp.map Nc)),s5]/\rest=rs.map T.str/\TP (Zm zs i l k)/\pp.length+8*rs.length<=64) ⟨zs,i,l,k,[],_,SRT.Us ss,rfl,rfl,tp,by show 0+_<=_;omega⟩ (λx rest p D' hi nx _=>?_) λp hi=>?_
 .obtain⟨zs,i,l,k,pp,s5,rs,rfl,hr,tp,hl⟩:=hi;cases rs with
  | nil=>cases hr
  | cons a rs =>
   cases hr;rw[Rz]at hl;refine Nb s2 ?_;refine Jb (λrest acc p=>∃(zs:ZL) (i l k:Int) (qs:List (Str×Str)) (s0:Sl) (us:ZD),p=[s0,.f (.str a),.o (Zm zs i l k),.f (.int (1+q))]/\rest=us.map T.str/\acc=qs.map Nc/\TP (Zm zs i l k)/\qs.length+us.length<=8) ⟨zs,i,l,k,[],_,SRT.Us Lq,rfl,rfl,rfl,tp,by show 0+_<=_;omega⟩ (λx r acc p K hi ky kn=>?_) λacc p hi=>?_
   .obtain⟨zs,i,l,k,qs,s0,us,rfl,hr,rfl,tp,hq⟩:=hi;cases us with
    | nil=>cases hr
    | cons b us =>
     cases hr;rw[Rz]at hq;refine Zn hD tp XS XS λc zs i l k c0 c1 tp=>?_;refine Zk (b:=decide (c=0)) (λ_=>?_) λ_=>?_
     .exact ky _ _ ⟨zs,i,l,k,qs++[(a,b)],_,us,rfl,rfl,by rw[Ku];rfl,tp,by rw[W7];show _+1+_<=_;omega⟩
     .exact kn _ ⟨zs,i,l,k,qs,_,us,rfl,rfl,rfl,tp,by omega⟩
   obtain⟨zs,i,l,k,qs,s0,us,rfl,hr,rfl,tp,hq⟩:=hi;refine Sd (by rw[Vq,Vq];omega) ?_;exact nx _ ⟨zs,i,l,k,pp++qs,_,rs,by rw[Ku];rfl,rfl,tp,by rw[W7];omega⟩
 obtain⟨zs,i,l,k,pp,s5,rs,rfl,hr,tp,hl⟩:=hi
 have fin:∀(zs:ZL) (i l k:Int) (pp:List (Str×Str)),TP (Zm zs i l k)->wS w (Vw [.o (Zm z0 i0 j0 k0),.f (mkT root XM),.f (mkT root' kvs')]) (Yd 4 T7) [.o (Zm zs i l k),.f (mkT root XM),.f (mkT root' kvs'),.f (.int (1+q)),.o (.lst (pp.map Nc)),s5] D:=λzs i l k pp tp=>by
  have ec:G6 (pp.map Nc) none (some ((64:Nat):Int))=(pp.take 64).map Nc:=by rw[Wj,List.map_take]
  refine Nb s1 ?_;refine Jb (λrest acc p=>∃(zs:ZL) (i l k:Int) (es:ZD) (s0:Sl) (us:ZD),p=[s0,.o (Zm zs i l k)]/\rest=us.map T.str/\acc=es.map T.str/\TP (Zm zs i l k)) ⟨zs,i,l,k,[],_,SRT.Us ss,rfl,rfl,rfl,tp⟩ (λx r acc p K hi ky kn=>?_) λacc p hi=>?_
  .obtain⟨zs,i,l,k,es,s0,us,rfl,hr,rfl,tp⟩:=hi;cases us with
   | nil=>cases hr
   | cons b us =>
    cases hr;refine Zn hD tp XS XS λc zs i l k c0 c1 tp=>?_;refine Zk (b:=decide (c=0)) (λ_=>?_) λ_=>?_
    .exact ky _ _ ⟨zs,i,l,k,es++[b],_,us,rfl,rfl,by rw[Ku];rfl,tp⟩
    .exact kn _ ⟨zs,i,l,k,es,_,us,rfl,rfl,rfl,tp⟩
  obtain⟨zs,i,l,k,es,s0,us,rfl,hr,rfl,tp⟩:=hi;exact rt _ _ ⟨_,_,⟨_,rfl,pp.take 64,es,by show T.tup [.tup (G6 (pp.map Nc) none (some ((64:Nat):Int))),.tup (es.map .str)]=_;rw[ec];rfl⟩,tp,rfl⟩
 refine Zn hD tp XS XS λc zs i l k c0 c1 tp=>?_;refine Zk (b:=decide (c=0)) (λ_=>?_) λ_=>fin zs i l k pp tp;refine Nb s1 ?_;refine Jb (λrest acc p=>∃(qs:List (Str×Str)) (s0:Sl) (us:ZD),p=[s0,.o (.lst (pp.map Nc)),.f (mkT root' kvs')]/\rest=us.map T.str/\acc=qs.map Nc/\qs.length+us.length<=8) ⟨[],_,SRT.Us ss,rfl,rfl,rfl,by show 0+_<=_;omega⟩ (λx r acc p K hi ky kn=>?_) λacc p hi=>?_
 .obtain⟨qs,s0,us,rfl,hr,rfl,hq⟩:=hi;cases us with
  | nil=>cases hr
  | cons b us =>
   cases hr;rw[Rz]at hq;have no:∀s0,K none [s0,.o (.lst (pp.map Nc)),.f (mkT root' kvs')]:=λs0=>kn _ ⟨qs,_,us,rfl,rfl,rfl,by omega⟩;refine Zk (b:=(Zb kvs' (.inr b)).isSome) (λ_=>?_) λ_=>no _;refine ninpP (q:=(b,b)) ?_;refine Zk (b:=!pp.any λp=>decide (p=(b,b))) (λ_=>?_) λ_=>no _;exact ky _ _ ⟨qs++[(b,b)],_,us,rfl,rfl,by rw[Ku];rfl,by rw[W7];show _+1+_<=_;omega⟩
 obtain⟨qs,s0,us,rfl,hr,rfl,hq⟩:=hi;refine Zwo (by rw[Vq,Vq];omega) ?_;have:=fin zs i l k (qs++pp) tp;rw[Ku]at this;exact this
def PRt(C:Cs):Prop:=∀{root root':Str} {XM kvs':ZX} {ss Lq:ZD},Oy root XM ss->Oy root' kvs' Lq->Tp C "_law_right" [.f (mkT root XM),.f (mkT root' kvs')] λr=>r=.f (.bl true)
set_option maxHeartbeats 2000000 in
theorem mw{w:W}(hP:PPap w.C)(hI:PIRP w.C)(hL:PLPR w.C){root root':Str}{XM kvs':ZX}{ss Lq:ZD}(h:Oy root XM ss)(h':Oy root' kvs' Lq):Td U7 w [.f (mkT root XM),.f (mkT root' kvs')] λr=>r=.f (.bl true):=by
 intro z0 i0 j0 k0 tp;have l8:=h.l8;have l8':=h'.l8;have s1:=h.f.srt (show ss.length<64 by omega);have s2:=h'.f.srt (show Lq.length<64 by omega);refine Yz rfl λD rt _=>?_;refine Jn (λrest p=>∃zs i l k s3 s4 s5 s6 s7,p=[.o (Zm zs i l k),.f (mkT root XM),.f (mkT root' kvs'),s3,s4,s5,s6,s7]/\TP (Zm zs i l k)) ⟨z0,i0,j0,k0,_,_,_,_,_,rfl,tp⟩ (λx r p D' hi nx _=>?_) λp hi=>?_
 .obtain⟨zs,i,l,k,s3,s4,s5,s6,s7,rfl,tp⟩:=hi;refine W1 (hP h h') tp λr1 zs i l k hr tp=>?_;obtain⟨t,rfl,pp,es,rfl⟩:=hr;show wS w _ _ [.o (Zm zs i l k),.f (mkT root XM),.f (mkT root' kvs'),.f x,.f (Zc pp es),s5,s6,s7] _;refine Nb s1 ?_;refine Jn (λrest p=>∃rs s5 s6 s7,p=[.o (Zm zs i l k),.f (mkT root XM),.f (mkT root' kvs'),.f x,.f (Zc pp es),s5,s6,s7]/\rest=rs.map T.str/\∀y∈rs,y∈ss) ⟨SRT.Us ss,_,_,_,rfl,rfl,λy m=>(SRT.Yn ss).mem_iff.mp m⟩ (λx1 r1 p D1 hi nx1 _=>?_) λp hi=>?_
  .obtain⟨rs,s5,s6,s7,rfl,hr,hm⟩:=hi;cases rs with
   | nil=>cases hr
   | cons a rs =>
    cases hr;obtain⟨t,e,ht⟩:=h.f.get (hm a V4);refine Nb s2 ?_;refine Jn (λrest p=>∃us s6 s7,p=[.o (Zm zs i l k),.f (mkT root XM),.f (mkT root' kvs'),.f x,.f (Zc pp es),.f (.str a),s6,s7]/\rest=us.map T.str/\∀y∈us,y∈Lq) ⟨SRT.Us Lq,_,_,rfl,rfl,λy m=>(SRT.Yn Lq).mem_iff.mp m⟩ (λx2 r2 p D2 hi nx2 _=>?_) λp hi=>?_
    .obtain⟨us,s6,s7,rfl,hr,Ly⟩:=hi;cases us with
     | nil=>cases hr
     | cons b us =>
      cases hr;obtain⟨t',e',ht'⟩:=h'.f.get (Ly b V4);refine Zx (hI (pp:=pp) (es:=es) h.toMk h'.toMk e e' ht ht') λy hy=>?_;obtain⟨c,hc,rfl⟩:=hy;show wS w _ _ [.o (Zm zs i l k),.f (mkT root XM),.f (mkT root' kvs'),.f x,.f (Zc pp es),.f (.str a),.f (.str b),.f (.bl c)] _;refine Zx (hL (pp:=pp) (es:=es) h.toMk h'.toMk e e' ht ht') λy hy=>?_;obtain⟨d,hd,rfl⟩:=hy
      have:c=d:=by
       cases c<;>cases d<;>first | rfl | exact absurd (hd.mpr (hc.mp rfl)) Nj | exact absurd (hc.mpr (hd.mp rfl)) Nj
      subst this;refine Zk (b:=!(c==c)) (λz=>by rw[B0s]at z;cases z) λ_=>?_;exact nx2 _ ⟨us,_,_,rfl,rfl,λy m=>Ly y (Uz _ m)⟩
    .obtain⟨us,s6,s7,rfl,_⟩:=hi;exact nx1 _ ⟨rs,_,_,_,rfl,rfl,λy m=>hm y (Uz _ m)⟩
  .obtain⟨rs,s5,s6,s7,rfl,_⟩:=hi;exact nx _ ⟨_,_,_,_,_,_,_,_,_,rfl,tp⟩
 .obtain⟨zs,i,l,k,s3,s4,s5,s6,s7,rfl,tp⟩:=hi;exact rt _ _ ⟨_,_,rfl,tp,rfl⟩
theorem law_ok{w:W}(hT:Zw0 w.C)(hD:Uj w.C)(hM:Tp w.C "_law_make" [] R4)(hU:qz w.C)(hR:PRt w.C)(zs:ZL):wF Wq w [.f (.lst (zs.map .int))] λx=>x=(.f (.bl true),[]):=by
 refine Yz rfl λD rt _=>?_;refine Zx (hT zs) λx hx=>?_;obtain⟨t,tp,rfl⟩:=hx;obtain⟨z0,i0,j0,k0,rfl,g⟩:=id tp;refine W1 hM tp λr z0 i0 j0 k0 hr tp=>?_;obtain⟨root,XM,ss,rfl,hm⟩:=hr;refine W1 (hU hm) tp λr z0 i0 j0 k0 hr tp=>?_;obtain⟨root',kvs',Lq,rfl,Ly⟩:=hr
 have fin:∀{root':Str} {kvs':ZX} {Lq:ZD} (z0:ZL) (i0 j0 k0:Int),Oy root' kvs' Lq->TP (Zm z0 i0 j0 k0)->wS w (Vw [.f (.lst (zs.map .int))]) (Yd 4 Zws) [.f (.lst (zs.map .int)),.o (Zm z0 i0 j0 k0),.f (mkT root XM),.f (mkT root' kvs')] D:=λ{root' kvs' Lq} z0 i0 j0 k0 Ly tp=>by
  refine W1 (hR hm Ly) tp λr z0 i0 j0 k0 hr tp=>?_;subst hr;refine W1 (hR Ly hm) tp λr z0 i0 j0 k0 hr tp=>?_;subst hr;exact rt _ _ rfl
 refine Zn hD tp XS XS λc z0 i0 j0 k0 c0 c1 tp=>?_;refine Zk (b:=decide (c=0)) (λ_=>?_) λ_=>fin _ _ _ _ Ly tp;refine W1 hM tp λr z0 i0 j0 k0 hr tp=>?_;obtain⟨root',kvs',Lq,rfl,Ly⟩:=hr;exact fin _ _ _ _ Ly tp
noncomputable def tabA:List (Str×Df):=[("may_be_left_out",Y4),("form_of",D7),("member_of",U6),("is_whole",Gh),("is_text",D6),("is_single_value",Y5),("bounds_of",Jk),("rises",C6),("are_pairs",Jg),("are_labels",Um),("is_value",Gp),("is_right_through",Yo),("parts_in",Gm),("parts_in_row",Vr),("parts_in_map",Vs),("tells_alike",Vi),("parts_of_both",Vf),("parts_of_rows",Yy),("parts_of_maps",Vg),("holds",C7),("is_right_pair",Vb),("are_right_fields",Yi),("may_lack",Gd),("are_left_out_alike",Yb),("is_right_arm",Vh)]
noncomputable def tabB:List (Str×Df):=[("_law_tape",Gn),("_law_draw",Gs),("_law_price",U8),("_law_prices",Ub),("_law_light",Jj),("_law_word",Gc),("_law_names",Jq),("_law_plain",U9),("_law_default",V0),("_law_numbers",Ve),("_law_parts",Jz),("_law_struck",Ug),("_law_make",Gr),("_law_number_turned",Yc),("_law_shape_turned",Yu),("_law_fixed",Jv),("_law_turned",Uk),("_law_holds",Jw),("_law_alike",Jy),("_law_fields_right",Ya),("_law_pair_right",Vx),("_law_paper",Jx),("_law_right",U7),("law",Wq)]
def tabL:List (Str×Df):=tabA++tabB
noncomputable def tab(f:Str):Option Df:=(tabL.find? λp=>decide (p.1=f)).map (·.2)
noncomputable def gl(x:Str):Option T:=if x="SIGNS" then some (.str SIG) else if x="is_name" then some (.fn x) else none
noncomputable abbrev C(n:Nat):Cs:=Cn tab gl n
structure Lv(n:Nat)(D:Cs):Prop where
 e:D=C n
theorem G7{n:Nat}{D:Cs}{f:Str}{d:Df}{as:List Sl}{Q:Sl×ZZ->Prop}(lv:Lv (n+1) D)(h:∀D,Lv n D->wF d ⟨D,gl⟩ as Q)(hf:fx f=none:=by kernel_rfl)(e:tab f=some d:=by kernel_rfl):on (D f as) Q:=by
 obtain rfl:=lv.e;exact callW hf e (h _ ⟨rfl⟩)
theorem yy{n:Nat}{D:Cs}{f:Str}{d:Df}{as:List Sl}{R:Sl->Prop}(lv:Lv (n+1) D)(h:∀D,Lv n D->Td d ⟨D,gl⟩ as R)(hf:fx f=none:=by kernel_rfl)(e:tab f=some d:=by kernel_rfl):Tp D f as R:=λt tp=>by
 obtain⟨zs,i,l,k,rfl,g⟩:=id tp;exact G7 lv (λD lv=>h D lv zs i l k tp) hf e
theorem cnX{n:Nat}{D:Cs}{f:Str}{as:List Sl}{Q:Sl×ZZ->Prop}{g:List Sl->Option (Sl×ZZ)}(lv:Lv (n+1) D)(e:fx f=some g)(h:on (g as) Q):on (D f as) Q:=by
 obtain rfl:=lv.e;exact callX e h
theorem V7(n:Nat){D:Cs}(lv:Lv (n+1) D):Uj D:=λt m tp m0 m1=>by
 obtain⟨zs,i,l,k,rfl,h1,h2,h3,h4,h5⟩:=tp;exact G7 (d:=Gs) lv λD lv=>Zjq h1 h2 h3 h4 h5 m0 m1
theorem cnR{n:Nat}{D:Cs}{f:Str}{d:Df}{as:List Sl}{x:Sl×ZZ}(lv:Lv (n+1) D)(hf:fx f=none)(e:tab f=some d)(h:∀D,Cy d ⟨D,gl⟩ as=some x):D f as=some x:=by
 obtain rfl:=lv.e;show (match fx f with | some g=>g as | none=>(tab f).bind λd=>Cy d ⟨Cn tab gl n,gl⟩ as)=some x;rw[hf,e];exact h _
theorem c7(n:Nat){D:Cs}(lv:Lv (n+1) D):Ks D:=λm hm=>Z8 (cnR (d:=Gc) lv (by kernel_rfl) (by kernel_rfl) λD=>y2 hm) rfl
theorem p_is(n:Nat){D:Cs}(lv:Lv (n+1) D):PIS D:=λ{s z r} e=>cnX (f:="item_sort") (g:=Wx) lv (by kernel_rfl) (Z8 (a:=(.f (.str z),[])) (by show (Ye s).map _=_;rw[e];rfl) rfl)
theorem Zww(n:Nat){D:Cs}(lv:Lv (n+1) D):Zja D:=⟨λ{t a b} h=>cnX (f:="_law_bounds") (g:=Fm) lv (by kernel_rfl) (by cases h<;>exact Z8 rfl rfl),λ{k z r} e ne=>cnX (f:="_law_bounds") (g:=Fm) lv (by kernel_rfl) (Z8 (a:=(.f (.tup []),[])) (by
 have n1:k ≠ "truth" := λq=>by rw[q,Zr]at e;cases e;exact ne rfl
 have n2:k ≠ "whole" := λq=>by rw[q,Zl]at e;cases e;exact ne rfl
 show some (Sl.f (T.tup (if k="truth" then [.int 0,.int 1] else if k="whole" then r else [])),[])=_;rw[if_neg n1,if_neg n2]) rfl)⟩
theorem Zxr(n:Nat){D:Cs}(lv:Lv (n+2) D):Tp D "_law_names" [] Q8:=yy (d:=Jq) lv (λD lv=>λzs i l k tp=>lb (w:=⟨D,gl⟩) (V7 n lv) tp)
theorem Zxc(n:Nat){D:Cs}(lv:Lv (n+2) D){s:Str}(ns:ZD)(h:s="whole" \/ s="truth" \/ s="text"):Tp D "_law_plain" [.f (.str s)] (yj (Zjp ns)):=yy (d:=U9) lv (λD lv=>t4 (w:=⟨D,gl⟩) (V7 n lv) h ns)
theorem je(n:Nat){D:Cs}(lv:Lv (n+2) D){ns:ZD}{t:T}(h:Shp ns t\/t=.tup [.str "record"]):Tp D "_law_default" [.f t] (yj (DFit t)):=yy (d:=V0) lv (λD lv=>A5 (w:=⟨D,gl⟩) (V7 n lv) h)
theorem ji(n:Nat){D:Cs}(lv:Lv (n+2) D):Tp D "_law_numbers" [] Q7:=yy (d:=Ve) lv (λD lv=>Ab (w:=⟨D,gl⟩) (V7 n lv))
theorem c9(n:Nat){D:Cs}(lv:Lv (n+2) D){ns:ZD}{b:Bool}{ps:ZZ}(h:Y3 ns b ps):Tp D "_law_struck" [.f (.tup ps)] rn:=yy (d:=Ug) lv (λD lv=>qh (w:=⟨D,gl⟩) (V7 n lv) h)
theorem Zxn(n:Nat){D:Cs}(lv:Lv (n+3) D){ns:ZD}{XM:ZX}(s:Str)(n0:0<ns.length)(n8:ns.length<=8)(hk:∀x t,Zb XM x=some t->Shp ns t):Tp D "_law_parts" [.f (.lst (ns.map .str)),.f (.dct XM),.f (.str s)] (Ap ns XM (decide (s="record"))):=yy (d:=Jz) lv (λD lv=>cn (w:=⟨D,gl⟩) (V7 (n+1) lv) (c7 (n+1) lv) (ji n lv) (λt h=>je n lv h) n0 n8 hk s)
theorem Zxt(n:Nat){D:Cs}(lv:Lv (n+1) D):ax D:=λht hp=>G7 (d:=U8) lv (λD lv=>d0 (w:=⟨D,gl⟩) ht hp)
theorem nq(n:Nat){D:Cs}(lv:Lv (n+2) D):qj D:=λh h8=>G7 (d:=Ub) lv (λD lv=>jn (w:=⟨D,gl⟩) (Zxt n lv) h h8)
theorem zj(n:Nat){D:Cs}(lv:Lv (n+3) D):Ia D:=λh=>G7 (d:=Jj) lv (λD lv=>la (w:=⟨D,gl⟩) (nq n lv) h)
theorem p_make(n:Nat){D:Cs}(lv:Lv (n+4) D):Tp D "_law_make" [] R4:=yy (d:=Gr) lv (λD lv=>Zqx (w:=⟨D,gl⟩) ⟨V7 (n+2) lv,λns h=>Zxc (n+1) lv ns h,λs a b c=>Zxn n lv s a b c,λh=>c9 (n+1) lv h,Zxr (n+1) lv,zj n lv⟩)
theorem p_numt(n:Nat){D:Cs}(lv:Lv (n+2) D):Zwi D:=λh=>yy (d:=Yc) lv (λD lv=>Bu (w:=⟨D,gl⟩) (V7 n lv) h)
theorem p_sht(n:Nat){D:Cs}(lv:Lv (n+3) D):PShT D:=λa b c=>yy (d:=Yu) lv (λD lv=>Cv (w:=⟨D,gl⟩) (V7 (n+1) lv) (c7 (n+1) lv) (p_numt n lv) a b c)
theorem Zxs(n:Nat){D:Cs}(lv:Lv (n+1) D):ay D:=λa b c=>G7 (d:=Jv) lv (λD lv=>si (w:=⟨D,gl⟩) a b c)
theorem c8(n:Nat){D:Cs}(lv:Lv (n+4) D):qz D:=λh=>yy (d:=Uk) lv (λD lv=>qm (w:=⟨D,gl⟩) (V7 (n+2) lv) (p_sht n lv) (Zxs (n+2) lv) (zj n lv) h)
theorem p_tape(n:Nat){D:Cs}(lv:Lv (n+1) D):Zw0 D:=λzs=>G7 (d:=Gn) lv (λD lv=>ig (w:=⟨D,gl⟩) zs)
theorem ny(n:Nat){D:Cs}(lv:Lv (n+1) D):aj D:=G7 (d:=Y4) lv (λD lv=>Zqw (w:=⟨D,gl⟩))
theorem Ag(n:Nat){D:Cs}(lv:Lv (n+1) D):qw D:=λe=>G7 (d:=D7) lv (λD lv=>Zqo (w:=⟨D,gl⟩) e)
theorem nj(n:Nat){D:Cs}(lv:Lv (n+1) D):Zju D:=λe=>G7 (d:=U6) lv (λD lv=>wx (w:=⟨D,gl⟩) e)
theorem Qa(n:Nat){D:Cs}(lv:Lv (n+1) D):Dp "holds" D:=G7 (d:=C7) lv (λD lv=>S6 (w:=⟨D,gl⟩))
theorem Sb(n:Nat){D:Cs}(lv:Lv (n+1) D):Dp "_law_holds" D:=G7 (d:=Jw) lv (λD lv=>Q2 (w:=⟨D,gl⟩))
theorem Zxb(n:Nat){D:Cs}(lv:Lv (n+1) D):az D:=λa b=>G7 (d:=Gh) lv (λD lv=>Si (w:=⟨D,gl⟩) a b)
theorem p_text(n:Nat){D:Cs}(lv:Lv (n+1) D):Zwe D:=λa b=>G7 (d:=D6) lv (λD lv=>Ah (w:=⟨D,gl⟩) rfl a b)
theorem p_sng(n:Nat){D:Cs}(lv:Lv (n+2) D):PSng D:=λa=>G7 (d:=Y5) lv (λD lv=>jq (w:=⟨D,gl⟩) (Zxb n lv) (p_text n lv) a)
theorem Zxl(n:Nat){D:Cs}(lv:Lv (n+1) D):Kh D "are_pairs" [.f (.tup [])] (.f (.bl true),[]):=G7 (d:=Jg) lv (λD lv=>c6 (w:=⟨D,gl⟩))
theorem Zxd(n:Nat){D:Cs}(lv:Lv (n+1) D):Kh D "rises" [.f (.lst [])] (.f (.bl true),[]):=G7 (d:=C6) lv (λD lv=>b9 (w:=⟨D,gl⟩))
theorem nk(n:Nat){D:Cs}(lv:Lv (n+2) D)(f:T):Kh D "are_labels" [.f (.lst []),.f f] (.f (.bl true),[]):=G7 (d:=Um) lv (λD lv=>wk (w:=⟨D,gl⟩) (Zxd n lv))
theorem p_pinr(n:Nat){D:Cs}(lv:Lv (n+1) D){o:Str}{q:Int}(h:0<=q):Kh D "parts_in_row" [.f (.tup [.str "row",.str o,.int q]),.f (.tup [])] (.o (.lst []),[]):=G7 (d:=Vr) lv (λD lv=>Ay (w:=⟨D,gl⟩) h)
theorem p_pinm(n:Nat){D:Cs}(lv:Lv (n+3) D){o:Str}{q:Int}(h:0<=q):Kh D "parts_in_map" [.f (.tup [.str "map",.str o,.int q]),.f (.tup [])] (.o (.lst []),[]):=G7 (d:=Vs) lv (λD lv=>Ak (w:=⟨D,gl⟩) rfl (Zxl (n+1) lv) (nk n lv) h)
theorem p_pin(n:Nat){D:Cs}(lv:Lv (n+4) D):PPin D:=λa b=>G7 (d:=Gm) lv (λD lv=>Sg (w:=⟨D,gl⟩) (p_sng (n+1) lv) (λh=>p_pinr (n+2) lv h) (λh=>p_pinm n lv h) a b)
theorem p_thr(n:Nat){D:Cs}(lv:Lv (n+5) D):PThr D:=λa b c=>G7 (d:=Yo) lv (λD lv=>Hg (w:=⟨D,gl⟩) (Ag (n+3) lv) (p_pin n lv) a b c)
theorem p_val(n:Nat){D:Cs}(lv:Lv (n+6) D):PVal D:=λa b c=>G7 (d:=Gp) lv (λD lv=>Se (w:=⟨D,gl⟩) (p_thr n lv) a b c)
theorem p_rows(n:Nat){D:Cs}(lv:Lv (n+1) D):qx D (.tup []):=G7 (d:=Yy) lv (λD lv=>Zzh (w:=⟨D,gl⟩))
theorem Zxm(n:Nat){D:Cs}(lv:Lv (n+1) D):qx D (.lst []):=G7 (d:=Yy) lv (λD lv=>b8 (w:=⟨D,gl⟩))
theorem p_maps(n:Nat){D:Cs}(lv:Lv (n+2) D):Zw1 D:=G7 (d:=Vg) lv (λD lv=>Zqz (w:=⟨D,gl⟩) (Zxm n lv))
theorem p_both(n:Nat){D:Cs}(lv:Lv (n+3) D):Zw3 D:=λa b c d=>G7 (d:=Vf) lv (λD lv=>Zjm (w:=⟨D,gl⟩) (Ag (n+1) lv) (λe=>p_is (n+1) lv e) (p_rows (n+1) lv) (p_maps n lv) a b c d)
theorem p_alk(n:Nat){D:Cs}(lv:Lv (n+7) D):PAlk D:=λa b c d e=>G7 (d:=Vi) lv (λD lv=>gh (w:=⟨D,gl⟩) (p_val n lv) (p_both (n+3) lv) a b c d e)
theorem p_lack(n:Nat){D:Cs}(lv:Lv (n+2) D):Zw2 D:=λa b=>G7 (d:=Gd) lv (λD lv=>Zqk (w:=⟨D,gl⟩) (ny n lv) (nj n lv) a b)
theorem p_loa(n:Nat){D:Cs}(lv:Lv (n+8) D):PLoa D:=λa b=>G7 (d:=Yb) lv (λD lv=>loa_ok (w:=⟨D,gl⟩) (ny (n+6) lv) (p_alk n lv) a b)
theorem p_arf(n:Nat){D:Cs}(lv:Lv (n+9) D):PARF D:=λa b=>G7 (d:=Yi) lv (λD lv=>arf_ok (w:=⟨D,gl⟩) (p_lack (n+6) lv) (nj (n+7) lv) (Qa (n+7) lv) (p_loa n lv) a b)
theorem p_bo(n:Nat){D:Cs}(lv:Lv (n+1) D):PBo D:=λa=>G7 (d:=Jk) lv (λD lv=>vo (w:=⟨D,gl⟩) a)
theorem p_arm(n:Nat){D:Cs}(lv:Lv (n+2) D):PArm D:=λa b=>G7 (d:=Vh) lv (λD lv=>arm_ok (w:=⟨D,gl⟩) (nj n lv) (Qa n lv) a b)
theorem p_irp(n:Nat){D:Cs}(lv:Lv (n+10) D):PIRP D:=λa b c d e f=>G7 (d:=Vb) lv (λD lv=>irp_ok (w:=⟨D,gl⟩) (Ag (n+8) lv) (λe=>p_is (n+8) lv e) (p_bo (n+8) lv) (p_arf n lv) (p_arm (n+7) lv) (Qa (n+8) lv) a b c d e f)
theorem p_lal(n:Nat){D:Cs}(lv:Lv (n+2) D):PLAl D:=λa b=>G7 (d:=Jy) lv (λD lv=>Q3 (w:=⟨D,gl⟩) (Zww n lv) a b)
theorem p_lfr(n:Nat){D:Cs}(lv:Lv (n+3) D):PLFR D:=λa b c d=>G7 (d:=Ya) lv (λD lv=>lfr_ok (w:=⟨D,gl⟩) (Sb (n+1) lv) (p_lal n lv) a b c d)
theorem p_lpr(n:Nat){D:Cs}(lv:Lv (n+4) D):PLPR D:=λa b c d e f=>G7 (d:=Vx) lv (λD lv=>lpr_ok (w:=⟨D,gl⟩) (Zww (n+2) lv) (p_lfr n lv) (Sb (n+2) lv) a b c d e f)
theorem p_pap(n:Nat){D:Cs}(lv:Lv (n+2) D):PPap D:=λa b=>yy (d:=Jx) lv (λD lv=>cu (w:=⟨D,gl⟩) (V7 n lv) a b)
theorem p_rt(n:Nat){D:Cs}(lv:Lv (n+11) D):PRt D:=λa b=>yy (d:=U7) lv (λD lv=>mw (w:=⟨D,gl⟩) (p_pap (n+8) lv) (p_irp n lv) (p_lpr (n+6) lv) a b)
theorem rq(zs:ZL):Cy Wq ⟨Cn tab gl 11,gl⟩ [.f (.lst (zs.map .int))]=some (.f (.bl true),[]):=by
 have key:∀D,Lv 11 D->wF Wq ⟨D,gl⟩ [.f (.lst (zs.map .int))] λx=>x=(.f (.bl true),[]):=λD lv=>law_ok (w:=⟨D,gl⟩) (p_tape 10 lv) (V7 10 lv) (p_make 7 lv) (c8 7 lv) (p_rt 0 lv) zs;obtain⟨x,e,rfl⟩:=kj (key _ ⟨rfl⟩);exact e
structure ISo(K:W.Frag)(w:World)(a:Addr):Prop where
 top:TopD K w a
 at':∀s z,Ye s=some z->∃u,W.nsIn K a s=some (some u)/\RelV (.str z) u
theorem sc_is:Ud ["shape"] ["shape"] (Zv (top 24)):=by trivial
theorem sc_bo:Ud XR XR (Zv (top 74)):=by trivial
section
variable{P:Program}{w:World}{K:W.Frag}{mg:ZV}{base:Heap}{f aI:Addr}{fd:FuncData}
theorem zy{F G:Hp}{t:T}{vs:ZQ}{H:Hp}(hl:vs.length=1)(r:Rel K mg F G [.f t] (vs.map some) H):∃v,vs=[v]/\IsT K mg H F t v:=by
 match vs,hl with
 | [v],_ =>
  obtain⟨v',h1,h2⟩:=r.fz 0 t rfl;cases h1;exact⟨v,rfl,h2⟩
theorem is_ok(Fu:Fun K "item_sort" "item_sort" (top 24) f fd)(so:ISo K w aI)(Qq:mg "ITEM_SORTS"=some (.ref aI))(k:Nat):J4 P w K mg base qy (k+1) f fd ["shape"] (fm K mg 1 Wx):=by
 refine Fu.ok sc_is (λvs H Q E h=>h.1) λ_ A _ s H vs Q E hr h=>?_;obtain⟨hl,F,G,as,r,ec,rel,kq⟩:=h;unfold Wx at ec
 split at ec
 rotate_left
 .cases ec
 rename_i s0 r0
 obtain⟨z,ez,rfl⟩:=Yr.mp ec;obtain⟨v,rfl,iv⟩:=zy hl rel;obtain⟨a,ws,rfl,ha,_,w1,ye,rfl,i1,_⟩:=iv;cases(show w1=.str s0 from i1);obtain⟨u,hu,ru⟩:=so.at' s0 z ez;refine⟨_,(@X8 _ _ _ (@Aj _ _ _ _ (@zx _ _ _ _ _ _ _ Zqb (@cj _ _ _ _ rfl Qq XU) (@zx _ _ _ _ _ _ _ As (pv 0) Ma (λ_ _=>rfl)) (λ_ _=>rfl)))),?_⟩;exact⟨_,rfl,a,_,_,_,rfl,rfl,ha,x4 rfl,aI,_,.str z,u,rfl,rfl,so.top,hu,ru,kq F H _ (Le.refl F) (Up.refl H) rel rfl⟩
theorem bo_ok(Fu:Fun K "_law_bounds" "_law_bounds" (top 74) f fd)(k:Nat):J4 P w K mg base qy (k+1) f fd XR (fm K mg 1 Fm):=by
 refine Fu.ok sc_bo (λvs H Q E h=>h.1) λ_ A _ s H vs Q E hr h=>?_;obtain⟨hl,F,G,as,r,ec,rel,kq⟩:=h;unfold Fm at ec
 split at ec
 rotate_left
 .cases ec
 rename_i s0 r0
 cases ec;obtain⟨v,rfl,iv⟩:=zy hl rel;obtain⟨a,ws,rfl,ha,hz,w1,ye,rfl,i1,i2⟩:=iv;cases(show w1=.str s0 from i1);refine⟨_,(@X8 _ _ _ (@Aj _ _ _ _ (@Sv _ _ _ _ _ _ _ _ _ (hu_of hr) (@Zxv _ _ _ _ _ (@Sj _ _ _ _ _ _ _ _ _ (@Qu _ _ _ _) (@Qp _ _ _ _ _ (@Gw _ _ _ _ _ (@Ma _ _ _ _) (@Gw _ _ _ _ _ (@Ma _ _ _ _) (@Bp _) (by first | rfl | decide)) (by first | rfl | decide))) (@Sj _ _ _ _ _ _ _ _ _ (@Qu _ _ _ _) (@Rl _ _ _ _ _ _ _ _ _ _ (@Xr _) (pv 0) (@Qs _ _ _ (@Ma _ _ _ _)) (@Qh _)) (@Zz9 _ _))) rfl rfl (by intro z;cases z) XU) (@zx _ _ _ _ _ _ _ As (pv 0) (@Ma _ _ _ _) (λ_ _=>rfl)) (@Qp _ _ _ _ _ (@Bp _)) ⟨rfl,rfl,rfl,rfl⟩))),?_⟩;intro p hp;refine⟨(by show 2<=sizeLine;decide),λq hq=>?_⟩;have s1:Zp H (upd (upd H p (.dK [])) q (.tup [.int 0,.int 1])):=(Zp.lay hp).trans (Zp.lay hq);have qp:q≠p:=λz=>by rw[z,Zq]at hq;cases hq
 refine⟨_,rfl,_,rfl,a,.str s0::ye,rfl,s1.up a _ ha,λr H2 sm hr2=>?_⟩;have hp2:H2 p=some (.dK []):=sm p _ (by rw[Zz (Ne.symm qp),Zq]);have hq2:H2 q=some (.tup [.int 0,.int 1]):=sm q _ Zq;refine⟨hp2,[(.inr "truth",.ref q),(.inr "whole",.ref r)],rfl,(by show 2<=15;decide),?_⟩
 have s3:Zp H (upd H2 p (.dK (V8 [] [(.inr "truth",.ref q),(.inr "whole",.ref r)]))):=λb o e=>by
  rw[Zz (λz=>by rw[z,hp]at e;cases e)];exact sm b o (s1 b o e)
 refine⟨p,rfl,.inl ⟨_,.inl Zq⟩,?_⟩;refine⟨_,rfl,a,_,_,_,rfl,rfl,s3.up a _ ha,x4 rfl,?_⟩;refine⟨Io _,λt ht=>?_⟩;have tp:p≠t:=λz=>by rw[<-z,Zq]at ht;cases ht
 have s4:=s3.trans (Zp.lay (o:=.tup []) ht);refine⟨_,Nq.k (k:=.inr s0) (by rw[Zz tp,Zq]),?_⟩
 have kp:∀b o,b≠p->H2 b=some o->upd (upd H2 p (.dK (V8 [] [(.inr "truth",.ref q),(.inr "whole",.ref r)]))) t (.tup []) b=some o:=λb o nb e=>by
  have e1:upd H2 p (.dK (V8 [] [(.inr "truth",.ref q),(.inr "whole",.ref r)])) b=some o:=by rw[Zz nb];exact e
  rw[Zz (λz=>by rw[z,ht]at e1;cases e1)];exact e1
 have em:V8 [] [((Sum.inr "truth" : Key),V.ref q),(.inr "whole",.ref r)]=[(.inr "truth",.ref q),(.inr "whole",.ref r)]:=by
  show putK [((Sum.inr "truth" : Key),V.ref q)] (.inr "whole") (.ref r)=_;unfold putK;refine(if_neg ?_).trans rfl;show ¬ (decide ((Sum.inr "truth" : Key)=.inr "whole") || false)=true
  decide +kernel
 have go:∀{u:T} {v:V},IsT K mg (upd (upd H2 p (.dK (V8 [] [(.inr "truth",.ref q),(.inr "whole",.ref r)]))) t (.tup [])) F u v->(T.tup (if s0="truth" then [.int 0,.int 1] else if s0="whole" then r0 else []))=u->Q v (upd (upd H2 p (.dK (V8 [] [(.inr "truth",.ref q),(.inr "whole",.ref r)]))) t (.tup [])):=λ{u v} iv eu=>by
  subst eu;exact kq F _ v (Le.refl F) s4.up (rel.same s4) iv
 rw[show G9 (V8 [] [((Sum.inr "truth" : Key),V.ref q),(.inr "whole",.ref r)]) (.inr s0)=if s0="truth" then some (.ref q) else if s0="whole" then some (.ref r) else none by
  rw[em];by_cases z:s0="truth"
  .rw[if_pos z,Jr (by rw[z])]
  .rw[if_neg z,Js (λe=>z (Sum.inr.inj e).symm)];by_cases z:s0="whole"
   .rw[if_pos z,Jr (by rw[z])]
   .rw[if_neg z,Js (λe=>z (Sum.inr.inj e).symm)];rfl]
 by_cases z:s0="truth"
 .rw[if_pos z];refine go (u:=.tup [.int 0,.int 1]) ?_ (by rw[if_pos z]);exact⟨q,[.int 0,.int 1],rfl,Vn.of (kp q _ qp hq2),(by show 2<=sizeLine;decide),.int 0,_,rfl,rfl,.int 1,_,rfl,rfl,rfl⟩
 .rw[if_neg z];by_cases z2:s0="whole"
  .rw[if_pos z2];refine go (u:=.tup r0) ?_ (by rw[if_neg z,if_pos z2])
   have ec:B8 (.str s0::ye) (some 1) none=ye:=by
    unfold B8;rw[show HT.Y7 (V.str s0::ye).length 0 (some (1:Int))=min 1 (V.str s0::ye).length from HT.C0 _ _ 1,Rz,show min 1 (ye.length+1)=1 by omega];show ye.take (ye.length+1-1)=ye;rw[Nat.add_sub_cancel,T0g]
   rw[ec]at hr2;refine⟨r,ye,rfl,?_,by rw[Rz]at hz;omega,Zj.up s4.up (Le.refl F) _ _ i2⟩;rcases hr2 with (h | ⟨o,h⟩) | h
   .exact .inl (.inl (kp r _ (λz=>by rw[z,hp2]at h;cases h) h))
   .exact .inl (.inr ⟨o,kp r _ (λz=>by rw[z,hp2]at h;cases h) h⟩)
   .exact .inr h
  .rw[if_neg z2];refine go (u:=.tup []) ?_ (by rw[if_neg z,if_neg z2]);exact⟨t,[],rfl,Vn.of Zq,Io _,rfl⟩
theorem fo_all{h:Heap}{f2:Addr}{fd2:FuncData}(X:K.In h)(G:h.Ns mainGlobals mg)(A1:FA K "item_sort" (top 24) f fd)(A2:FA K "_law_bounds" (top 74) f2 fd2)(so:ISo K w aI)(aIs:W.nsIn K mainGlobals "ITEM_SORTS"=some (some (.ref aI))):∀x g,fx x=some g->∃ps,(∀as r,g as=some r->as.length=ps.length)/\∀n,Fn P w K mg base (n+1) x ps (fm K mg ps.length g):=λx g e=>by
 unfold fx at e
 split at e
 .rename_i ex
  cases e;subst ex;refine⟨["shape"],λas r h=>?_,λn=>⟨f,fd,is_ok A1.F so (W.mg_of X G aIs) n,A1.F.binds λ_ _ _ _ _ _ us hl=>by obtain⟨_,rfl⟩:=us1 hl;rfl,A1.F.kp,W.mg_of X G A1.a⟩⟩;unfold Wx at h
  split at h
  .rfl
  .cases h
 .split at e
  .rename_i ex
   cases e;subst ex;refine⟨["_law_shape"],λas r h=>?_,λn=>⟨f2,fd2,bo_ok A2.F n,A2.F.binds λ_ _ _ _ _ _ us hl=>by obtain⟨_,rfl⟩:=us1 hl;rfl,A2.F.kp,W.mg_of X G A2.a⟩⟩;unfold Fm at h
   split at h
   .rfl
   .cases h
  .cases e
theorem iso_of{ti0 ti1 ti2 ti3 ti4 ti5 ti6:Tok}(top:TopD K w aI)(b0:W.nsIn K aI "whole"=some (some (.str "whole" ti0)))(b1:W.nsIn K aI "truth"=some (some (.str "whole" ti1)))(b2:W.nsIn K aI "text"=some (some (.str "text" ti2)))(b3:W.nsIn K aI "row"=some (some (.str "row" ti3)))(b4:W.nsIn K aI "map"=some (some (.str "map" ti4)))(b5:W.nsIn K aI "record"=some (some (.str "rec" ti5)))(b6:W.nsIn K aI "choice"=some (some (.str "arm" ti6))):ISo K w aI:=by
 refine⟨top,λs z e=>?_⟩;unfold Ye at e;obtain⟨p,hp,rfl⟩:=Yr.mp e;have m:=List.mem_of_find?_eq_some hp;have q:p.1=s:=D9 (by have:=List.find?_some hp;exact this);subst q;simp only[Zj4,Y8,U2,or_false]at m;rcases m with rfl | rfl | rfl | rfl | rfl | rfl | rfl
 .exact⟨_,b0,_,rfl⟩
 .exact⟨_,b1,_,rfl⟩
 .exact⟨_,b2,_,rfl⟩
 .exact⟨_,b3,_,rfl⟩
 .exact⟨_,b4,_,rfl⟩
 .exact⟨_,b5,_,rfl⟩
 .exact⟨_,b6,_,rfl⟩
end
theorem Er:FC "is_whole" (top 8) Gh:=Uv (N:=["thing","low","high"])
theorem Ai:FC "is_text" (top 11) D6:=Uv (N:=["thing","most"])
theorem px:FC "rises" (top 13) C6:=Uv (N:=["things"])
theorem Pu:FC "are_pairs" (top 19) Jg:=Uv (N:=["thing"])
theorem Lc:FC "are_labels" (top 20) Um:=Uv (N:=["things","is_label"])
theorem M7:FC "is_single_value" (top 23) Y5:=Uv (N:=["shape","thing"])
theorem Pp:FC "bounds_of" (top 25) Jk:=Uv (N:=["shape"])
theorem Py:FC "member_of" (top 26) U6:=Uv (N:=["shape","number","member"])
theorem M6:FC "may_be_left_out" (top 27) Y4:=Uv (N:=["field"])
theorem Ae:FC "form_of" (top 29) D7:=Uv (N:=["make","name"])
theorem Es:FC "is_value" (top 31) Gp:=Uv (N:=["make","name","thing"])
theorem Mv:FC "is_right_through" (top 32) Yo:=Uv (N:=["make","name","thing","own","waiting","part","inner"])
theorem Eb:FC "parts_in" (top 33) Gm:=Uv (N:=["shape","thing","own","sort"])
theorem Cb:FC "parts_in_row" (top 34) Vr:=Uv (N:=["shape","thing"])
theorem Cd:FC "parts_in_map" (top 35) Vs:=Uv (N:=["shape","thing"])
theorem R8:FC "tells_alike" (top 43) Vi:=Uv (N:=["make","name","value","other","other_name","told","waiting","inner"])
theorem B6:FC "parts_of_both" (top 44) Vf:=Uv (N:=["make","other","both","shape","other_shape","value","told","sort"])
theorem B4:FC "parts_of_rows" (top 45) Yy:=Uv (N:=XC)
theorem B5:FC "parts_of_maps" (top 46) Vg:=Uv (N:=XC)
theorem pq:FC "holds" (top 50) C7:=Uv (N:=["paper","w","r"])
theorem B7:FC "is_right_pair" (top 51) Vb:=Uv (N:=["make","other","paper","pair","shape","other_shape","sort","bounds","other_bounds"])
theorem My:FC "are_right_fields" (top 52) Yi:=Uv (N:=["make","other","paper","shape","other_shape","field","other_field"])
theorem Em:FC "may_lack" (top 53) Gd:=Uv (N:=["shape","other_shape"])
theorem G5:FC "are_left_out_alike" (top 54) Yb:=Uv (N:=["make","other","field","other_field"])
theorem Ct:FC "is_right_arm" (top 55) Vh:=Uv (N:=["paper","arm","other_shape","other_arm"])
theorem Et:FC "_law_tape" (top 57) Gn:=Uv (N:=["_law_script"])
theorem El:FC "_law_draw" (top 58) Gs:=Uv (N:=["_law_tape_here","_law_many","_law_script","_law_spot","_law_left","_law_cell","_law_mixed"])
theorem Pg:FC "_law_price" (top 59) U8:=Uv (N:=["_law_shape","_law_prices_here","_law_some"])
theorem Ld:FC "_law_prices" (top 60) Ub:=Uv (N:=["_law_make_here","_law_prices_here","_law_k","_law_name","_law_price_here"])
theorem Pc:FC "_law_light" (top 61) Jj:=Uv (N:=["_law_root","_law_forms","_law_name"])
theorem Ed:FC "_law_word" (top 62) Gc:=Uv (N:=["_law_number"])
theorem Pt:FC "_law_names" (top 63) Jq:=Uv (N:=["_law_tape_here","_law_pool","_law_turn"])
theorem Pf:FC "_law_plain" (top 64) U9:=Uv (N:=["_law_tape_here","_law_sort","_law_low"])
theorem Wz:FC "_law_default" (top 65) V0:=Uv (N:=["_law_tape_here","_law_shape"])
theorem R9:FC "_law_numbers" (top 66) Ve:=Uv (N:=["_law_tape_here","_law_some"])
theorem Pb:FC "_law_parts" (top 67) Jz:=Uv (N:=["_law_tape_here","_law_names_here","_law_shapes","_law_sort","_law_parts_here","_law_number","_law_of","_law_part"])
theorem Lm:FC "_law_struck" (top 68) Ug:=Uv (N:=["_law_tape_here","_law_parts_here","_law_mine"])
theorem Ec:FC "_law_make" (top 69) Gr:=Uv (N:=["_law_tape_here","_law_names_here","_law_sorts","_law_mine","_law_shapes","_law_name","_law_sort","_law_forms","_law_parts_here"])
theorem Dg:FC "_law_number_turned" (top 70) Yc:=Uv (N:=["_law_tape_here","_law_number","_law_low","_law_high"])
theorem Mj:FC "_law_shape_turned" (top 71) Yu:=Uv (N:=["_law_tape_here","_law_names_here","_law_shape","_law_some","_law_of","_law_parts_here","_law_at","_law_way","_law_number","_law_more","_law_mine","_law_struck_here","_law_turned_here"])
theorem Pl:FC "_law_fixed" (top 72) Jv:=Uv (N:=["_law_forms","_law_shape","_law_fields","_law_number","_law_name","_law_of","_law_default_here","_law_form"])
theorem Lb:FC "_law_turned" (top 73) Uk:=Uv (N:=["_law_tape_here","_law_make_here","_law_names_here","_law_forms","_law_k","_law_name"])
theorem Pn:FC "_law_holds" (top 75) Jw:=Uv (N:=["_law_paper_here","_law_w","_law_r"])
theorem Ph:FC "_law_alike" (top 76) Jy:=Uv (N:=["_law_shapes","_law_default_here","_law_there"])
theorem Mw:FC "_law_fields_right" (top 77) Ya:=Uv (N:=["_law_one","_law_other","_law_paper_here","_law_shape","_law_mate","_law_mine","_law_number","_law_title","_law_of","_law_default_here","_law_inner","_law_own","_law_shapes"])
theorem N8:FC "_law_pair_right" (top 78) Vx:=Uv (N:=["_law_one","_law_other","_law_paper_here","_law_w","_law_r","_law_shape","_law_mate","_law_bounds_here","_law_good","_law_arms","_law_number","_law_title","_law_of"])
theorem Pd:FC "_law_paper" (top 79) Jx:=Uv (N:=["_law_tape_here","_law_one","_law_other","_law_often","_law_pairs","_law_w"])
theorem Pk:FC "_law_right" (top 80) U7:=Uv (N:=["_law_tape_here","_law_one","_law_other","_law_k","_law_paper_here","_law_w","_law_r","_law_found"])
theorem hx_law:(Zv (top 81)).names≠Ti:=by decide +kernel
theorem ck_law:chk XT Wq (top 81)=true:=by decide +kernel
theorem fc_law:FC "law" (top 81) Wq:=Uv (N:=XT)
set_option maxHeartbeats 0 in
theorem all_mk{l:W.OpenLaw}{w:World}{K:W.Frag}{h:Heap}{mg:ZV}{fa f1 f2 f3 f4 f5 f6 f7 f8 f9 f10 f11 f12 f13 f14 f15 f16 f17 f18 f19 f20 f21 f22 f23 f24 f25 f26 f27 f28 f29 f30 f31 f32 f33 f34 f35 f36 f37 f38 f39 f40 f41 f42 f43 f44 f45 f46 f47 f48 f49 f50 f51:Addr}{d1 d2 d3 d4 d5 d6 d7 d8 d9 d10 d11 d12 d13 d14 d15 d16 d17 d18 d19 d20 d21 d22 d23 d24 d25 d26 d27 d28 d29 d30 d31 d32 d33 d34 d35 d36 d37 d38 d39 d40 d41 d42 d43 d44 d45 d46 d47 d48 d49 d50 d51:FuncData}{tk0:Tok}{w_is_name_:Addr}{aI:Addr}{nI:Nat}{esI:Array DictEntry}{ti0 ti1 ti2 ti3 ti4 ti5 ti6:Tok}(X:K.In h)(G:h.Ns mainGlobals mg)(hfa:mg "law"=some (.ref fa))
  (h1:FA K "is_whole" (top 8) f1 d1)
  (h2:FA K "is_text" (top 11) f2 d2)
  (h3:FA K "rises" (top 13) f3 d3)
  (h4:FA K "are_pairs" (top 19) f4 d4)
  (h5:FA K "are_labels" (top 20) f5 d5)
  (h6:FA K "is_single_value" (top 23) f6 d6)
  (h7:FA K "item_sort" (top 24) f7 d7)
  (h8:FA K "bounds_of" (top 25) f8 d8)
  (h9:FA K "member_of" (top 26) f9 d9)
  (h10:FA K "may_be_left_out" (top 27) f10 d10)
  (h11:FA K "form_of" (top 29) f11 d11)
  (h12:FA K "is_value" (top 31) f12 d12)
  (h13:FA K "is_right_through" (top 32) f13 d13)
  (h14:FA K "parts_in" (top 33) f14 d14)
  (h15:FA K "parts_in_row" (top 34) f15 d15)
  (h16:FA K "parts_in_map" (top 35) f16 d16)
  (h17:FA K "tells_alike" (top 43) f17 d17)
  (h18:FA K "parts_of_both" (top 44) f18 d18)
  (h19:FA K "parts_of_rows" (top 45) f19 d19)
  (h20:FA K "parts_of_maps" (top 46) f20 d20)
  (h21:FA K "holds" (top 50) f21 d21)
  (h22:FA K "is_right_pair" (top 51) f22 d22)
  (h23:FA K "are_right_fields" (top 52) f23 d23)
  (h24:FA K "may_lack" (top 53) f24 d24)
  (h25:FA K "are_left_out_alike" (top 54) f25 d25)
  (h26:FA K "is_right_arm" (top 55) f26 d26)
  (h27:FA K "_law_tape" (top 57) f27 d27)
  (h28:FA K "_law_draw" (top 58) f28 d28)
  (h29:FA K "_law_price" (top 59) f29 d29)
  (h30:FA K "_law_prices" (top 60) f30 d30)
  (h31:FA K "_law_light" (top 61) f31 d31)
  (h32:FA K "_law_word" (top 62) f32 d32)
  (h33:FA K "_law_names" (top 63) f33 d33)
  (h34:FA K "_law_plain" (top 64) f34 d34)
  (h35:FA K "_law_default" (top 65) f35 d35)
  (h36:FA K "_law_numbers" (top 66) f36 d36)
  (h37:FA K "_law_parts" (top 67) f37 d37)
  (h38:FA K "_law_struck" (top 68) f38 d38)
  (h39:FA K "_law_make" (top 69) f39 d39)
  (h40:FA K "_law_number_turned" (top 70) f40 d40)
  (h41:FA K "_law_shape_turned" (top 71) f41 d41)
  (h42:FA K "_law_fixed" (top 72) f42 d42)
  (h43:FA K "_law_turned" (top 73) f43 d43)
  (h44:FA K "_law_bounds" (top 74) f44 d44)
  (h45:FA K "_law_holds" (top 75) f45 d45)
  (h46:FA K "_law_alike" (top 76) f46 d46)
  (h47:FA K "_law_fields_right" (top 77) f47 d47)
  (h48:FA K "_law_pair_right" (top 78) f48 d48)
  (h49:FA K "_law_paper" (top 79) f49 d49)
  (h50:FA K "_law_right" (top 80) f50 d50)
  (h51:FA K "law" (top 81) f51 d51)
  (Qx : W.nsIn K mainGlobals "SIGNS"=some (some (.str " !\"#$&'()*+,-./0123456789:;<=>?@ABCDEFGHIJKLMNOPQRSTUVWXYZ[\\]^_`abcdefghijklmnopqrstuvwxyz{|}~" tk0)))
  (w_is_name:W.nsIn K mainGlobals "is_name"=some (some (.ref w_is_name_)))
  (aIs:W.nsIn K mainGlobals "ITEM_SORTS"=some (some (.ref aI)))
  (lIs:K.lookup aI=some ⟨.type "dict",none,.dict esI nI, #[]⟩)
  (kIs:W.KeysLit w.params esI.toList)
  (bI0:W.nsIn K aI "whole"=some (some (.str "whole" ti0)))
  (bI1:W.nsIn K aI "truth"=some (some (.str "whole" ti1)))
  (bI2:W.nsIn K aI "text"=some (some (.str "text" ti2)))
  (bI3:W.nsIn K aI "row"=some (some (.str "row" ti3)))
  (bI4:W.nsIn K aI "map"=some (some (.str "map" ti4)))
  (bI5:W.nsIn K aI "record"=some (some (.str "rec" ti5)))
  (bI6:W.nsIn K aI "choice"=some (some (.str "arm" ti6)))
  (yp:W.nsIn K mainGlobals "len"=some none)
  (yo:W.nsIn K mainGlobals "all"=some none)
  (ya:W.nsIn K mainGlobals "any"=some none)
  (K8:W.nsIn K mainGlobals "list"=some none)
  (F9:W.nsIn K mainGlobals "tuple"=some none)
  (yn:W.nsIn K mainGlobals "min"=some none)
  (yh:W.nsIn K mainGlobals "max"=some none)
  (yu:W.nsIn K mainGlobals "int"=some none)
  (yi:W.nsIn K mainGlobals "abs"=some none)
  (K9:W.nsIn K mainGlobals "dict"=some none)
  (Gz:W.nsIn K mainGlobals "isinstance"=some none)
  (Rq:W.nsIn K mainGlobals "sorted"=some none)
  (yc:W.nsIn K mainGlobals "set"=some none)
  (Qz:W.nsIn K mainGlobals "range"=some none)
  (yb:W.nsIn K mainGlobals "zip"=some none)
  (G8:W.nsIn K mainGlobals "enumerate"=some none)
  (ym:W.nsIn K mainGlobals "sum"=some none)
  (K7:W.nsIn K mainGlobals "repr"=some none)
  (yt:W.nsIn K mainGlobals "str"=some none)
  (Hz:W.nsIn K mainGlobals "bool"=some none)
  (nl:Ad K=true)
  : ∃fd:FuncData,(∀(s:Shared) (v:Value),BindsTo s fd ⟨[v],[]⟩ [("_law_script",v)])/\∀base:Heap,K.In base->base.Ns mainGlobals mg->J4 l.prog w K mg base qy 12 fa fd ["_law_script"] (Xc K):=by
 have e:=hfa.symm.trans (W.mg_of X G h51.a);cases e;have Zw6:=h51.F
 have fA:∀p∈tabA,Du K mg p.1 p.2:=by
  unfold tabA;refine Vj.mpr ⟨M6 X G h10,Vj.mpr ⟨Ae X G h11,Vj.mpr ⟨Py X G h9,Vj.mpr ⟨Er X G h1,Vj.mpr ⟨Ai X G h2,Vj.mpr ⟨M7 X G h6,Vj.mpr ⟨Pp X G h8,Vj.mpr ⟨px X G h3,Vj.mpr ⟨Pu X G h4,Vj.mpr ⟨Lc X G h5,Vj.mpr ⟨Es X G h12,Vj.mpr ⟨Mv X G h13,Vj.mpr ⟨Eb X G h14,Vj.mpr ⟨Cb X G h15,Vj.mpr ⟨Cd X G h16,Vj.mpr ⟨R8 X G h17,Vj.mpr ⟨B6 X G h18,Vj.mpr ⟨B4 X G h19,Vj.mpr ⟨B5 X G h20,Vj.mpr ⟨pq X G h21,Vj.mpr ⟨B7 X G h22,Vj.mpr ⟨My X G h23,Vj.mpr ⟨Em X G h24,Vj.mpr ⟨G5 X G h25,Vj.mpr ⟨Ct X G h26,λ_ m=>absurd m U2⟩⟩⟩⟩⟩⟩⟩⟩⟩⟩⟩⟩⟩⟩⟩⟩⟩⟩⟩⟩⟩⟩⟩⟩⟩
 have fB:∀p∈tabB,Du K mg p.1 p.2:=by
  unfold tabB;refine Vj.mpr ⟨Et X G h27,Vj.mpr ⟨El X G h28,Vj.mpr ⟨Pg X G h29,Vj.mpr ⟨Ld X G h30,Vj.mpr ⟨Pc X G h31,Vj.mpr ⟨Ed X G h32,Vj.mpr ⟨Pt X G h33,Vj.mpr ⟨Pf X G h34,Vj.mpr ⟨Wz X G h35,Vj.mpr ⟨R9 X G h36,Vj.mpr ⟨Pb X G h37,Vj.mpr ⟨Lm X G h38,Vj.mpr ⟨Ec X G h39,Vj.mpr ⟨Dg X G h40,Vj.mpr ⟨Mj X G h41,Vj.mpr ⟨Pl X G h42,Vj.mpr ⟨Lb X G h43,Vj.mpr ⟨Pn X G h45,Vj.mpr ⟨Ph X G h46,Vj.mpr ⟨Mw X G h47,Vj.mpr ⟨N8 X G h48,Vj.mpr ⟨Pd X G h49,Vj.mpr ⟨Pk X G h50,Vj.mpr ⟨fc_law X G h51,λ_ m=>absurd m U2⟩⟩⟩⟩⟩⟩⟩⟩⟩⟩⟩⟩⟩⟩⟩⟩⟩⟩⟩⟩⟩⟩⟩⟩
 have ft:∀p∈tabL,Du K mg p.1 p.2:=λp m=>(yk.mp m).elim (fA p) (fB p)
 have bn:∀x∈J2,mg x=none:=by
  unfold J2;refine Vj.mpr ⟨W.mg_none_of X G yp,Vj.mpr ⟨W.mg_none_of X G yo,Vj.mpr ⟨W.mg_none_of X G ya,Vj.mpr ⟨W.mg_none_of X G K8,Vj.mpr ⟨W.mg_none_of X G F9,Vj.mpr ⟨W.mg_none_of X G yn,Vj.mpr ⟨W.mg_none_of X G yh,Vj.mpr ⟨W.mg_none_of X G yu,Vj.mpr ⟨W.mg_none_of X G yi,Vj.mpr ⟨W.mg_none_of X G K9,Vj.mpr ⟨W.mg_none_of X G Gz,Vj.mpr ⟨W.mg_none_of X G Rq,Vj.mpr ⟨W.mg_none_of X G yc,Vj.mpr ⟨W.mg_none_of X G Qz,Vj.mpr ⟨W.mg_none_of X G yb,Vj.mpr ⟨W.mg_none_of X G G8,Vj.mpr ⟨W.mg_none_of X G ym,Vj.mpr ⟨W.mg_none_of X G K7,Vj.mpr ⟨W.mg_none_of X G yt,Vj.mpr ⟨W.mg_none_of X G Hz,λ_ m=>absurd m U2⟩⟩⟩⟩⟩⟩⟩⟩⟩⟩⟩⟩⟩⟩⟩⟩⟩⟩⟩⟩
 have hg:∀x t,gl x=some t->∃v u,mg x=some u/\RelV v u/\∀H F,IsT K mg H F t v:=by
  intro x t e;unfold gl at e
  split at e
  .rename_i z;subst z;cases e;exact⟨.str SIG,_,W.mg_of X G Qx,⟨_,rfl⟩,λ_ _=>rfl⟩
  split at e
  .rename_i z;subst z;cases e;exact⟨.ref w_is_name_,_,W.mg_of X G w_is_name,rfl,λ_ _=>⟨_,rfl,W.mg_of X G w_is_name⟩⟩
  cases e
 obtain⟨oc,od,kV,doc,pm,an,cdv,ct,osl,rfl,lk,Pz⟩:=Zw6.ex;refine⟨W.fnOf "law" "law" (Uy (top 81)) (Yp (top 81)) (Zv (top 81)) .none kV doc pm an cdv ct,λs v=>.of_eq rfl,λbase _ _=>?_⟩;obtain⟨c1,c2,c3,c4,c5⟩:=uy ck_law;exact(Ey (w:=⟨Cn tab gl 11,gl⟩) (d:=Wq) (PV.funR Zw6) (λz=>absurd z hx_law) c1 c2 c3 c4 c5 bn (knot bn (tab_of ft) (fo_all X G h7 h44 (iso_of ⟨⟨esI,nI,lIs,kIs⟩⟩ bI0 bI1 bI2 bI3 bI4 bI5 bI6) aIs) hg 11) hg).imp (Zqy nl λzs _=>rq zs)
end K40
open PySem PySem.W PyProof.Rows
set_option maxRecDepth 100000 in
set_option maxHeartbeats 0 in
theorem K40.ws:PySem.Challenge.rw_makes_k40_right_pairs.wellSaid=true:=by
 delta OpenLaw.wellSaid
 iterate 18 refine look_both ?_ ?_
 case _ =>
  delta OpenRow.wellSaid
  refine look_both (look_both ?_ ?_) ?_
  case _ =>
   delta OpenRow.partSaid
   iterate 13 refine look_both ?_ ?_
   case _ =>
    delta looksOpen
    iterate 5 refine look_both ?_ ?_
    all_goals decide +kernel
   all_goals decide +kernel
  all_goals decide +kernel
 all_goals decide +kernel
set_option maxRecDepth 100000 in
set_option maxHeartbeats 0 in
theorem PySem.Challenge.cw_makes_k40_right_pairs_holds : PySem.Challenge.rw_makes_k40_right_pairs.Holds := by
 w_on
 refine holds_law K40.ws λsaid=>?_
 refine holds_open (q:=K40.viewK) (loose:=K40.Y1) (XP:=XL K40.viewK []) (YP:=Hook.says (W.kHook K40.heapK K40.asK K40.Ox)) (N:=4486)
  K40.leftK (Hook.of (W.kHook K40.heapK K40.asK K40.Ox)) (Hook.keeps (W.kHook K40.heapK K40.asK K40.Ox)) (λs e=>xl_of s (B0z.mp e).1)
  XL.keeps (by rfl) (by rfl) (by rfl) (λs e=>recFacts_of (B0z.mp e).2) (by rfl) (by assumption)
  XH ⟨rfl,rfl,rfl,rfl,rfl,by decide +kernel⟩ ?hw ?hc
 case hw=>w_witness2
 k_fill
 refine PV.walkP' (λT z=>by cases z) (l:=PySem.Challenge.rw_makes_k40_right_pairs) (k:=12) rfl rfl ⟨rfl,by decide,by decide,rfl⟩ (λw h Y=>W.kIn_of Y) ?F
 case F =>
  intro w mg fa h KX G hmg;refine' K40.all_mk KX G hmg ?h1 ?h2 ?h3 ?h4 ?h5 ?h6 ?h7 ?h8 ?h9 ?h10 ?h11 ?h12 ?h13 ?h14 ?h15 ?h16 ?h17 ?h18 ?h19 ?h20 ?h21 ?h22 ?h23 ?h24 ?h25 ?h26 ?h27 ?h28 ?h29 ?h30 ?h31 ?h32 ?h33 ?h34 ?h35 ?h36 ?h37 ?h38 ?h39 ?h40 ?h41 ?h42 ?h43 ?h44 ?h45 ?h46 ?h47 ?h48 ?h49 ?h50 ?h51 ?Qx ?w_is_name ?aIs ?lIs ?kIs ?bI0 ?bI1 ?bI2 ?bI3 ?bI4 ?bI5 ?bI6 ?yp ?yo ?ya ?K8 ?F9 ?yn ?yh ?yu ?yi ?K9 ?Gz ?Rq ?yc ?Qz ?yb ?G8 ?ym ?K7 ?yt ?Hz ?nl
  case h1|h2|h3|h4|h5|h6|h7|h8|h9|h10|h11|h12|h13|h14|h15|h16|h17|h18|h19|h20|h21|h22|h23|h24|h25|h26|h27|h28|h29|h30|h31|h32|h33|h34|h35|h36|h37|h38|h39|h40|h41|h42|h43|h44|h45|h46|h47|h48|h49|h50|h51=>exact⟨by k_is,L2.Zg (by k_is) (by k_is) (by k_is)⟩
  case Qx|w_is_name|aIs|lIs=>k_is
  case kIs=>k_keys
  case bI0|bI1|bI2|bI3|bI4|bI5|bI6|yp|yo|ya|K8|F9|yn|yh|yu|yi|K9|Gz|Rq|yc|Qz|yb|G8|ym|K7|yt|Hz=>k_is
  case nl=>kernel_rfl
