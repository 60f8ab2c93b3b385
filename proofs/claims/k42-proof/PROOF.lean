import PyProof.Rows.All
import Wide.All
import OpenK.AllK
import Wide.FinOn
import PySem.Challenge.RW_makes_k42_papers_for_keeping
set_option genSizeOf false
set_option genInjectivity false
set_option bootstrap.genMatcherCode false
noncomputable section
set_option maxHeartbeats 2000000
set_option Elab.async false
set_option linter.all false
set_option maxRecDepth 100000
local macro_rules | `(tactic| trivial) => `(tactic| first | exact .inl rfl | exact .inr rfl | rfl | decide | (intro _; rfl) | exact Or.inl rfl | exact Or.inr rfl | assumption | exact ⟨rfl, rfl, rfl, by decide +kernel, rfl, by decide +kernel, by decide +kernel⟩ | fail)
def XJ:=@List.find?_eq_none
def XQ:=@Int.toNat_natCast
def XX:=@List.length_set
def XZ:=@List.length_range
def ZE:=@List.append_nil
def ZI:=@List.append_assoc
def ZO:=@List.any_eq_true
def ZA:=@List.pairwise_cons
def ZU:=@List.length_singleton
def ZP:=@Option.bind_eq_some_iff
section
open PySem
abbrev ZQ:=Value->Shared->Prop
abbrev ZJ:=Str->Option Value
abbrev ZW:=List (Str×NameKind)
abbrev ZV:=List (Option Nat)
abbrev ZY:=Array (Option Value)
abbrev ZK:=List Value
abbrev ZG:=List Str
abbrev ZF:=Option Value
abbrev ZM:=List Expr
abbrev ZD:=Array Value
abbrev ZT:=List Int
abbrev ZC:=Option Int
abbrev ZN:=Array Nat
abbrev ZL:=Option Nat
abbrev ZR:=Option Addr
abbrev ZS:=List Addr
abbrev ZH:=Unit->Shared->Prop
end
section
open PySem PyProof.Rows
def Y9:=@List.length_map
def J5:=@List.not_mem_nil
def Ul:=@List.size_toArray
def Dl:=@List.mem_singleton
def O3:=@List.map_append
def Jo:=@decide_eq_true
def N4:=@Nat.le_refl
def Zy:=@wpAny_bind
def Z8:=@wpAny_pure
def M4:=@List.mem_map
def lg:=@List.getElem?_map
def wt:=@List.getElem?_eq_some_iff
def Xj:=@List.mem_append
def Y7:=@Option.map_eq_some_iff
def Nb:=@List.length_append
def Nf:=@Option.some.inj
def Yb:=@List.mem_cons_self
def Y5:=@List.mem_cons_of_mem
def G0e:=@List.getElem_mem
def Zl:=@List.forall_mem_cons
def B0f:=@Bool.false_eq_true
def Lh:=@List.getElem?_eq_getElem
def B0n:=@beq_eq_false_iff_ne
def N0l:=@Nat.lt_of_lt_of_le
def M5:=@List.length_cons
def O5:=@List.map_cons
def Vn:=@Heap.get?_push_of_some
def Ya:=@List.mem_cons
def B0s:=@beq_self_eq_true
def Dk:=@of_decide_eq_true
def Jx:=@Bool.and_eq_true
def U8:=@Nat.le_trans
def Qv:=@Bool.false_ne_true
def Mw:=@Heap.get?_push_size
def Mv:=@Heap.lt_size
def j7:=@List.length_take
def T0l:=@List.take_of_length_le
def N0o:=@Nat.lt_of_le_of_lt
def Mj:=@Nat.zero_le
def x3:=@Array.length_toList
def Fb:=@Nat.ne_of_lt
def R5:=@List.all_eq_true
def Hq:=@Bool.and_eq_true_iff
def Mr:=@decide_eq_false
def M0r:=@List.mem_append_right
def T0g:=@List.take_length
end
namespace L2
open PySem PySem.Spec PyProof.Rows
noncomputable def inClass(s:Stmt)(j:Nat):Stmt:=match s with
 | .ClassDef _ _ _ body _ _ _ _ _ _ _=>body.getD j (.Pass ⟨0,0,0,0⟩)
 | _=>.Pass ⟨0,0,0,0⟩
noncomputable def Bh(s:Stmt):Arguments:=match s with
 | .FunctionDef _ a _ _ _ _ _ _ _ _=>a
 | _=>{ posonlyargs:=[],args:=[],vararg:=none,kwonlyargs:=[],kw_defaults:=[],kwarg:=none,defaults:=[] }
def Us(s:Stmt):List Stmt:=match s with
 | .FunctionDef _ _ b _ _ _ _ _ _ _=>b
 | _=>[]
noncomputable def Zf(s:Stmt):Scope:=match s with
 | .FunctionDef _ _ _ _ _ _ sc _ _ _=>sc
 | _=>{ kind:=.function,names:=[],isGenerator:=false,isCoroutine:=false }
end L2
namespace K42
open PySem PySem.Spec PyProof.Rows
noncomputable def top(i:Nat):Stmt:=PySem.Challenge.pw_makes_k42_papers_for_keeping.main.body.getD i (.Pass ⟨0,0,0,0⟩)
end K42
namespace L2
open PySem PySem.W PySem.Calls PyProof.Rows
section
variable{tb:String->Option Builtin}{p:Program}{w:World}{m:Nat}{a:ZF}
def um(tb:String->Option Builtin)(p:Program)(w:World)(m:Nat)(a:ZF):Nat->SharedT->Thread->Option SharedT
 | 0,_,_=>none
 | k+1,s,t=>bif through t then some s else bif stepOk m a t then (match stepT (denote tb) p w s t with | some (s',t')=>um tb p w m a k s' t' | none=>none) else none
theorem X7:∀{k:Nat} {s s':SharedT} {t:Thread},um tb p w m a k s t=some s'->topRun tb p w m a k s.abs t=some s'.abs
 | 0,_,_,_,h=>by cases h
 | k+1,s,s',t,h=>by
  unfold um at h;unfold topRun;cases ht:through t with
  | true=>rw[ht]at h;cases h;rfl
  | false =>
   rw[ht]at h;cases hk:stepOk m a t with
   | false=>rw[hk]at h;cases h
   | true =>
    rw[hk]at h;cases hs:stepT (denote tb) p w s t with
    | none=>rw[hs]at h;cases h
    | some r =>
     obtain⟨s₂,t₂⟩:=r;rw[hs]at h;rw[stepT_spec hs];exact X7 h
end
def mkT:List Obj->Nat->BT->BT
 | [],_,t=>t
 | o::l,i,t=>mkT l (i+1) (t.ins i o)
noncomputable abbrev Ke(w:World)(os:OsState):Shared:=⟨boot_heap w.params,Array.mk [],boot_drawn,boot_toks,os⟩
noncomputable abbrev Zx8(w:World)(os:OsState):SharedT:=⟨mkT (boot_heap w.params).objs.toList 0 .nil,(boot_heap w.params).objs.size,(boot_heap w.params).life,Array.mk [],boot_drawn,boot_toks,os⟩
theorem boot_abs(w:World)(os:OsState):(Zx8 w os).abs=Ke w os:=by kernel_rfl
noncomputable abbrev Lr(p:Program)(N:Nat)(w:World)(os:OsState):Option SharedT:=um treeTable p w (boot_heap w.params).objs.size ((boot_heap w.params).nsMap mainGlobals "__annotations__") N (Zx8 w os) (topStub p)
noncomputable abbrev c6(p:Program)(w:World)(s:Shared):Bool:=staticsOk (importedModules p.main.body) (boot_heap w.params) s.heap && namesBound p s.heap && gensDone s && laidKept (boot_heap w.params) s.heap
theorem ns_ok(w:World):((boot_heap w.params).isNs mainGlobals && (Array.mk []:Array GenState).size == 0)=true:=by kernel_rfl
theorem Mf{l:Type _}{o:Option SharedT}{f:Shared->l}{r:l}(h:(o.map fun s=>f s.abs)=some r):∃s,o=some s/\f s.abs=r:=by
 obtain⟨s,e,q⟩:=Y7.mp h;exact⟨s,e,q⟩
theorem top_of{l V:Type}{p:Program}{N:Nat}{w:World}{os:OsState}{f:Shared->l}{g:Shared->V}{x:l}{y:V}(h1:((Lr p N w os).map fun s=>c6 p w s.abs)=some true)
  (h2:((Lr p N w os).map fun s=>f s.abs)=some x) (h3:((Lr p N w os).map fun s=>g s.abs)=some y) :
  (topFrom treeTable p w N (Ke w os)).map (fun s=>(f s,g s))=some (x,y):=by
 obtain⟨s,e,c⟩:=Mf h1;obtain⟨s2,e2,c2⟩:=Mf h2;obtain⟨s3,e3,c3⟩:=Mf h3;rw[e]at e2 e3;cases e2;cases e3;have r:=X7 e;rw[boot_abs]at r;unfold topFrom;rw[show ((Ke w os).heap.isNs mainGlobals && (Ke w os).gens.size == 0)=true from ns_ok w];show Option.map _ (Option.bind (topRun treeTable p w (boot_heap w.params).objs.size ((boot_heap w.params).nsMap mainGlobals "__annotations__") N (Ke w os) (topStub p)) _)=_;rw[r];show Option.map _ (match c6 p w s.abs with | true=>some s.abs | false=>none)=_;rw[c];show some (f s.abs,g s.abs)=_;rw[c2,c3]
end L2
namespace K42
open PySem PySem.Spec PyProof.Rows L2
def viewK:Program:={ PySem.Challenge.pw_makes_k42_papers_for_keeping with main:={ PySem.Challenge.pw_makes_k42_papers_for_keeping.main with body:=[top 1,top 2,top 3,top 4,top 5,top 6,top 7,top 8,top 9,top 10,top 11,top 12,top 13,top 14,top 15,top 16,top 17,top 18,top 19,top 20,top 22,top 23,top 24,top 25,top 26,top 27,top 29,top 30,top 32,top 33,top 34,top 35,top 36,top 37,top 38,top 39,top 41,top 42,top 44,top 45,top 46,top 47,top 48,top 49,top 51,top 52,top 53,top 54,top 55,top 56,top 57,top 58,top 59,top 60,top 61,top 62,top 63,top 64,top 66,top 67,top 68,top 69,top 70,top 71,top 72,top 73,top 74,top 75,top 76,top 77,top 78,top 79,top 80,top 81,top 82,top 83,top 84,top 85,top 86,top 87,top 88,top 89,top 90,top 91,top 92,top 93,top 94,top 95,top 96,top 97,top 98] } }
def Y1:ZG:=["ITEM_SORTS"]
abbrev en(P:Params)(x:Str)(t:Tok)(v:Value):DictEntry:=⟨PyData.keyHash P x,.str x t,v⟩
abbrev fo(cls:Value)(nm q:Str)(s:Stmt)(kw doc pm:Value)(an:ZR)(cd ct:Value)(sl:ZY):Obj:=⟨cls,none,.func (W.fnOf nm q (L2.Bh s) (L2.Us s) (L2.Zf s) .none kw doc pm an cd ct),sl⟩
abbrev fn(nm q:Str)(s:Stmt)(md:Str)(t:Nat)(c:Addr):Obj:=fo (.type "function") nm q s .none .none (.str md t) .none (.ref c) .none #[]
abbrev cd(x:Str)(a:Nat)(q:Str)(b c:Nat)(l k:Int)(r1 r2 r3 r4 r5:Addr)(e f:Int)(g:Nat):Obj:=⟨.type "code",.none,.fields #[.str x a,.str q b,.str "/claim/cut.py" c,.int l 0,.int k 0,.int 0 0,.int 0 0,.int 3 0,.ref r1,.bool Bool.true,.int 181 0,.ref r2,.none,.ref r3,.ref r4,.ref r5,.int e 0,.int f 0,.str "/claim/cut.py" g], #[]⟩
abbrev J0(x:Str)(a:Nat)(l k:Int)(r e:Nat):Obj:=cd x a x (a+1) (a+2) l k r (r+1) (r+2) (r+3) (r+4) e l (e+1)
abbrev Gk(x:Str)(a:Nat)(l k:Int)(r e:Nat):Obj:=⟨.type "code",.none,.fields #[.str x a,.str x (a+1),.str "/claim/cut.py" (a+2),.int l 0,.int k 0,.int 0 0,.int 0 0,.int 3 0,.ref r,.bool Bool.true,.int 181 0,.ref (r+1),.none,.none,.none,.ref (r+2),.int e 0,.int l 0,.str "/claim/cut.py" (e+1)], #[]⟩
abbrev jt(x:Str)(i:Nat)(c:Addr):Obj:=fn x x (top i) "makes.items" 187 c
abbrev fnB(x:Str)(i:Nat)(c:Addr):Obj:=fn x x (top i) "makes.shapes" 290 c
abbrev fnC(x:Str)(i:Nat)(c:Addr):Obj:=fn x x (top i) "makes.forms" 352 c
abbrev fnD(x:Str)(i:Nat)(c:Addr):Obj:=fn x x (top i) "makes.values" 370 c
abbrev fnE(x:Str)(i:Nat)(c:Addr):Obj:=fn x x (top i) "makes.writing" 439 c
abbrev fnF(x:Str)(i:Nat)(c:Addr):Obj:=fn x x (top i) "makes.alike" 453 c
abbrev xy(x:Str)(i:Nat)(c:Addr):Obj:=fn x x (top i) "makes.checker" 514 c
abbrev Mo(x:Str)(i:Nat)(c:Addr):Obj:=fn x x (top i) "law_makes_k42_papers_for_keeping" 629 c
noncomputable def heapK:Params->W.Frag:=fun P =>
 (nat_lit 3, ⟨.type "dict", .none, .dict #[en P "__name__" 165 (.str "law_makes_k42_papers_for_keeping" 629), en P "__doc__" 166 (.none), en P "__package__" 167 (.none), en P "__loader__" 168 (.builtin "__main__.__loader__#opaque"), en P "__spec__" 169 (.none), en P "__annotations__" 170 (.ref 6), en P "__builtins__" 171 (.ref 4), en P "__file__" 173 (.str "/claim/cut.py" 172), en P "__cached__" 174 (.none), en P "LETTERS" 190 (.str "abcdefghijklmnopqrstuvwxyz" 189), en P "SIGNS" 192 (.str " !\"#$&'()*+,-./0123456789:;<=>?@ABCDEFGHIJKLMNOPQRSTUVWXYZ[\\]^_`abcdefghijklmnopqrstuvwxyz{|}~" 191), en P "GREATEST_WHOLE" 194 (.int 1000000000000000000 193), en P "GREATEST_NUMBER" 196 (.int 999 195), en P "LONGEST_TEXT" 198 (.int 200 197), en P "LONGEST_NAME" 200 (.int 8 199), en P "DEEPEST" 202 (.int 100 201), en P "is_whole" 211 (.ref 21), en P "is_item_whole" 218 (.ref 28), en P "is_number" 225 (.ref 35), en P "is_text" 231 (.ref 40), en P "is_name" 237 (.ref 45), en P "rises" 243 (.ref 50), en P "is_item" 249 (.ref 55), en P "level_below" 258 (.ref 62), en P "items_in" 264 (.ref 67), en P "is_right_outside" 271 (.ref 74), en P "is_right_behind" 277 (.ref 79), en P "are_pairs" 283 (.ref 84), en P "are_labels" 289 (.ref 89), en P "ITEM_SORTS" 313 (.ref 90), en P "is_single_value" 321 (.ref 97), en P "item_sort" 328 (.ref 104), en P "bounds_of" 335 (.ref 111), en P "member_of" 344 (.ref 118), en P "may_be_left_out" 351 (.ref 125), en P "form_of" 361 (.ref 132), en P "is_form" 369 (.ref 139), en P "is_value" 380 (.ref 146), en P "is_right_through" 393 (.ref 153), en P "parts_in" 403 (.ref 160), en P "parts_in_row" 409 (.ref 165), en P "parts_in_map" 415 (.ref 170), en P "parts_in_record" 421 (.ref 175), en P "are_others" 427 (.ref 180), en P "parts_in_choice" 438 (.ref 187), en P "written" 446 (.ref 192), en P "written_fields" 452 (.ref 197), en P "tells_alike" 468 (.ref 204), en P "parts_of_both" 482 (.ref 211), en P "parts_of_rows" 488 (.ref 216), en P "parts_of_maps" 494 (.ref 221), en P "parts_of_records" 500 (.ref 226), en P "parts_of_choices" 513 (.ref 233), en P "lets_read" 521 (.ref 238), en P "lets_keep" 527 (.ref 243), en P "is_paper" 533 (.ref 248), en P "holds" 542 (.ref 255), en P "is_right_empty" 548 (.ref 260), en P "is_right_pair" 554 (.ref 265), en P "are_right_fields" 567 (.ref 272), en P "may_lack" 573 (.ref 277), en P "are_left_out_alike" 583 (.ref 284), en P "is_right_arm" 593 (.ref 291), en P "is_kept_pair" 599 (.ref 296), en P "is_kept_field" 609 (.ref 303), en P "may_go" 617 (.ref 310), en P "value_as" 628 (.ref 317), en P "_law_tape" 637 (.ref 324), en P "_law_draw" 650 (.ref 331), en P "_law_price" 656 (.ref 336), en P "_law_prices" 667 (.ref 343), en P "_law_light" 676 (.ref 350), en P "_law_word" 682 (.ref 355), en P "_law_names" 688 (.ref 360), en P "_law_plain" 697 (.ref 367), en P "_law_default" 705 (.ref 374), en P "_law_numbers" 711 (.ref 379), en P "_law_parts" 725 (.ref 386), en P "_law_struck" 731 (.ref 391), en P "_law_make" 737 (.ref 396), en P "_law_number_turned" 747 (.ref 403), en P "_law_shape_turned" 753 (.ref 408), en P "_law_fixed" 767 (.ref 415), en P "_law_turned" 779 (.ref 422), en P "_law_bounds" 786 (.ref 429), en P "_law_holds" 795 (.ref 436), en P "_law_alike" 801 (.ref 441), en P "_law_fields_right" 807 (.ref 446), en P "_law_pair_right" 813 (.ref 451), en P "_law_comes" 823 (.ref 458), en P "_law_pair_kept" 829 (.ref 463), en P "_law_is_void" 835 (.ref 468), en P "_law_is_paper" 841 (.ref 473), en P "_law_let_by" 847 (.ref 478), en P "_law_great" 853 (.ref 483), en P "_law_mates" 859 (.ref 488), en P "_law_bent" 865 (.ref 493), en P "_law_codes" 878 (.ref 500), en P "_law_right" 890 (.ref 507), en P "law" 904 (.ref 514)] 100, #[]⟩) ::
 (nat_lit 20,J0 "is_whole" 203 9 3 15 209) ::
 (nat_lit 21,jt "is_whole" 8 20) ::
 (nat_lit 27,J0 "is_item_whole" 212 11 1 22 216) ::
 (nat_lit 28,jt "is_item_whole" 9 27) ::
 (nat_lit 34,J0 "is_number" 219 13 1 29 223) ::
 (nat_lit 35,jt "is_number" 10 34) ::
 (nat_lit 39,Gk "is_text" 226 15 2 36 229) ::
 (nat_lit 40,jt "is_text" 11 39) ::
 (nat_lit 44,Gk "is_name" 232 17 1 41 235) ::
 (nat_lit 45,jt "is_name" 12 44) ::
 (nat_lit 49,Gk "rises" 238 21 1 46 241) ::
 (nat_lit 50,jt "rises" 13 49) ::
 (nat_lit 54,Gk "is_item" 244 23 1 51 247) ::
 (nat_lit 55,jt "is_item" 14 54) ::
 (nat_lit 61,J0 "level_below" 250 32 1 56 256) ::
 (nat_lit 62,jt "level_below" 15 61) ::
 (nat_lit 66,Gk "items_in" 259 37 1 63 262) ::
 (nat_lit 67,jt "items_in" 16 66) ::
 (nat_lit 73,J0 "is_right_outside" 265 45 1 68 269) ::
 (nat_lit 74,jt "is_right_outside" 17 73) ::
 (nat_lit 78,Gk "is_right_behind" 272 51 2 75 275) ::
 (nat_lit 79,jt "is_right_behind" 18 78) ::
 (nat_lit 83,Gk "are_pairs" 278 63 1 80 281) ::
 (nat_lit 84,jt "are_pairs" 19 83) ::
 (nat_lit 88,Gk "are_labels" 284 65 2 85 287) ::
 (nat_lit 89,jt "are_labels" 20 88) ::
 (nat_lit 90,⟨.type "dict",.none,.dict #[en P "whole" 292 (.str "whole" 293),en P "truth" 294 (.str "whole" 295),en P "text" 296 (.str "text" 297),en P "row" 298 (.str "row" 299),en P "map" 300 (.str "map" 301),en P "record" 302 (.str "rec" 303),en P "choice" 304 (.str "arm" 305)] 7, #[]⟩) ::
 (nat_lit 96,J0 "is_single_value" 314 69 2 91 319) ::
 (nat_lit 97,fnB "is_single_value" 23 96) ::
 (nat_lit 103,J0 "item_sort" 322 75 1 98 326) ::
 (nat_lit 104,fnB "item_sort" 24 103) ::
 (nat_lit 110,J0 "bounds_of" 329 77 1 105 333) ::
 (nat_lit 111,fnB "bounds_of" 25 110) ::
 (nat_lit 117,J0 "member_of" 336 79 2 112 342) ::
 (nat_lit 118,fnB "member_of" 26 117) ::
 (nat_lit 124,J0 "may_be_left_out" 345 84 1 119 349) ::
 (nat_lit 125,fnB "may_be_left_out" 27 124) ::
 (nat_lit 131,J0 "form_of" 354 87 2 126 359) ::
 (nat_lit 132,fnC "form_of" 29 131) ::
 (nat_lit 138,J0 "is_form" 362 89 2 133 367) ::
 (nat_lit 139,fnC "is_form" 30 138) ::
 (nat_lit 145,J0 "is_value" 372 92 3 140 378) ::
 (nat_lit 146,fnD "is_value" 32 145) ::
 (nat_lit 152,J0 "is_right_through" 381 94 4 147 391) ::
 (nat_lit 153,fnD "is_right_through" 33 152) ::
 (nat_lit 159,J0 "parts_in" 394 103 3 154 401) ::
 (nat_lit 160,fnD "parts_in" 34 159) ::
 (nat_lit 164,Gk "parts_in_row" 404 114 2 161 407) ::
 (nat_lit 165,fnD "parts_in_row" 35 164) ::
 (nat_lit 169,Gk "parts_in_map" 410 118 2 166 413) ::
 (nat_lit 170,fnD "parts_in_map" 36 169) ::
 (nat_lit 174,Gk "parts_in_record" 416 122 3 171 419) ::
 (nat_lit 175,fnD "parts_in_record" 37 174) ::
 (nat_lit 179,Gk "are_others" 422 129 3 176 425) ::
 (nat_lit 180,fnD "are_others" 38 179) ::
 (nat_lit 186,J0 "parts_in_choice" 428 135 3 181 436) ::
 (nat_lit 187,fnD "parts_in_choice" 39 186) ::
 (nat_lit 191,Gk "written" 441 144 3 188 444) ::
 (nat_lit 192,fnE "written" 41 191) ::
 (nat_lit 196,Gk "written_fields" 447 160 2 193 450) ::
 (nat_lit 197,fnE "written_fields" 42 196) ::
 (nat_lit 203,J0 "tells_alike" 455 163 6 198 466) ::
 (nat_lit 204,fnF "tells_alike" 44 203) ::
 (nat_lit 210,J0 "parts_of_both" 469 173 3 205 480) ::
 (nat_lit 211,fnF "parts_of_both" 45 210) ::
 (nat_lit 215,Gk "parts_of_rows" 483 190 4 212 486) ::
 (nat_lit 216,fnF "parts_of_rows" 46 215) ::
 (nat_lit 220,Gk "parts_of_maps" 489 194 4 217 492) ::
 (nat_lit 221,fnF "parts_of_maps" 47 220) ::
 (nat_lit 225,Gk "parts_of_records" 495 198 5 222 498) ::
 (nat_lit 226,fnF "parts_of_records" 48 225) ::
 (nat_lit 232,J0 "parts_of_choices" 501 208 5 227 511) ::
 (nat_lit 233,fnF "parts_of_choices" 49 232) ::
 (nat_lit 237,Gk "lets_read" 516 217 3 234 519) ::
 (nat_lit 238,xy "lets_read" 51 237) ::
 (nat_lit 242,Gk "lets_keep" 522 223 3 239 525) ::
 (nat_lit 243,xy "lets_keep" 52 242) ::
 (nat_lit 247,Gk "is_paper" 528 225 3 244 531) ::
 (nat_lit 248,xy "is_paper" 53 247) ::
 (nat_lit 254,J0 "holds" 534 231 3 249 540) ::
 (nat_lit 255,xy "holds" 54 254) ::
 (nat_lit 259,Gk "is_right_empty" 543 233 3 256 546) ::
 (nat_lit 260,xy "is_right_empty" 55 259) ::
 (nat_lit 264,Gk "is_right_pair" 549 238 4 261 552) ::
 (nat_lit 265,xy "is_right_pair" 56 264) ::
 (nat_lit 271,J0 "are_right_fields" 555 257 5 266 565) ::
 (nat_lit 272,xy "are_right_fields" 57 271) ::
 (nat_lit 276,Gk "may_lack" 568 266 2 273 571) ::
 (nat_lit 277,xy "may_lack" 58 276) ::
 (nat_lit 283,J0 "are_left_out_alike" 574 268 4 278 581) ::
 (nat_lit 284,xy "are_left_out_alike" 59 283) ::
 (nat_lit 290,J0 "is_right_arm" 584 274 3 285 591) ::
 (nat_lit 291,xy "is_right_arm" 60 290) ::
 (nat_lit 295,Gk "is_kept_pair" 594 279 4 292 597) ::
 (nat_lit 296,xy "is_kept_pair" 61 295) ::
 (nat_lit 302,J0 "is_kept_field" 600 285 4 297 607) ::
 (nat_lit 303,xy "is_kept_field" 62 302) ::
 (nat_lit 309,J0 "may_go" 610 289 2 304 615) ::
 (nat_lit 310,xy "may_go" 63 309) ::
 (nat_lit 316,J0 "value_as" 618 291 2 311 626) ::
 (nat_lit 317,xy "value_as" 64 316) ::
 (nat_lit 323,J0 "_law_tape" 631 303 1 318 635) ::
 (nat_lit 324,Mo "_law_tape" 66 323) ::
 (nat_lit 330,J0 "_law_draw" 638 305 2 325 648) ::
 (nat_lit 331,Mo "_law_draw" 67 330) ::
 (nat_lit 335,Gk "_law_price" 651 323 2 332 654) ::
 (nat_lit 336,Mo "_law_price" 68 335) ::
 (nat_lit 342,J0 "_law_prices" 657 331 1 337 665) ::
 (nat_lit 343,Mo "_law_prices" 69 342) ::
 (nat_lit 349,J0 "_law_light" 668 339 2 344 674) ::
 (nat_lit 350,Mo "_law_light" 70 349) ::
 (nat_lit 354,Gk "_law_word" 677 345 1 351 680) ::
 (nat_lit 355,Mo "_law_word" 71 354) ::
 (nat_lit 359,Gk "_law_names" 683 347 1 356 686) ::
 (nat_lit 360,Mo "_law_names" 72 359) ::
 (nat_lit 366,J0 "_law_plain" 689 351 2 361 695) ::
 (nat_lit 367,Mo "_law_plain" 73 366) ::
 (nat_lit 373,J0 "_law_default" 698 356 2 368 703) ::
 (nat_lit 374,Mo "_law_default" 74 373) ::
 (nat_lit 378,Gk "_law_numbers" 706 364 1 375 709) ::
 (nat_lit 379,Mo "_law_numbers" 75 378) ::
 (nat_lit 385,J0 "_law_parts" 712 367 4 380 723) ::
 (nat_lit 386,Mo "_law_parts" 76 385) ::
 (nat_lit 390,Gk "_law_struck" 726 376 2 387 729) ::
 (nat_lit 391,Mo "_law_struck" 77 390) ::
 (nat_lit 395,Gk "_law_make" 732 379 1 392 735) ::
 (nat_lit 396,Mo "_law_make" 78 395) ::
 (nat_lit 402,J0 "_law_number_turned" 738 397 4 397 745) ::
 (nat_lit 403,Mo "_law_number_turned" 79 402) ::
 (nat_lit 407,Gk "_law_shape_turned" 748 399 3 404 751) ::
 (nat_lit 408,Mo "_law_shape_turned" 80 407) ::
 (nat_lit 414,J0 "_law_fixed" 754 432 2 409 765) ::
 (nat_lit 415,Mo "_law_fixed" 81 414) ::
 (nat_lit 421,J0 "_law_turned" 768 450 2 416 777) ::
 (nat_lit 422,Mo "_law_turned" 82 421) ::
 (nat_lit 428,J0 "_law_bounds" 780 459 1 423 784) ::
 (nat_lit 429,Mo "_law_bounds" 83 428) ::
 (nat_lit 435,J0 "_law_holds" 787 461 3 430 793) ::
 (nat_lit 436,Mo "_law_holds" 84 435) ::
 (nat_lit 440,Gk "_law_alike" 796 463 3 437 799) ::
 (nat_lit 441,Mo "_law_alike" 85 440) ::
 (nat_lit 445,Gk "_law_fields_right" 802 467 5 442 805) ::
 (nat_lit 446,Mo "_law_fields_right" 86 445) ::
 (nat_lit 450,Gk "_law_pair_right" 808 481 5 447 811) ::
 (nat_lit 451,Mo "_law_pair_right" 87 450) ::
 (nat_lit 457,J0 "_law_comes" 814 502 2 452 821) ::
 (nat_lit 458,Mo "_law_comes" 88 457) ::
 (nat_lit 462,Gk "_law_pair_kept" 824 509 5 459 827) ::
 (nat_lit 463,Mo "_law_pair_kept" 89 462) ::
 (nat_lit 467,Gk "_law_is_void" 830 521 2 464 833) ::
 (nat_lit 468,Mo "_law_is_void" 90 467) ::
 (nat_lit 472,Gk "_law_is_paper" 836 525 3 469 839) ::
 (nat_lit 473,Mo "_law_is_paper" 91 472) ::
 (nat_lit 477,Gk "_law_let_by" 842 534 4 474 845) ::
 (nat_lit 478,Mo "_law_let_by" 92 477) ::
 (nat_lit 482,Gk "_law_great" 848 543 3 479 851) ::
 (nat_lit 483,Mo "_law_great" 93 482) ::
 (nat_lit 487,Gk "_law_mates" 854 557 2 484 857) ::
 (nat_lit 488,Mo "_law_mates" 94 487) ::
 (nat_lit 492,Gk "_law_bent" 860 560 4 489 863) ::
 (nat_lit 493,Mo "_law_bent" 95 492) ::
 (nat_lit 499,J0 "_law_codes" 866 583 1 494 876) ::
 (nat_lit 500,Mo "_law_codes" 96 499) ::
 (nat_lit 506,J0 "_law_right" 879 594 3 501 888) ::
 (nat_lit 507,Mo "_law_right" 97 506) ::
 (nat_lit 513,J0 "law" 891 599 1 508 902) ::
 (nat_lit 514,Mo "law" 98 513) ::
 []
def asK:ZS:=[3,20,21,27,28,34,35,39,40,44,45,49,50,54,55,61,62,66,67,73,74,78,79,83,84,88,89,90,96,97,103,104,110,111,117,118,124,125,131,132,138,139,145,146,152,153,159,160,164,165,169,170,174,175,179,180,186,187,191,192,196,197,203,204,210,211,215,216,220,221,225,226,232,233,237,238,242,243,247,248,254,255,259,260,264,265,271,272,276,277,283,284,290,291,295,296,302,303,309,310,316,317,323,324,330,331,335,336,342,343,349,350,354,355,359,360,366,367,373,374,378,379,385,386,390,391,395,396,402,403,407,408,414,415,421,422,428,429,435,436,440,441,445,446,450,451,457,458,462,463,467,468,472,473,477,478,482,483,487,488,492,493,499,500,506,507,513,514]
theorem Oe(P:Params):asK=(heapK P).map (·.1):=by kernel_rfl
noncomputable abbrev Nw:W.Hook:=W.kHook heapK asK Oe
abbrev xtK(s:Shared):Bool:=W.xlAt viewK [] s && W.recOk (W.RowW.records PySem.Challenge.rw_makes_k42_papers_for_keeping.row.toRowW) s
abbrev Xw(w:World):Prop:=(W.openEnds treeTable PySem.Challenge.pw_makes_k42_papers_for_keeping w 5446).map (fun s=>(W.openSeen viewK Y1 (importedModules PySem.Challenge.pw_makes_k42_papers_for_keeping.main.body) xtK true s,Nw.obs s))=some (W.openGood viewK Y1,Nw.val w)
abbrev Uc(s:Shared):=W.openSeen viewK Y1 (importedModules PySem.Challenge.pw_makes_k42_papers_for_keeping.main.body) xtK true s
abbrev wK(w:World)(b:Bool):World:=w.withFollow "special-get-raises" b
theorem chkF(w:World)(os:OsState):((L2.Lr PySem.Challenge.pw_makes_k42_papers_for_keeping 5446 (wK w false) os).map fun s=>L2.c6 PySem.Challenge.pw_makes_k42_papers_for_keeping (wK w false) s.abs)=some true:=by kernel_rfl
theorem chkR(w:World)(os:OsState):((L2.Lr PySem.Challenge.pw_makes_k42_papers_for_keeping 5446 (wK w true) os).map fun s=>L2.c6 PySem.Challenge.pw_makes_k42_papers_for_keeping (wK w true) s.abs)=some true:=by kernel_rfl
theorem seenF1(w:World)(os:OsState):((L2.Lr PySem.Challenge.pw_makes_k42_papers_for_keeping 5446 (wK w false) os).map fun s=>(Uc s.abs).1)=some (W.openGood viewK Y1).1:=by kernel_rfl
theorem seenF2(w:World)(os:OsState):((L2.Lr PySem.Challenge.pw_makes_k42_papers_for_keeping 5446 (wK w false) os).map fun s=>(Uc s.abs).2.1)=some (W.openGood viewK Y1).2.1:=by kernel_rfl
theorem seenF3(w:World)(os:OsState):((L2.Lr PySem.Challenge.pw_makes_k42_papers_for_keeping 5446 (wK w false) os).map fun s=>(Uc s.abs).2.2)=some (W.openGood viewK Y1).2.2:=by kernel_rfl
theorem seenT1(w:World)(os:OsState):((L2.Lr PySem.Challenge.pw_makes_k42_papers_for_keeping 5446 (wK w true) os).map fun s=>(Uc s.abs).1)=some (W.openGood viewK Y1).1:=by kernel_rfl
theorem seenT2(w:World)(os:OsState):((L2.Lr PySem.Challenge.pw_makes_k42_papers_for_keeping 5446 (wK w true) os).map fun s=>(Uc s.abs).2.1)=some (W.openGood viewK Y1).2.1:=by kernel_rfl
theorem seenT3(w:World)(os:OsState):((L2.Lr PySem.Challenge.pw_makes_k42_papers_for_keeping 5446 (wK w true) os).map fun s=>(Uc s.abs).2.2)=some (W.openGood viewK Y1).2.2:=by kernel_rfl
theorem X5{w:World}{os:OsState}(h1:((L2.Lr PySem.Challenge.pw_makes_k42_papers_for_keeping 5446 w os).map fun s=>(Uc s.abs).1)=some (W.openGood viewK Y1).1)(h2:((L2.Lr PySem.Challenge.pw_makes_k42_papers_for_keeping 5446 w os).map fun s=>(Uc s.abs).2.1)=some (W.openGood viewK Y1).2.1)
  (h3:((L2.Lr PySem.Challenge.pw_makes_k42_papers_for_keeping 5446 w os).map fun s=>(Uc s.abs).2.2)=some (W.openGood viewK Y1).2.2):((L2.Lr PySem.Challenge.pw_makes_k42_papers_for_keeping 5446 w os).map fun s=>Uc s.abs)=some (W.openGood viewK Y1):=by
 obtain⟨s,e,c1⟩:=L2.Mf (f:=fun s=>(Uc s).1) h1;obtain⟨s2,e2,c2⟩:=L2.Mf (f:=fun s=>(Uc s).2.1) h2;obtain⟨s3,e3,c3⟩:=L2.Mf (f:=fun s=>(Uc s).2.2) h3;rw[e]at e2 e3;cases e2;cases e3;rw[e];exact congrArg some (Prod.ext c1 (Prod.ext c2 c3))
theorem seenF(w:World)(os:OsState):((L2.Lr PySem.Challenge.pw_makes_k42_papers_for_keeping 5446 (wK w false) os).map fun s=>Uc s.abs)=some (W.openGood viewK Y1):=X5 (seenF1 w os) (seenF2 w os) (seenF3 w os)
theorem seenT(w:World)(os:OsState):((L2.Lr PySem.Challenge.pw_makes_k42_papers_for_keeping 5446 (wK w true) os).map fun s=>Uc s.abs)=some (W.openGood viewK Y1):=X5 (seenT1 w os) (seenT2 w os) (seenT3 w os)
theorem obsF(w:World)(os:OsState):((L2.Lr PySem.Challenge.pw_makes_k42_papers_for_keeping 5446 (wK w false) os).map fun s=>Nw.obs s.abs)=some (Nw.val (wK w false)):=by kernel_rfl
theorem obsT(w:World)(os:OsState):((L2.Lr PySem.Challenge.pw_makes_k42_papers_for_keeping 5446 (wK w true) os).map fun s=>Nw.obs s.abs)=some (Nw.val (wK w true)):=by kernel_rfl
theorem z6(w:World)(h1:∀os,((L2.Lr PySem.Challenge.pw_makes_k42_papers_for_keeping 5446 w os).map fun s=>L2.c6 PySem.Challenge.pw_makes_k42_papers_for_keeping w s.abs)=some true)(h2:∀os,((L2.Lr PySem.Challenge.pw_makes_k42_papers_for_keeping 5446 w os).map fun s=>Uc s.abs)=some (W.openGood viewK Y1))(h3:∀os,((L2.Lr PySem.Challenge.pw_makes_k42_papers_for_keeping 5446 w os).map fun s=>Nw.obs s.abs)=some (Nw.val w)):Xw w:=by
 obtain⟨⟨hp,g,d,k,os⟩,hs,hv⟩:=Y7.mp (W.boot_open (p:=PySem.Challenge.pw_makes_k42_papers_for_keeping) (N:=5446) rfl (by decide) (fun s=>rfl) w);simp only[Prod.mk.injEq]at hv;obtain⟨rfl,rfl,rfl,rfl⟩:=hv;show Option.map _ (Option.bind (W.fencedOpening treeTable PySem.Challenge.pw_makes_k42_papers_for_keeping w 5446) (W.topFrom treeTable PySem.Challenge.pw_makes_k42_papers_for_keeping w 5446))=_;rw[hs];exact L2.top_of (h1 os) (h2 os) (h3 os)
theorem leftF(w:World):Xw (w.withFollow "special-get-raises" false):=z6 _ (chkF w) (seenF w) (obsF w)
theorem leftT(w:World):Xw (w.withFollow "special-get-raises" true):=z6 _ (chkR w) (seenT w) (obsT w)
theorem leftK:W.LeftO PySem.Challenge.pw_makes_k42_papers_for_keeping viewK Y1 xtK Nw.obs Nw.val 5446:=W.byRow2 "special-get-raises" leftF leftT
end K42
namespace PySem.Heap
end PySem.Heap
namespace EnuT
open PySem
section
variable{prog:Program}{w:World}{A:Around}{E:ZQ}{s:Shared}
theorem nextT{it t:Addr}{i:Nat}{its:ZD}{x:Value}{Q:ZQ}(hi:s.heap.IsTupleIter it t i)(ht:s.heap.IsTuple t its)(hx:its[i]?=some x)
  (q:∀h',h'.IsTupleIter it t (i+1)->Heap.SameBut it s.heap h'->Q x { s with heap:=h' }):wpAny (model prog w) A (Builtin.SmallTypes.nextOf (.ref it)) Q E s:=by
 obtain⟨u,hu,hc,hd⟩:=id hi;obtain⟨p,hp,_,n,dp⟩:=ht;unfold Builtin.SmallTypes.nextOf;refine Zy (wpAny_callSpecial?_slot (name:=Str.ofString "__next__") hi.typeIs F.slot_tuple_iterator_next (wpAny_call_entry F.slot_tuple_iterator_next hi.typeIs F.entry_tuple_iterator_next ?_ (F.args_tuple_iterator_next_1 _)));show wpAny _ _ (field (.ref it) 0 >>= _) _ _ s;refine Zy (wpAny_field hu hd (x:=.ref t) rfl ?_);show wpAny _ _ (if (Value.ref t == Value.none)=true then _ else _) _ _ s;rw[if_neg (show ¬ ((Value.ref t == Value.none)=true) from Qv)];show wpAny _ _ (field (.ref it) 1 >>= _) _ _ s;refine Zy (wpAny_field hu hd (x:=.int i 0) rfl ?_);show wpAny _ _ (seqItems? (.ref t) >>= _) _ _ s;refine Zy (wpAny_seqItems hp dp ?_);simp only[XQ,hx];refine Zy (wpAny_setField hu hd (by simp) (Z8 ⟨x,rfl,Z8 (q _ ?_ (Heap.SameBut.update ..))⟩));exact⟨_,Heap.get?_update_self _ hu (Obj.isFreed_of_fields (Obj.data_mapFields hd _)),(Obj.cls_mapFields ..).trans hc,by rw[Obj.data_mapFields hd];simp[rawInt]⟩
theorem endT{it t:Addr}{i:Nat}{its:ZD}{Q:ZQ}(hh:A.handled=none)(hi:s.heap.IsTupleIter it t i)(ht:s.heap.IsTuple t its)(hx:its[i]?=none)
  (q:∀h' e,Heap.ExtBut it s.heap h'->(∃o,h'.get? e=some o/\o.cls=.type "StopIteration")->E (.ref e) { s with heap:=h' }):wpAny (model prog w) A (Builtin.SmallTypes.nextOf (.ref it)) Q E s:=by
 obtain⟨u,hu,hc,hd⟩:=id hi;obtain⟨p,hp,_,n,dp⟩:=ht;unfold Builtin.SmallTypes.nextOf;refine Zy (wpAny_callSpecial?_slot (name:=Str.ofString "__next__") hi.typeIs F.slot_tuple_iterator_next (wpAny_call_entry F.slot_tuple_iterator_next hi.typeIs F.entry_tuple_iterator_next ?_ (F.args_tuple_iterator_next_1 _)));show wpAny _ _ (field (.ref it) 0 >>= _) _ _ s;refine Zy (wpAny_field hu hd (x:=.ref t) rfl ?_);show wpAny _ _ (if (Value.ref t == Value.none)=true then _ else _) _ _ s;rw[if_neg (show ¬ ((Value.ref t == Value.none)=true) from Qv)];show wpAny _ _ (field (.ref it) 1 >>= _) _ _ s;refine Zy (wpAny_field hu hd (x:=.int i 0) rfl ?_);show wpAny _ _ (seqItems? (.ref t) >>= _) _ _ s;refine Zy (wpAny_seqItems hp dp ?_);simp only[XQ,hx];refine Zy (wpAny_rule (Zy (wpAny_setField hu hd (by simp) ?_)));show wpAny _ _ (newExc (.type "StopIteration") [] >>= _) _ _ _;refine Zy ?_;simp only[newExc,newTuple];refine Zy (wpAny_newObj_type ?_ (by size_fits));refine Zy (m:=firstArgMember _ _) (wpAny_of_eq (a:=Value.none) (by first | rfl | (simp only[firstArgMember];rfl)) ?_);refine wpAny_newObj_type ?_ (by size_fits);simp only[raiseNew];refine Zy (wpAny_handled ?_)
 first | rw[show A.in1.handled=none from hh] | rw[hh]
 refine Zy (Z8 (wpAny_throw ?_));exact q _ _ (((Heap.SameBut.update ..).extBut.push _).push _) ⟨_,Mw _ rfl,rfl⟩
end
section
variable{prog:Program}{w:World}{A:Around}{E:ZQ}{s:Shared}
end
end EnuT
namespace ZipT
open PySem
theorem U4{h h':Heap}{b i t:Addr}{k:Nat}(st:h.IsTupleIter i t k)(e:Heap.ExtBut b h h')(n:i≠b):h'.IsTupleIter i t k:=let ⟨o,ho,r⟩:=st;⟨o,e _ _ n ho,r⟩
theorem tupK{h h':Heap}{b t:Addr}{xs:ZD}(st:h.IsTuple t xs)(e:Heap.ExtBut b h h')(n:t≠b):h'.IsTuple t xs:=let ⟨o,ho,r⟩:=st;⟨o,e _ _ n ho,r⟩
section
variable{prog:Program}{w:World}{A:Around}{E:ZQ}{s:Shared}{z TI TO i1 i2 t1 t2:Addr}{k:Nat}{xs ys:ZD}{x y a b:Value}
theorem itemT{Q:ZQ}(D:ZipApart z TI TO i1 i2 t1 t2)(hz:IsZip s.heap z TI TO .none)(hI:IsPair s.heap TI (.ref i1) (.ref i2))(hO:IsPair s.heap TO a b)(j1:s.heap.IsTupleIter i1 t1 k)(j2:s.heap.IsTupleIter i2 t2 k)(p1:s.heap.IsTuple t1 xs)(p2:s.heap.IsTuple t2 ys)(hx:xs[k]?=some x)(hy:ys[k]?=some y)
  (q:∀h',IsZip h' z TI TO (rawInt s.heap.objs.size)->IsPair h' TO x y->h'.IsTupleIter i1 t1 (k+1)->h'.IsTupleIter i2 t2 (k+1)->IsPair h' s.heap.objs.size x y->h'.objs.size=s.heap.objs.size+1->(∀c o,c≠z->c≠TO->c≠i1->c≠i2->s.heap.get? c=some o->h'.get? c=some o)->Q (.ref s.heap.objs.size) { s with heap:=h' }) :
  wpAny (model prog w) A (Builtin.«zip.__next__» ⟨[.ref z],[]⟩) (fun fin s'=>∃v,fin=.done (.ret v)/\Q v s') E s:=by
 show wpAny _ _ (field (.ref z) 2 >>= _) _ _ _;refine Zy (wpAny_field hz rfl (x:=.bool false) rfl ?_);show wpAny _ _ (field (.ref z) 3 >>= _) _ _ _;refine Zy (wpAny_field hz rfl (x:=.ref TI) rfl (Zy (wpAny_seqItems hI rfl ?_)));show wpAny _ _ (Builtin.SmallTypes.ownedTupleIsFree (.ref z) >>= _) _ _ _;refine Zy ?_;unfold Builtin.SmallTypes.ownedTupleIsFree;refine Zy (wpAny_field hz rfl (x:=.none) rfl (Z8 ?_));simp only[if_true];refine Zy (wpAny_rule (Zy (wpAny_field hz rfl (x:=.ref TO) rfl ?_)));refine Zy (wpAny_setField_rec hz (by simp) fun g1 wy e1=>?_);replace wy:IsZip g1 z TI TO .ellipsis:=wy;refine Zy ?_;simp only[List.zipIdx_cons,List.zipIdx_nil,List.forIn_cons,List.forIn_nil];refine Zy (Zy (wpAny_onRaise ?_));show wpAny _ _ (Builtin.SmallTypes.nextOf (.ref i1) >>= _) _ _ _;refine Zy (EnuT.nextT (U4 j1 e1.extBut D.i1z) (tupK p1 e1.extBut D.l1z) hx fun g2 j12 e2=>Z8 ?_);have hO2:IsPair g2 TO a b:=e2.extBut _ _ D.TOi1 (e1.extBut _ _ D.TOz hO);refine Zy (wpAny_seqItems hO2 rfl (Zy (wpAny_updateSeq_pair hO2 fun g3 hO3 e3=>?_)));replace hO3:IsPair g3 TO x b:=hO3;refine Zy (wpAny_letGo (Z8 (Zy (Zy (wpAny_onRaise ?_)))));show wpAny _ _ (Builtin.SmallTypes.nextOf (.ref i2) >>= _) _ _ _;refine Zy (EnuT.nextT (U4 (U4 (U4 j2 e1.extBut D.i2z) e2.extBut D.i12.symm) e3.extBut D.TOi2.symm) (tupK (tupK (tupK p2 e1.extBut D.l2z) e2.extBut D.l2i1) e3.extBut D.l2TO) hy fun g4 j24 e4=>Z8 ?_);have hO4:IsPair g4 TO x b:=e4.extBut _ _ D.TOi2 hO3;refine Zy (wpAny_seqItems hO4 rfl (Zy (wpAny_updateSeq_pair hO4 fun g5 hO5 e5=>?_)));replace hO5:IsPair g5 TO x y:=hO5;refine Zy (wpAny_letGo (Z8 (Z8 (Zy (wpAny_seqItems hO5 rfl (Zy (wpAny_newTuple ?_)))))));have sz:g5.objs.size=s.heap.objs.size:=by rw[e5.1,e4.1,e3.1,e2.1,e1.1]
 have hz5:IsZip g5 z TI TO .ellipsis:=e5.extBut _ _ D.TOz.symm (e4.extBut _ _ D.i2z.symm (e3.extBut _ _ D.TOz.symm (e2.extBut _ _ D.i1z.symm wy)));have kp:∀c o,c≠z->c≠TO->c≠i1->c≠i2->s.heap.get? c=some o->g5.get? c=some o:=fun c o c1 c2 c3 c4 e=>e5.extBut _ _ c2 (e4.extBut _ _ c4 (e3.extBut _ _ c2 (e2.extBut _ _ c3 (e1.extBut _ _ c1 e))));have j15:g5.IsTupleIter i1 t1 (k+1):=U4 (U4 (U4 j12 e3.extBut D.TOi1.symm) e4.extBut D.i12) e5.extBut D.TOi1.symm;have j25:g5.IsTupleIter i2 t2 (k+1):=U4 j24 e5.extBut D.TOi2.symm;have zl:z<g5.objs.size:=Mv hz5;show wpAny _ _ (Builtin.SmallTypes.ownedTupleHandOut (.ref z) (.ref g5.objs.size) >>= _) _ _ _;refine Zy ?_;unfold Builtin.SmallTypes.ownedTupleHandOut;have hz6:IsZip (g5.push { cls:=.type "tuple",data:=.seq #[x,y] }) z TI TO .ellipsis:=Vn _ hz5;refine Zy (wpAny_setField_rec hz6 (by simp) fun g7 hz7 e7=>?_);replace hz7:IsZip g7 z TI TO (rawInt g5.objs.size):=hz7;refine wpAny_setField_rec hz7 (by simp) fun g8 hz8 e8=>?_;replace hz8:IsZip g8 z TI TO (rawInt g5.objs.size):=hz8;have up:∀c o,c≠z->g5.get? c=some o->g8.get? c=some o:=fun c o c1 e=>e8.extBut _ _ c1 (e7.extBut _ _ c1 (Vn _ e));have hT8:IsPair g8 g5.objs.size x y:=e8.extBut _ _ (Nat.ne_of_gt zl) (e7.extBut _ _ (Nat.ne_of_gt zl) (Mw _ rfl));have sz8:g8.objs.size=g5.objs.size+1:=by rw[e8.1,e7.1,Heap.size_push]
 rw[sz]at hz8 hT8 sz8;refine Z8 ⟨_,rfl, ?_⟩;show Q (.ref g5.objs.size) _;rw[sz];exact q g8 hz8 (up _ _ D.TOz hO5) (let ⟨o,ho,r⟩:=j15;⟨o,up _ _ D.i1z ho,r⟩) (let ⟨o,ho,r⟩:=j25;⟨o,up _ _ D.i2z ho,r⟩) hT8 sz8 fun c o c1 c2 c3 c4 e=>up c o c1 (kp c o c1 c2 c3 c4 e)
theorem endT{Q:Fin->Shared->Prop}(hh:A.handled=none)(D:ZipApart z TI TO i1 i2 t1 t2)(hz:IsZip s.heap z TI TO .none)(hI:IsPair s.heap TI (.ref i1) (.ref i2))(hO:IsPair s.heap TO a b)(j1:s.heap.IsTupleIter i1 t1 k)(j2:s.heap.IsTupleIter i2 t2 k)(p1:s.heap.IsTuple t1 xs)(p2:s.heap.IsTuple t2 ys)(tv:xs[k]?=none\/ys[k]?=none)
  (q:∀h' e,(∀c o,c≠z->c≠TO->c≠i1->c≠i2->s.heap.get? c=some o->h'.get? c=some o)->(∃o,h'.get? e=some o/\o.cls=.type "StopIteration")->E (.ref e) { s with heap:=h' }) :
  wpAny (model prog w) A (Builtin.«zip.__next__» ⟨[.ref z],[]⟩) Q E s:=by
 show wpAny _ _ (field (.ref z) 2 >>= _) _ _ _;refine Zy (wpAny_field hz rfl (x:=.bool false) rfl ?_);show wpAny _ _ (field (.ref z) 3 >>= _) _ _ _;refine Zy (wpAny_field hz rfl (x:=.ref TI) rfl (Zy (wpAny_seqItems hI rfl ?_)));show wpAny _ _ (Builtin.SmallTypes.ownedTupleIsFree (.ref z) >>= _) _ _ _;refine Zy ?_;unfold Builtin.SmallTypes.ownedTupleIsFree;refine Zy (wpAny_field hz rfl (x:=.none) rfl (Z8 ?_));simp only[if_true];refine Zy (wpAny_rule (Zy (wpAny_field hz rfl (x:=.ref TO) rfl ?_)));refine Zy (wpAny_setField_rec hz (by simp) fun g1 wy e1=>?_);replace wy:IsZip g1 z TI TO .ellipsis:=wy;refine Zy ?_;simp only[List.zipIdx_cons,List.zipIdx_nil,List.forIn_cons,List.forIn_nil];refine Zy (Zy (wpAny_onRaise ?_));show wpAny _ _ (Builtin.SmallTypes.nextOf (.ref i1) >>= _) _ _ _;cases hx:xs[k]? with
 | none =>
  refine Zy (EnuT.endT hh (U4 j1 e1.extBut D.i1z) (tupK p1 e1.extBut D.l1z) hx fun g2 e e2 he=>?_);obtain⟨oe,hoe,hce⟩:=he;have hz2:IsZip g2 z TI TO .ellipsis:=e2 _ _ D.i1z.symm wy;have ez:e≠z:=fun v=>by subst v;rw[hz2]at hoe;cases hoe;simp at hce
  exact wpAny_setField_rec hz2 (by simp) fun g3 _ e3=>q g3 e (fun c o c1 _ c3 _ v=>e3.extBut _ _ c1 (e2 _ _ c3 (e1.extBut _ _ c1 v))) ⟨oe,e3.extBut _ _ ez hoe,hce⟩
 | some x =>
  have hy:ys[k]?=none:=by rcases tv with h | h;rw[hx]at h;cases h;exact h
  refine Zy (EnuT.nextT (U4 j1 e1.extBut D.i1z) (tupK p1 e1.extBut D.l1z) hx fun g2 j12 e2=>Z8 ?_);have hO2:IsPair g2 TO a b:=e2.extBut _ _ D.TOi1 (e1.extBut _ _ D.TOz hO);refine Zy (wpAny_seqItems hO2 rfl (Zy (wpAny_updateSeq_pair hO2 fun g3 hO3 e3=>?_)));refine Zy (wpAny_letGo (Z8 (Zy (Zy (wpAny_onRaise ?_)))));show wpAny _ _ (Builtin.SmallTypes.nextOf (.ref i2) >>= _) _ _ _;refine Zy (EnuT.endT hh (U4 (U4 (U4 j2 e1.extBut D.i2z) e2.extBut D.i12.symm) e3.extBut D.TOi2.symm) (tupK (tupK (tupK p2 e1.extBut D.l2z) e2.extBut D.l2i1) e3.extBut D.l2TO) hy fun g4 e e4 he=>?_);obtain⟨oe,hoe,hce⟩:=he;have hz4:IsZip g4 z TI TO .ellipsis:=e4 _ _ D.i2z.symm (e3.extBut _ _ D.TOz.symm (e2.extBut _ _ D.i1z.symm wy));have ez:e≠z:=fun v=>by subst v;rw[hz4]at hoe;cases hoe;simp at hce
  exact wpAny_setField_rec hz4 (by simp) fun g5 _ e5=>q g5 e (fun c o c1 c2 c3 c4 v=>e5.extBut _ _ c1 (e4 _ _ c4 (e3.extBut _ _ c2 (e2.extBut _ _ c3 (e1.extBut _ _ c1 v))))) ⟨oe,e5.extBut _ _ ez hoe,hce⟩
theorem bx{Q:ZF->Shared->Prop}(D:ZipApart z TI TO i1 i2 t1 t2)(hz:IsZip s.heap z TI TO .none)(hI:IsPair s.heap TI (.ref i1) (.ref i2))(hO:IsPair s.heap TO a b)(j1:s.heap.IsTupleIter i1 t1 k)(j2:s.heap.IsTupleIter i2 t2 k)(p1:s.heap.IsTuple t1 xs)(p2:s.heap.IsTuple t2 ys)(hx:xs[k]?=some x)(hy:ys[k]?=some y)
  (q:∀h',IsZip h' z TI TO (rawInt s.heap.objs.size)->IsPair h' TO x y->h'.IsTupleIter i1 t1 (k+1)->h'.IsTupleIter i2 t2 (k+1)->IsPair h' s.heap.objs.size x y->h'.objs.size=s.heap.objs.size+1->(∀c o,c≠z->c≠TO->c≠i1->c≠i2->s.heap.get? c=some o->h'.get? c=some o)->Q (some (.ref s.heap.objs.size)) { s with heap:=h' }) :
  wpAny (model prog w) A (pyNext (.ref z)) Q E s:=by
 have T:s.TypeIs (.ref z) "zip" := ⟨_,hz,rfl⟩;unfold pyNext;exact Zy (wpAny_attempt (wpAny_callSpecial?_slot (name:=Str.ofString "__next__") T F.slot_zip_next (wpAny_call_entry F.slot_zip_next T F.entry_zip_next (itemT D hz hI hO j1 j2 p1 p2 hx hy fun h' a1 a2 a3 a4 a5 a6 a7=>Z8 (q h' a1 a2 a3 a4 a5 a6 a7)) (F.args_zip_next_1 _))))
theorem ox{Q:ZF->Shared->Prop}(hh:A.handled=none)(D:ZipApart z TI TO i1 i2 t1 t2)(hz:IsZip s.heap z TI TO .none)(hI:IsPair s.heap TI (.ref i1) (.ref i2))(hO:IsPair s.heap TO a b)(j1:s.heap.IsTupleIter i1 t1 k)(j2:s.heap.IsTupleIter i2 t2 k)(p1:s.heap.IsTuple t1 xs)(p2:s.heap.IsTuple t2 ys)(tv:xs[k]?=none\/ys[k]?=none)
  (q:∀h',(∀c o,c≠z->c≠TO->c≠i1->c≠i2->s.heap.get? c=some o->h'.get? c=some o)->Q none { s with heap:=h' }):wpAny (model prog w) A (pyNext (.ref z)) Q E s:=by
 have T:s.TypeIs (.ref z) "zip" := ⟨_,hz,rfl⟩;unfold pyNext;refine Zy (wpAny_attempt (wpAny_callSpecial?_slot (name:=Str.ofString "__next__") T F.slot_zip_next (wpAny_call_entry F.slot_zip_next T F.entry_zip_next (endT hh D hz hI hO j1 j2 p1 p2 tv fun h' e hk he=>?_) (F.args_zip_next_1 _))));obtain⟨o,ho,hc⟩:=he;exact Zy (wpAny_isInstance (T:="StopIteration") (b:=true) ⟨o,ho,hc⟩ isSubtype_stop (Z8 (q _ hk)))
end
noncomputable abbrev H1(h:Heap)(l1:Addr):Heap:=h.push { cls:=.type "tuple_iterator",data:=.fields #[.ref l1,.int 0 0] }
noncomputable abbrev H2(h:Heap)(l1 l2:Addr):Heap:=(H1 h l1).push { cls:=.type "tuple_iterator",data:=.fields #[.ref l2,.int 0 0] }
noncomputable abbrev H3(h:Heap)(l1 l2:Addr):Heap:=(H2 h l1 l2).push { cls:=.type "tuple",data:=.seq #[.ref h.objs.size,.ref (H1 h l1).objs.size] }
noncomputable abbrev H4(h:Heap)(l1 l2:Addr):Heap:=(H3 h l1 l2).push { cls:=.type "tuple",data:=.seq #[.none,.none] }
noncomputable abbrev H5(h:Heap)(l1 l2:Addr):Heap:=(H4 h l1 l2).push { cls:=.type "zip",data:=.fields #[.none,.bool false,.bool false,.ref (H2 h l1 l2).objs.size,.ref (H3 h l1 l2).objs.size] }
theorem meets(l1 l2:Addr)(xs ys:ZD) :
  Meets (Builtin.«zip.__new__» ⟨[.type "zip",.ref l1,.ref l2],[]⟩) (fun _ R s=>s.heap.IsTuple l1 xs/\s.heap.IsTuple l2 ys /\
   R (.ok (.ret (.ref (H4 s.heap l1 l2).objs.size))) { s with heap:=H5 s.heap l1 l2 }) :=
 .of_wp fun prog w A R s h=>by
  obtain⟨hp,g,d,tk,os⟩:=s;obtain⟨hl1,hl2,h⟩:=h;have hsub:=sub_zip;have hL1:Heap.IsTuple (Shared.heap ⟨hp,g,d,tk,os⟩) l1 xs:=hl1;have hL2:Heap.IsTuple (Shared.heap ⟨hp.push { cls:=.type "tuple_iterator",data:=.fields #[.ref l1,.int 0 0] },g,d,tk,os⟩) l2 ys:=let ⟨o,ho,r⟩:=hl2;⟨o,Vn _ ho,r⟩
  wp_walk using wpAny_pyIter_tuple hL1,wpAny_pyIter_tuple hL2
  exact⟨_,rfl,h⟩
theorem call2{prog:Program}{w:World}{A:Around}{E:ZQ}{s:Shared}{l1 l2:Addr}{xs ys:ZD}{Q:ZQ}(hl1:s.heap.IsTuple l1 xs)(hl2:s.heap.IsTuple l2 ys)
  (h:∀h',IsZip h' (s.heap.objs.size+4) (s.heap.objs.size+2) (s.heap.objs.size+3) .none->IsPair h' (s.heap.objs.size+2) (.ref s.heap.objs.size) (.ref (s.heap.objs.size+1)) ->
   IsPair h' (s.heap.objs.size+3) .none .none->h'.IsTupleIter s.heap.objs.size l1 0->h'.IsTupleIter (s.heap.objs.size+1) l2 0->h'.objs.size=s.heap.objs.size+5 ->
   (∀c o,s.heap.get? c=some o->h'.get? c=some o)->Q (.ref (s.heap.objs.size+4)) { s with heap:=h' }) :
  wpAny (model prog w) A (call (.type "zip") [.ref l1,.ref l2]) Q E s:=by
 refine callType_new F.called_zip (by decide) (F.typeCall_zip_2 _ _) (F.newCall_zip_2 _ _) (fun obj=>F.args_object_init_3 obj _ _) F.entry_zip_new (meets l1 l2 xs ys) ⟨hl1,hl2, ?_⟩;have z1:(H1 s.heap l1).objs.size=s.heap.objs.size+1:=Heap.size_push ..;have z2:(H2 s.heap l1 l2).objs.size=s.heap.objs.size+2:=by rw[Heap.size_push,z1]
 have z3:(H3 s.heap l1 l2).objs.size=s.heap.objs.size+3:=by rw[Heap.size_push,z2]
 have z4:(H4 s.heap l1 l2).objs.size=s.heap.objs.size+4:=by rw[Heap.size_push,z3]
 have z5:(H5 s.heap l1 l2).objs.size=s.heap.objs.size+5:=by rw[Heap.size_push,z4]
 have g5:(H5 s.heap l1 l2).get? (H4 s.heap l1 l2).objs.size=some _:=Mw _ rfl;have g4:(H5 s.heap l1 l2).get? (H3 s.heap l1 l2).objs.size=some _:=Vn _ (Mw _ rfl);have g3:(H5 s.heap l1 l2).get? (H2 s.heap l1 l2).objs.size=some _:=Vn _ (Vn _ (Mw _ rfl));have g2:(H5 s.heap l1 l2).get? (H1 s.heap l1).objs.size=some _:=Vn _ (Vn _ (Vn _ (Mw _ rfl)));have g1:(H5 s.heap l1 l2).get? s.heap.objs.size=some _:=Vn _ (Vn _ (Vn _ (Vn _ (Mw _ rfl))));show _/\_;rw[z2,z3,z4]at g5;rw[z1,z2]at g3;rw[z3]at g4;rw[z1]at g2;rw[z4]
 exact⟨⟨_,g5,rfl⟩,h _ g5 g3 g4 ⟨_,g1,rfl,rfl⟩ ⟨_,g2,rfl,rfl⟩ z5 fun c o x =>
  Vn _ (Vn _ (Vn _ (Vn _ (Vn _ x))))⟩
end ZipT
namespace EX
open PySem
structure xo(l:List Env)(e T:Addr)(oe:Obj)(h h':Heap):Prop where
 keep:∀b o,b≠e->b ∉ l.filterMap (·.frame)->h.get? b=some o->h'.get? b=some o
 slot:∀b o,b≠e->h.get? b=some o->∃sl,h'.get? b=some { o with slots:=sl }
 exc:h'.get? e=some (oe.mapFields (·.setIfInBounds 1 (.ref T)))
 new:h.objs.size<=T
 tb:∃oT ts,h'.get? T=some oT/\oT.data=.fields ts/\3<ts.size
section
variable{M:Model}{A:Around}{E:ZQ}{s:Shared}{env:Env}{outer:List Env}{base:Heap}{L e T:Addr}{oe:Obj}{vs:ZD}{Q:ZH}
theorem Qz(hl:s.heap.FunFrames base (env::outer))(he:s.heap.get? e=some oe)(hd:oe.data=.fields vs):e ∉ (env::outer).filterMap (·.frame):=fun hm=>by
 obtain⟨_,o,ho,hn⟩:=hl.mem hm;rw[he]at ho;cases ho;exact hn vs hd
theorem fk(Nl:A.frames=some (env::outer))(hl:s.heap.FunFrames base (env::outer))(hf:env.frame=some L)
  (he:s.heap.get? e=some oe) (hd:oe.data=.fields vs) (h1:vs[1]?=some .none)
  (h:∀h' T,xo (env::outer) e T oe s.heap h'->Q () { s with heap:=h' }):wpAny M A (noteFrame (.ref e) env) Q E s:=by
 have hz:1<vs.size:=(Array.getElem?_eq_some_iff.mp h1).1;have hne:=Qz hl he hd;unfold noteFrame;simp only[hf];refine Zy (wpAny_field he hd h1 ?_);rw[if_neg (by decide)];refine Zy (wpAny_frameOf_fun Nl hl hf fun h₁ sl=>Zy (wpAny_entryPlaceOf fun pl hpl=>?_));unfold EntryCells.newEntry newFields;refine Zy (wpAny_newObj_type ?_ (hpl.sizeOk5 _ _ _ _ _));have e1:h₁.get? e=some oe:=(sl.2.1 e hne).trans he;have z1:h₁.objs.size=s.heap.objs.size:=sl.1;refine wpAny_setField (Vn _ e1) hd hz (h _ h₁.objs.size ⟨fun b o hb hn q=>?_,fun b o hb q=>?_, ?_,Nat.le_of_eq z1.symm, ?_⟩)
 .exact(Heap.get?_update_other _ _ (Ne.symm hb)).trans (Vn _ ((sl.2.1 b hn).trans q))
 .obtain⟨x,q'⟩:=sl.2.2 b o q;exact⟨x,(Heap.get?_update_other _ _ (Ne.symm hb)).trans (Vn _ q')⟩
 .exact Heap.get?_update_self _ (Vn _ e1) (Obj.isFreed_of_fields (Obj.data_mapFields hd _))
 .refine⟨_,_,(Heap.get?_update_other _ _ (Fb (Mv e1))).trans (Mw h₁ rfl),rfl, ?_⟩;simp only[Ul,Nb,M5,List.length_nil];omega
end
section
variable{M:Model}{A:Around}{E:ZQ}{s:Shared}{env:Env}
end
section
variable{M:Model}{A:Around}{E:ZQ}{s:Shared}{env:Env}
end
section
variable{prog:Program}{w:World}{A:Around}{E:ZQ}{s:Shared}{env:Env}
end
end EX
namespace DicP2
open PySem PySem.Spec PyProof.Rows
noncomputable def Zqx(t:Value):Obj:={ cls:=.type "AttributeError",data:=.fields #[t,.none,.none,.none,.bool false,.none,unsetMember,unsetMember] }
theorem nst:((Manifest.find? "AttributeError").elim false fun t=>t.mro.contains "StopIteration" || t.mro.contains "SystemExit")=false:=by decide +kernel
theorem newAE{prog:Program}{w:World}{A:Around}{E:ZQ}{s:Shared}{v:Value}{Q:ZQ}
  (hq:∀h' e t,(∀b u,s.heap.get? b=some u->h'.get? b=some u)->h'.get? e=some (Zqx t)->s.heap.get? e=none->Q (.ref e) { s with heap:=h' }):wpAny (model prog w) A (newExc (.type "AttributeError") [v]) Q E s:=by
 obtain⟨h,g,d,t,os⟩:=s;simp only[newExc,newTuple]
 wp_walk
 have e:(#[Value.ref h.objs.size,Value.none,Value.none,Value.none,Value.bool false,if ((Manifest.find? "AttributeError").elim false fun t=>t.mro.contains "StopIteration" || t.mro.contains "SystemExit")=true then [v].headD Value.none else Value.none]++ownMembersOf (Value.type "AttributeError") [v])=#[.ref h.objs.size,.none,.none,.none,.bool false,.none,unsetMember,unsetMember]:=by
  rw[nst];rfl
 rw[e];refine hq _ _ (.ref h.objs.size) (fun b u q=>Vn _ (Vn _ q)) (Mw _ rfl) ?_;cases z:h.get? (h.push { cls:=Value.type "tuple",data:=Data.seq #[v] }).objs.size with
 | none=>rfl
 | some o =>
  have:=Mv z;rw[Heap.size_push]at this;exact absurd this (Nat.not_lt.mpr (Nat.le_succ _))
theorem note{prog:Program}{w:World}{A:Around}{E:ZQ}{s:Shared}{e:Addr}{t o nm:Value}{Q:ZH}(he:s.heap.get? e=some (Zqx t))
  (hq:∀h' d,Heap.SameBut e s.heap h'->h'.get? e=some { cls:=.type "AttributeError",data:=d }->Q () { s with heap:=h' }):wpAny (model prog w) A (noteAttr (.ref e) o nm) Q E s:=by
 unfold noteAttr;simp only[];unfold lacksNameAndObj;simp only[];refine Zy (Zy (wpAny_isInstance (T:="AttributeError") (b:=true) ⟨_,he,rfl⟩ (by rw[isSubtype_type];kernel_rfl) ?_));simp only[Bool.not_true,B0f,if_false];refine Zy (wpAny_load he ?_);show wpAny _ _ (pure true) _ _ _;refine Z8 ?_;simp only[if_true];refine Zy (wpAny_rule (Zy (wpAny_typeOf (T:="AttributeError") ⟨_,he,rfl⟩ ?_)));refine wpAny_layMembers he rfl ?_;refine hq _ _ ⟨Heap.size_update _ _ _,fun b hb=>Heap.get?_update_other _ _ (Ne.symm hb)⟩ (Heap.get?_update_self _ he rfl)
theorem tl1:typeLookup (.type "tuple") (Str.ofString "__getattribute__")=pure (some (.builtin "tuple.__getattribute__")):=by rw[typeLookup_type,builtinLookup_eq_fast];kernel_rfl
theorem tl2:typeLookup (.type "tuple") (Str.ofString "keys")=pure none:=by rw[typeLookup_type,builtinLookup_eq_fast];kernel_rfl
theorem tl3:typeLookup (.type "tuple") (Str.ofString "__getattr__")=pure none:=by rw[typeLookup_type,builtinLookup_eq_fast];kernel_rfl
theorem slot_ga:Slot "tuple" (Str.ofString "__getattribute__") "tuple.__getattribute__" := Slot.of (owner:="tuple") (n:="__getattribute__") tl1 (by decide +kernel) (by decide +kernel) (by decide +kernel) (.inl (by decide +kernel)) (by rw[isSubtype_type];kernel_rfl)
theorem hb0:hookBefore (.type "tuple")=pure none:=rfl
theorem Wt:entryFor table "dict.update.loop" = some Builtin.«dict.update.loop»:=entryFor_of_tree (by kernel_rfl)
theorem Gh:plainId "dict.update.loop" = true:=by decide +kernel
section
variable{prog:Program}{w:World}{K:Type}[DecidableEq K]{knd:PySem.KeyKind prog w K}
def Prs(knd:PySem.KeyKind prog w K)(h:Heap)(its:ZD)(rs:List (K×Value)):Prop :=
 its.size=rs.length/\∀(j:Nat) (k:K) (v:Value),rs[j]?=some (k,v)->∃p u,its[j]?=some (.ref p)/\IsTup h p #[u,v]/\knd.is k u=true
noncomputable def stK(rs:List (K×Value))(i:Nat):List (K×Value):=(rs.take i).foldl (fun acc kv=>stored acc kv.1 kv.2) []
theorem Hu(XY:List (K×Value))(k:K)(v:Value):(stored XY k v).length<=XY.length+1:=by
 unfold stored
 split
 .rw[Y9];omega
 .rw[Nb];simp
theorem Sb{rs:List (K×Value)}{i:Nat}{k:K}{v:Value}(h:rs[i]?=some (k,v)):stK rs (i+1)=stored (stK rs i) k v:=by
 unfold stK;rw[List.take_succ,h];simp
theorem Qn(rs:List (K×Value)):∀i,(stK rs i).length<=i
 | 0=>by simp[stK]
 | i+1=>by
  cases h:rs[i]? with
  | none =>
   have:=Qn rs i;unfold stK at this ⊢;rw[List.take_succ,h];simp only[Option.toList_none,ZE];omega
  | some p =>
   obtain⟨k,v⟩:=p;rw[Sb h];have:=Qn rs i;have:=Hu (stK rs i) k v;omega
variable{A:Around}{R:Result->Shared->Prop}{E:ZQ}{s:Shared}{d it t:Addr}{its:ZD}{rs:List (K×Value)}
end
end DicP2
namespace DicL
open PySem PySem.Spec PyProof.Rows
open DicP2
theorem tl1:typeLookup (.type "list") (Str.ofString "__getattribute__")=pure (some (.builtin "list.__getattribute__")):=by rw[typeLookup_type,builtinLookup_eq_fast];kernel_rfl
theorem tl2:typeLookup (.type "list") (Str.ofString "keys")=pure none:=by rw[typeLookup_type,builtinLookup_eq_fast];kernel_rfl
theorem tl3:typeLookup (.type "list") (Str.ofString "__getattr__")=pure none:=by rw[typeLookup_type,builtinLookup_eq_fast];kernel_rfl
theorem slot_ga:Slot "list" (Str.ofString "__getattribute__") "list.__getattribute__" := Slot.of (owner:="list") (n:="__getattribute__") tl1 (by decide +kernel) (by decide +kernel) (by decide +kernel) (.inl (by decide +kernel)) (by rw[isSubtype_type];kernel_rfl)
theorem cz:entryFor table "list.__getattribute__" = some Builtin.«object.__getattribute__»:=entryFor_alias (id':="object.__getattribute__") (by kernel_rfl) rfl (by decide +kernel) (by kernel_rfl)
theorem Zz1(a b:Value):argsOk "list.__getattribute__" ⟨[a,b],[]⟩:=by unfold argsOk;kernel_rfl
theorem Zzj{prog:Program}{w:World}{A:Around}{E:ZQ}{s:Shared}{u:Nat}{a:Addr}{its:ZD}{n:Nat}{sl:ZY}{Q:PySem.Fin->Shared->Prop}(hh:A.handled=none)(ho:s.heap.get? a=some ⟨.type "list",none,.seq its n,sl⟩)
  (hq:∀e h' t',(∃o,h'.get? e=some o/\o.cls=.type "AttributeError")->(∀b u,s.heap.get? b=some u->h'.get? b=some u)->E (.ref e) { s with heap:=h',toks:=t' }):wpAny (model prog w) A (Builtin.«object.__getattribute__» ⟨[.ref a,.str (Str.ofString "keys") u],[]⟩) Q E s:=by
 obtain⟨h,g,d,t,os⟩:=s;have ho:h.get? a=some ⟨.type "list",none,.seq its n,sl⟩:=ho;unfold Builtin.«object.__getattribute__»
 wp_walk
 show wpAny _ _ (typeLookup (.type "list") _) _ _ _;rw[tl2]
 wp_walk
 have hl:(Str.ofString (toString "'" ++ toString ((Manifest.find? "list").elim "list" fun x=>x.tpName)++toString "' object has no attribute '")++Str.ofString "keys" ++ Str.ofString "'").length<=sizeLine:=by decide +kernel
 generalize (Str.ofString (toString "'" ++ toString ((Manifest.find? "list").elim "list" fun x=>x.tpName)++toString "' object has no attribute '")++Str.ofString "keys" ++ Str.ofString "'")=msg at hl ⊢;unfold raiseAttrError;refine Zy (wpAny_mkStr ?_ hl);refine Zy (newAE fun h1 e t1 k1 e1 n1=>?_);refine Zy (wpAny_mkText ?_);refine Zy (note e1 fun h2 d2 sb e2=>?_);refine wpAny_raiseNew_none hh (hq e h2 _ ⟨_,e2,rfl⟩ fun b u q=>?_);refine(sb.2 b fun z=>?_).trans (k1 b u q);rw[z]at q;rw[show h.get? e=none from n1]at q;cases q
theorem hb0:hookBefore (.type "list")=pure none:=rfl
theorem q8{prog:Program}{w:World}{A:Around}{E:ZQ}{s:Shared}{a:Addr}{its:ZD}{n:Nat}{sl:ZY}{Q:ZF->Shared->Prop}(hh:A.handled=none)(ho:s.heap.get? a=some ⟨.type "list",none,.seq its n,sl⟩)
  (hq:∀h' t',(∀b u,s.heap.get? b=some u->h'.get? b=some u)->Q none { s with heap:=h',toks:=t' }):wpAny (model prog w) A (getAttr? (.ref a) (Str.ofString "keys")) Q E s:=by
 obtain⟨h,g,d,t,os⟩:=s;have ho:h.get? a=some ⟨.type "list",none,.seq its n,sl⟩:=ho;unfold getAttr?;refine Zy (wpAny_mkText ?_);unfold getAttrBy?;refine Zy (wpAny_attempt ?_);unfold getAttrBy;refine wpAny_holding ?_;have ht:Shared.TypeIs ⟨h,g,d,t+1,os⟩ (.ref a) "list" := ⟨_,ho,rfl⟩;refine Zy (wpAny_typeOf ht ?_);rw[tl1];refine Zy (Z8 ?_);simp only[];refine wpAny_ite_split (fun z=>absurd z (by decide)) fun _=>?_;unfold getAttrByItsOwn;rw[hb0];refine Zy (Z8 ?_);refine Zy (wpAny_attempt (wpAny_holding ?_));show wpAny _ _ (boundAndCalled (.builtin "list.__getattribute__") (.ref a) _) _ _ _;unfold boundAndCalled;rw[slot_ga.toG.bind];refine Zy (Z8 ?_);show wpAny _ _ (call (.builtin "list.__getattribute__") [.ref a,.str (Str.ofString "keys") t]) _ _ _;refine wpAny_call_entry slot_ga ht cz ?_ (Zz1 _ _);refine Zzj (s:=⟨h,g,d,t+1,os⟩) hh ho fun e h' t' he kp=>?_;obtain⟨o,e1,e2⟩:=he;have ae:∀t'',Shared.TypeIs ⟨h',g,d,t'',os⟩ (.ref e) "AttributeError" := fun _=>⟨o,e1,e2⟩;show wpAny _ _ (getattributeRaised _ _ _ _ _ _ _) _ _ _;unfold getattributeRaised;refine Zy (wpAny_isInstance (T:="AttributeError") (b:=true) (ae _) (by rw[isSubtype_type];kernel_rfl) ?_);simp only[if_true];rw[show hookBehind (Value.type "list") none=typeLookup (.type "list") (Str.ofString "__getattr__") from rfl,tl3];refine Zy (Z8 ?_);unfold hookOrError;simp only[];unfold attributeErrorLeaves;simp only[Bool.not_false,if_true];refine Zy (wpAny_throw ?_);refine Zy (wpAny_isInstance (T:="AttributeError") (b:=true) (ae _) (by rw[isSubtype_type];kernel_rfl) ?_);simp only[if_true];exact Z8 (hq h' t' kp)
end DicL
namespace DicL
open PySem PySem.Spec PyProof.Rows DicP2
section
variable{prog:Program}{w:World}{K:Type}[DecidableEq K]{knd:PySem.KeyKind prog w K}
variable{A:Around}{R:Result->Shared->Prop}{E:ZQ}{s:Shared}{d it t:Addr}{its:ZD}{rs:List (K×Value)}
theorem loop(hh:A.handled=none)(hdi:d≠it)(htd:t≠d)(hti:t≠it)(hz:rs.length<=sizeLine){h₁:Heap}(ht:h₁.IsList t its)(hp:Prs knd h₁ its rs)(hpd:∀(p:Addr),.ref p∈its.toList->p≠d/\p≠it)
  (fin:∀h' tk,(∀b o,b≠d->b≠it->h₁.get? b=some o->h'.get? b=some o)->h'.DictOf knd d (stK rs rs.length)->R (.ok (.ret .none)) { s with heap:=h',toks:=tk }) :
  ∀(k i:Nat) (h:Heap) (tk:Nat),rs.length - i=k->i<=rs.length->(∀b o,b≠d->b≠it->h₁.get? b=some o->h.get? b=some o)->h.IsListIter it t i->h.DictOf knd d (stK rs i) ->
   codeAny (model prog w) A (.builtin "dict.update.loop" ⟨[.ref d,.ref it,rawInt i,.none],[]⟩) R { s with heap:=h,toks:=tk }:=by
 intro k
 induction k with
 | zero =>
  intro i h tk hk hi kp st dd;have ei:i=rs.length:=by omega
  subst ei;refine codeAny_builtin Wt ?_;rw[Around.under_plainId Gh _]
  change wpAny _ A.in1 (pyNext (.ref it) >>= _) _ _ _
  refine Zy (wpAny_pyNext_list_end (s:={ s with heap:=h,toks:=tk }) (A:=A.in1) hh st (ht.at fun o e=>kp _ o htd hti e) (Array.getElem?_eq_none (by rw[hp.1];exact N4 _)) fun h' ext=>?_)
  change wpAny _ A.in1 (Builtin.Dict.addKeywords d [] >>= _) _ _ _
  refine Zy (m:=Builtin.Dict.addKeywords d []) ?_;unfold Builtin.Dict.addKeywords;simp only[List.forIn_nil];refine Zy (Z8 (Z8 (Z8 ?_)));refine fin h' tk (fun b o n1 n2 e=>ext b o n2 (kp b o n1 n2 e)) ?_;obtain⟨o,es,ep,e1,r⟩:=dd;exact⟨o,es,ep,ext d o hdi e1,r⟩
 | succ k ih =>
  intro i h tk hk hi kp st dd;have wb:i<rs.length:=by omega
  obtain⟨⟨kk,vv⟩,hkv⟩:∃p,rs[i]?=some p:=⟨rs[i],Lh wb⟩;obtain⟨p,u,ep,tp,ku⟩:=hp.2 i kk vv hkv;have np:=hpd p (by rw[<-Array.mem_def];exact Array.mem_of_getElem? ep);refine codeAny_builtin Wt ?_;rw[Around.under_plainId Gh _]
  change wpAny _ A.in1 (pyNext (.ref it) >>= _) _ _ _
  refine Zy (wpAny_pyNext_list_item (s:={ s with heap:=h,toks:=tk }) (A:=A.in1) st (ht.at fun o e=>kp _ o htd hti e) ep fun h' Hj sb=>?_);have qw:IsTup h' p #[u,vv]:=let ⟨o,e1,e2⟩:=tp;⟨o,sb.extBut _ _ np.2 (kp _ _ np.1 np.2 e1),e2⟩;have dd':h'.DictOf knd d (stK rs i):=let ⟨o,es,ep,e1,r⟩:=dd;⟨o,es,ep,sb.extBut _ _ hdi e1,r⟩;simp only[];refine Zy (wpAny_holding (Zy (wpAny_tryCatch ?_)));unfold Builtin.Dict.pairItems;refine Zy (wpAny_typeOf (T:="tuple") qw.typeIs ?_);simp only[show (Value.type "tuple" == Value.type "list" || Value.type "tuple" == Value.type "tuple")=true from by decide,if_true];obtain⟨o,e1,e2,n,e3⟩:=id qw;refine Zy (m:=seqItems? (.ref p)) ?_;unfold seqItems?;simp only[];refine Zy (wpAny_load e1 ?_);rw[e3];refine Z8 (Z8 ?_);show wpAny _ _ (holding [u,vv] (dictSet d u vv)) _ _ _;refine wpAny_holding ?_;refine wpAny_dictSet_pairs (hsz:=U8 (Qn rs i) (U8 hi hz)) ku dd' fun h2 dd2 sb2=>?_;refine Z8 ⟨plainId_quiet Gh _, ?_⟩;refine ih (i+1) h2 _ (by omega) wb (fun b o n1 n2 e=>sb2.extBut _ _ n1 (sb.extBut _ _ n2 (kp b o n1 n2 e))) (Hj.extBut sb2.extBut hdi.symm) ?_;rw[Sb hkv];exact dd2
theorem It{Q:ZQ}(hh:A.handled=none){n:Nat}{sl:ZY}(ho:s.heap.get? t=some ⟨.type "list",none,.seq its n,sl⟩)(hp:Prs knd s.heap its rs)(hz:rs.length<=sizeLine)
  (hl:∀(p:Addr),.ref p∈its.toList->p<s.heap.objs.size)
  (fin:∀h' tk,(∀b o,s.heap.get? b=some o->h'.get? b=some o)->h'.DictOf knd s.heap.objs.size (stK rs rs.length)->Q (.ref s.heap.objs.size) { s with heap:=h',toks:=tk }) :
  wpAny (model prog w) A (call (.type "dict") [.ref t]) Q E s:=by
 have lt:∀{c o},s.heap.get? c=some o->c≠s.heap.objs.size:=fun e=>Fb (Mv e);have pu:∀{c o},s.heap.get? c=some o->(s.heap.push { cls:=.type "dict",data:=.dict #[] }).get? c=some o:=fun e=>Vn _ e
 refine callType_codes (Q₁:=fun obj s₁=>obj=.ref s.heap.objs.size/\s₁={ s with heap:=s.heap.push { cls:=.type "dict",data:=.dict #[] } }) F.kt_called_dict (F.kt_typeCall_dict_1 _) F.entry_dict_init
  (kt_code_dict_new _ ⟨rfl,rfl⟩) fun obj s₁ q=>?_
 obtain⟨rfl,rfl⟩:=q;have Cp:(s.heap.push { cls:=.type "dict",data:=.dict #[] }).get? s.heap.objs.size=some { cls:=.type "dict",data:=.dict #[] }:=Mw _ rfl;refine⟨⟨_,Cp,rfl⟩,F.args_dict_init_2 _ _, ?_⟩;have ty:Shared.TypeIs { s with heap:=s.heap.push { cls:=.type "dict",data:=.dict #[] } } (.ref s.heap.objs.size) "dict" := ⟨_,Cp,rfl⟩;unfold Builtin.«dict.__init__»;unfold Builtin.Dict.selfAndRest;refine Zy (Zy (wpAny_notOrdered_dict ty ?_));refine Zy (m:=Builtin.Dict.addrOf (.ref s.heap.objs.size)) (Z8 (Z8 ?_));show wpAny _ _ (Builtin.Dict.updateFrom "dict.__init__" s.heap.objs.size (.ref t) [] .none) _ _ _;unfold Builtin.Dict.updateFrom;refine Zy (wpAny_typeOf (T:="list") ⟨_,pu ho,rfl⟩ ?_);simp only[show (Value.type "list" != Value.type "dict")=true from by decide,if_true];refine Zy (q8 (s:={ s with heap:=s.heap.push { cls:=.type "dict",data:=.dict #[] } }) (A:=A.in1.in1) hh (pu ho) fun h2 t2 k2=>?_);simp only[Option.isNone_none,if_true];refine Zy (wpAny_rule ?_);have tu:Heap.IsList h2 t its:=⟨_,k2 _ _ (pu ho),rfl,n,rfl⟩;refine Zy (wpAny_pyIter_list (s:={ s with heap:=h2,toks:=t2 }) tu ?_);have lt2:∀{c o},h2.get? c=some o->c≠h2.objs.size:=fun e=>Fb (Mv e);have at2:=k2 _ _ Cp;have sz2:s.heap.objs.size<h2.objs.size:=Mv at2;refine Z8 ⟨plainId_quiet Gh _, ?_⟩;have kp3:∀b o,h2.get? b=some o->(h2.push { cls:=.type "list_iterator",data:=.fields #[.ref t,.int 0 0] }).get? b=some o:=fun b o e=>Vn _ e;refine loop (knd:=knd) (s:=s) (A:=A.in1) (d:=s.heap.objs.size) (it:=h2.objs.size) (t:=t) hh (Fb sz2) (lt ho) (lt2 (k2 _ _ (pu ho))) hz (h₁:=h2.push { cls:=.type "list_iterator",data:=.fields #[.ref t,.int 0 0] }) (tu.at fun o e=>kp3 _ o e) ⟨hp.1,fun j k v e=>?_⟩ (fun p hm=>⟨Fb (hl p hm),Fb (Nat.lt_trans (hl p hm) sz2)⟩) (fun h' tk kp dd=>?_) _ 0 _ t2 rfl (Mj _) (fun b o _ _ e=>e) ⟨_,Mw _ rfl,rfl,rfl⟩ ?_
 .obtain⟨p,u,e1,tp,ku⟩:=hp.2 j k v e;exact⟨p,u,e1,let ⟨o,a1,a2⟩:=tp;⟨o,kp3 _ _ (k2 _ _ (pu a1)),a2⟩,ku⟩
 .refine⟨rfl,fin h' tk (fun b o e=>kp b o (lt e) (lt2 (k2 _ _ (pu e))) (kp3 _ _ (k2 _ _ (pu e)))) dd⟩
 .exact⟨_, #[],_,kp3 _ _ at2,⟨rfl,rfl,rfl⟩,rfl,fun e he=>by simp at he,.nil,List.nodup_nil⟩
end
end DicL
namespace SetM
open PySem
section
variable{prog:Program}{w:World}{K:Type}[DecidableEq K](knd:KeyKind prog w K)
variable{knd}{A:Around}{E:ZQ}{s:Shared}{a:Addr}
end
end SetM
namespace SetM
open PySem PyProof.Rows
section
variable{prog:Program}{w:World}{K:Type}[DecidableEq K]{knd:KeyKind prog w K}
variable{A:Around}{R:Result->Shared->Prop}{I:Addr}{fp wr:ZS}{G:Array GenState->Array GenState->Prop}{n:Nat}{P:Nat->Value->Prop}{St:Nat->Shared->Prop}
end
section
variable{prog:Program}{w:World}{A:Around}{E:ZQ}{s:Shared}
variable{K:Type}[DecidableEq K]{knd:KeyKind prog w K}
end
section
variable{prog:Program}{w:World}{A:Around}{E:ZQ}{s:Shared}{a:Addr}{o:Obj}{es:Array (Int×Value)}{ep:Nat}{t:SetTable}
end
section
variable{w:World}{a:Addr}{es:Array (Int×Value)}{ep:Nat}{t:SetTable}{h:Heap}{i:Nat}{first:Value}{vs:ZK}
end
section
variable{prog:Program}{w:World}{A:Around}{E:ZQ}{s:Shared}{a I:Addr}{o:Obj}{es:Array (Int×Value)}{ep:Nat}{t:SetTable}{i:Nat}{first:Value}{vs:ZK}
end
section
variable{prog:Program}{w:World}{A:Around}{E:ZQ}{s:Shared}{a I:Addr}{o:Obj}{es:Array (Int×Value)}{ep:Nat}{t:SetTable}{vs:ZK}
end
section
variable{prog:Program}{w:World}{K:Type}[DecidableEq K]{knd:PySem.KeyKind prog w K}{A:Around}{E:ZQ}{s:Shared}{a:Addr}
theorem Ub{h:Heap}{l b:Addr}{vs:ZK}{out:ZD}{ob:Obj}(hb:b≠l)(e:h.get? b=some ob):(sortedHeap h l vs out).get? b=some ob:=by
 rw[sortedHeap_old hb (Mv e)];exact e
end
end SetM
namespace L2
open PySem PySem.Spec PyProof.Rows
abbrev Key:=Sum Int Str
noncomputable def Wl:Key->Value->Bool
 | .inl k,v=>Value.isInt k v
 | .inr x,v=>Value.isStrOf x v
noncomputable def keyH(w:World):Key->Int
 | .inl k=>hashInt k
 | .inr x=>hashStr w x
theorem Z6:∀{k:Key} {v:Value},Wl k v=true->(∃i t,k=Sum.inl i/\v=Value.int i t)\/(∃x t,k=Sum.inr x/\v=Value.str x t)
 | .inl i,v,h=>by
  obtain⟨t,e⟩:=Value.isInt_shape (k:=i) (v:=v) h;exact .inl ⟨i,t,rfl,e⟩
 | .inr x,v,h=>by
  obtain⟨t,e⟩:=Value.isStrOf_shape (x:=x) (v:=v) h;exact .inr ⟨x,t,rfl,e⟩
theorem jx(i:Int)(t:Tok):Wl (.inl i) (.int i t)=true:=by simp[Wl,Value.isInt]
theorem jz(x:Str)(t:Tok):Wl (.inr x) (.str x t)=true:=by simp[Wl,Value.isStrOf]
theorem key_ll(a b:Int):decide ((Sum.inl a:Key)=Sum.inl b)=(a == b):=by
 by_cases e:a=b
 .subst e;simp
 .have h:¬ (Sum.inl a:Key)=Sum.inl b:=fun q=>e (Sum.inl.inj q);rw[Mr h];exact(B0n.mpr e).symm
theorem key_rr(a b:Str):decide ((Sum.inr a:Key)=Sum.inr b)=decide (a=b):=by
 by_cases e:a=b
 .subst e;simp
 .have h:¬ (Sum.inr a:Key)=Sum.inr b:=fun q=>e (Sum.inr.inj q);rw[Mr h,Mr e]
theorem key_lr(a:Int)(b:Str):decide ((Sum.inl a:Key)=Sum.inr b)=false:=Mr (fun q=>nomatch q)
theorem key_rl(a:Str)(b:Int):decide ((Sum.inr a:Key)=Sum.inl b)=false:=Mr (fun q=>nomatch q)
noncomputable def Zp(prog:Program)(w:World):PySem.KeyKind prog w Key where
 is:=Wl
 hash:=keyH w
 inj:=fun v a b ha hb=>by
  rcases Z6 ha with ⟨i,t,rfl,rfl⟩ | ⟨x,t,rfl,rfl⟩
  .rcases Z6 hb with ⟨j,u,rfl,e⟩ | ⟨y,u,rfl,e⟩
   .injection e with e1 _;rw[e1]
   .exact nomatch e
  .rcases Z6 hb with ⟨j,u,rfl,e⟩ | ⟨y,u,rfl,e⟩
   .exact nomatch e
   .injection e with e1 _;rw[e1]
 byValue:=fun k v h=>by
  rcases Z6 h with ⟨i,t,rfl,rfl⟩ | ⟨x,t,rfl,rfl⟩<;>rfl
 pyHash:=fun hv h=>by
  rcases Z6 hv with ⟨i,t,rfl,rfl⟩ | ⟨x,t,rfl,rfl⟩
  .exact wpAny_pyHash_int h
  .exact wpAny_pyHash_str h
 eqBool:=fun hu hv h=>by
  rcases Z6 hu with ⟨i,t,rfl,rfl⟩ | ⟨x,t,rfl,rfl⟩
  .rcases Z6 hv with ⟨j,u,rfl,rfl⟩ | ⟨y,u,rfl,rfl⟩
   .rw[key_ll]at h;exact wpAny_eqBool_int h
   .rw[key_lr]at h;exact SeqAt.EqAt.int_str i t y u _ _ _ _ h
  .rcases Z6 hv with ⟨j,u,rfl,rfl⟩ | ⟨y,u,rfl,rfl⟩
   .rw[key_rl]at h;exact SeqAt.EqAt.str_int x t j u _ _ _ _ h
   .rw[key_rr]at h;exact wpAny_eqBool_str h
 «strs»:=fun k x t v h=>by
  rcases Z6 h with ⟨i,u,rfl,e⟩ | ⟨y,u,rfl,e⟩
  .exact nomatch e
  .injection e with e1 _
   subst e1;cases v<;>rfl
theorem S8(prog:Program)(w:World)(i:Int)(t:Tok):(Zp prog w).is (.inl i) (.int i t)=true:=jx i t
theorem Ck(prog:Program)(w:World)(x:Str)(t:Tok):(Zp prog w).is (.inr x) (.str x t)=true:=jz x t
end L2
namespace HT
open PySem PyProof.Rows
section
variable{prog:Program}{w:World}{A:Around}{E:ZQ}{s:Shared}
noncomputable def Vc(n d:Nat):ZC->Nat
 | none=>d
 | some v=>if v<0 then (v+(n:Int)).toNat else min v.toNat n
theorem Rl(n d k:Nat):Vc n d (some (k:Int))=min k n:=by
 show (if (k:Int)<0 then ((k:Int)+(n:Int)).toNat else min (k:Int).toNat n)=min k n;rw[if_neg (by omega),XQ]
theorem sIx_le(n d:Nat)(hd:d<=n)(o:ZC):Vc n d o<=n:=by
 cases o with
 | none=>exact hd
 | some v =>
  show (if v<0 then (v+(n:Int)).toNat else min v.toNat n)<=n;by_cases hv:v<0
  .rw[if_pos hv];omega
  .rw[if_neg hv];exact Nat.min_le_right _ _
theorem xd(v:Int)(n d:Nat):(if v<0 then max (v+(n:Int)) 0 else min v (n:Int))=((Vc n d (some v):Nat):Int):=by
 show (if v<0 then max (v+(n:Int)) 0 else min v (n:Int))=(((if v<0 then (v+(n:Int)).toNat else min v.toNat n):Nat):Int);by_cases hv:v<0
 .simp only[if_pos hv];omega
 .simp only[if_neg hv];omega
theorem Xz(lo hi:ZC)(n:Nat):Builtin.Slice.sliceAdjust lo hi 1 (n:Int)=(((Vc n 0 lo:Nat):Int),((Vc n n hi:Nat):Int)):=by
 have h1:¬ ((1:Int)<0):=by omega
 unfold Builtin.Slice.sliceAdjust;simp only[h1,if_false];refine Prod.ext ?_ ?_
 .cases lo with
  | none=>rfl
  | some v=>exact xd v n 0
 .cases hi with
  | none=>rfl
  | some v=>exact xd v n n
theorem H8(i j:Nat):Builtin.Slice.slicePlaces (i:Int) (j:Int) 1=j - i:=by
 unfold Builtin.Slice.slicePlaces;have h1:(1:Int)>0:=by omega
 simp only[h1,if_true,Int.ediv_one]
 split<;>omega
theorem Wz{v:Value}{o:ZC}{Q:ZC->Shared->Prop}(p:IsPart v o)(h:Q o s):wpAny (model prog w) A (Builtin.Slice.slicePartIndex v) Q E s:=by
 cases p with
 | none=>exact slicePart_none h
 | int i t=>exact slicePart_int h
theorem J8{sl:Addr}{vl vu:Value}{lo hi:ZC}{n:Nat}{Q:Int×Int×Nat->Shared->Prop}(hs:s.heap.IsSliceOf sl vl vu .none)(pl:IsPart vl lo)(pu:IsPart vu hi)
  (h:Q (((Vc n 0 lo:Nat):Int),1,Vc n n hi - Vc n 0 lo) s):wpAny (model prog w) A (Builtin.Slice.sliceApplied (.ref sl) (pure (n:Int))) Q E s:=by
 obtain⟨os,Pp,l6,A1⟩:=id hs;unfold Builtin.Slice.sliceApplied Builtin.Slice.sliceFields;refine Zy (Zy (wpAny_field Pp A1 (x:=vl) rfl (Zy (wpAny_field Pp A1 (x:=vu) rfl (Zy (wpAny_field Pp A1 (x:=.none) rfl (Z8 ?_)))))));refine Zy (slicePart_none ?_);show wpAny _ _ (if ((1:Int) == 0)=true then _ else _) _ _ s;rw[if_neg (by decide)];refine Zy (Wz pl (Zy (Wz pu (Zy (Z8 ?_)))));show wpAny _ _ (match Builtin.Slice.sliceAdjust lo hi 1 (n:Int) with | (lo,hi)=>pure (lo,(1:Int),Builtin.Slice.slicePlaces lo hi 1)) _ _ s;rw[Xz lo hi n];show wpAny _ _ (pure (((Vc n 0 lo:Nat):Int),(1:Int),Builtin.Slice.slicePlaces ((Vc n 0 lo:Nat):Int) ((Vc n n hi:Nat):Int) 1)) _ _ s;rw[H8];exact Z8 h
theorem gz(xs:ZD)(i k:Nat):((List.range k).filterMap fun(m:Nat)=>xs[((i:Int)+(m:Int) * 1).toNat]?).toArray=((xs.toList.drop i).take k).toArray:=by
 have e:(fun(m:Nat)=>xs[((i:Int)+(m:Int) * 1).toNat]?)=fun m=>xs[i+m]?:=by
  funext m
  have:((i:Int)+(m:Int) * 1).toNat=i+m:=by omega
  rw[this]
 rw[e];have:=pick_run xs i k;rw[List.filterMap_map]at this;have e2:((fun x=>xs[x]?) ∘ fun x=>i+x)=fun m=>xs[i+m]?:=rfl;rw[e2]at this;rw[this]
theorem Bd{t sl:Addr}{items:ZD}{vl vu:Value}{lo hi:ZC}{Q:ZQ}(ht:IsTup s.heap t items)(hs:s.heap.IsSliceOf sl vl vu .none)(pl:IsPart vl lo)(pu:IsPart vu hi)
  (hw:¬ (Vc items.size 0 lo=0/\Vc items.size items.size hi=items.size))
  (h:Q (.ref s.heap.objs.size) { s with heap:=s.heap.push { cls:=.type "tuple",data:=.seq ((items.toList.drop (Vc items.size 0 lo)).take (Vc items.size items.size hi - Vc items.size 0 lo)).toArray } })
  (hsz:items.size<=sizeLine):wpAny (model prog w) A (getItem (.ref t) (.ref sl)) Q E s:=by
 have Jj:sizeOk (.seq ((items.toList.drop (Vc items.size 0 lo)).take (Vc items.size items.size hi - Vc items.size 0 lo)).toArray):=by
  show ((items.toList.drop (Vc items.size 0 lo)).take (Vc items.size items.size hi - Vc items.size 0 lo)).toArray.size<=sizeLine;rw[Ul,j7,List.length_drop,x3];omega
 have hj:Vc items.size items.size hi<=items.size:=sIx_le _ _ (N4 _) hi;obtain⟨os,Pp,l6,A1⟩:=id hs;have hTs:s.TypeIs (.ref sl) "slice" := ⟨os,Pp,l6⟩;unfold getItem
 try with_reducible refine wpAny_holding ?_
 first | refine Zy (Z8 ?_) | skip
 refine Zy (wpAny_sequenceKey ht.typeIs (by decide) ?_)
 refine Zy (wpAny_callSpecial?_slot (name:=Str.ofString "__getitem__") ht.typeIs slot_tuple_getitem
  (wpAny_call_entry slot_tuple_getitem ht.typeIs entry_tuple_getitem ?_ (args_tuple_getitem _ _)))
 show wpAny _ _ (Builtin.Tuple.tupleItemsOf (.ref t) >>= _) _ _ s;refine Zy (tupleItemsOf_ ht ?_);refine Zy (wpAny_typeOf hTs ?_);rw[if_pos (by decide)];refine Zy (J8 hs pl pu ?_)
 have hno:¬ ((((Vc items.size 0 lo:Nat):Int) == 0 && (1:Int) == 1 && (Vc items.size items.size hi - Vc items.size 0 lo) == items.size)=true):=by
  intro q;rw[Jx,Jx]at q;have q1:((Vc items.size 0 lo:Nat):Int)=0:=eq_of_beq q.1.1;have q2:Vc items.size items.size hi - Vc items.size 0 lo=items.size:=eq_of_beq q.2;exact hw ⟨by omega,by omega⟩
 show wpAny _ _ (if (((Vc items.size 0 lo:Nat):Int) == 0 && (1:Int) == 1 && (Vc items.size items.size hi - Vc items.size 0 lo) == items.size)=true then _ else _) _ _ s;rw[if_neg hno,gz]
 first
  | exact Zy (m:=Builtin.Tuple.tupleExact _) (wpAny_newObj_type (Z8 ⟨_,rfl,Z8 h⟩) Jj)
  | exact Zy (m:=Builtin.Tuple.tupleExact _) (wpAny_newObj_type (Zy (Z8 (Z8 ⟨_,rfl,Z8 h⟩))) Jj)
  | exact Zy (Zy (m:=Builtin.Tuple.tupleExact _) (wpAny_newObj_type (Z8 (Z8 ⟨_,rfl,Z8 h⟩)) Jj))
  | exact Zy (Zy (m:=Builtin.Tuple.tupleExact _) (wpAny_newObj_type (Z8 ⟨_,rfl,Z8 h⟩) Jj))
theorem Zzc{t b:Addr}{vs ws:ZK}{Q:ZQ}(ht:IsTup s.heap t vs.toArray)(hb:IsTup s.heap b ws.toArray)(hv:vs≠[])
  (h1:ws=[]->Q (.ref t) s) (h2:ws≠[]->Q (.ref s.heap.objs.size) { s with heap:=s.heap.push { cls:=.type "tuple",data:=.seq (vs++ws).toArray } })
  (hsz:vs.length+ws.length<=sizeLine):wpAny (model prog w) A (binaryOp .Add (.ref t) (.ref b)) Q E s:=by
 obtain⟨⟨cls,dd,data,sl⟩,ho,hc,n,hd⟩:=id ht;obtain⟨⟨cls2,dd2,data2,sl2⟩,N7,hc2,n2,hd2⟩:=id hb;simp only at hc hd hc2 hd2;subst hc hd hc2 hd2;have e:vs.toArray++ws.toArray=(vs++ws).toArray:=by simp
 by_cases hw:ws=[]
 .exact concat_meets ⟨_,ho,rfl⟩ ⟨_,N7,rfl⟩ noFill_tuple_add seq_tuple_add PySem.F.slot_tuple_add PySem.F.entry_tuple_add (PySem.F.args_tuple_add_2 _ _)
   (tuple_addW1 t b vs.toArray ws.toArray n n2 dd dd2 sl sl2 (by simpa using hv) (by simp[hw])) ⟨ho,N7,h1 hw⟩
 .refine concat_meets ⟨_,ho,rfl⟩ ⟨_,N7,rfl⟩ noFill_tuple_add seq_tuple_add PySem.F.slot_tuple_add PySem.F.entry_tuple_add (PySem.F.args_tuple_add_2 _ _)
   (tuple_addW2 t b vs.toArray ws.toArray n n2 dd dd2 sl sl2 (by simpa using hv) (by simpa using hw) (by rw[Ul,Ul];exact hsz)) ⟨ho,N7, ?_⟩
  rw[e];exact h2 hw
end
end HT
namespace L2
open PySem PySem.Spec PyProof.Rows
structure Ml(N P:ZG)(sc:Scope):Prop where
 kind:sc.kind=.function
 co:sc.isCoroutine=false
 gen:sc.isGenerator=false
 nd:N.Nodup
 pre:N.take P.length=P
 par:∀x∈P,sc.names.lookup x=some .local\/sc.names.lookup x=some .cell
 nofree:∀y∈sc.names,y.2≠.free
noncomputable def jq(n:Nat)(i:Int):ZL:=if 0<=i then (if i<n then some i.toNat else none) else if -(n:Int)<=i then some (i+n).toNat else none
noncomputable def Ls{l:Type}(xs:List l)(i:Int):Option l:=(jq xs.length i).bind fun j=>xs[j]?
theorem z8{n:Nat}{i:Int}{j:Nat}(h:jq n i=some j):seqIndex? i n=some j/\j<n/\-(n:Int)<=i/\i<n:=by
 unfold jq at h;by_cases h0:0<=i
 .rw[if_pos h0]at h;by_cases h1:i<n
  .rw[if_pos h1]at h;have e:i.toNat=j:=Nf h;exact⟨by rw[seqIndex_of h0 h1,e],by omega,by omega,h1⟩
  .rw[if_neg h1]at h;cases h
 .rw[if_neg h0]at h;by_cases h1:-(n:Int)<=i
  .rw[if_pos h1]at h;have e:(i+n).toNat=j:=Nf h;exact⟨by rw[seqIndex_neg (by omega) h1,e],by omega,h1,by omega⟩
  .rw[if_neg h1]at h;cases h
theorem R4{l:Type}{xs:List l}{i:Int}{v:l}(h:Ls xs i=some v):∃j,seqIndex? i xs.length=some j/\xs[j]?=some v/\j<xs.length/\-(xs.length:Int)<=i/\i<xs.length:=by
 unfold Ls at h;cases e:jq xs.length i with
 | none=>rw[e]at h;cases h
 | some j =>
  rw[e]at h;obtain⟨h1,h2,h3,h4⟩:=z8 e;exact⟨j,h1,h,h2,h3,h4⟩
theorem Zzu{l:Type}{xs:List l}{j:Nat}{v:l}(h:xs[j]?=some v):Ls xs (j:Int)=some v:=by
 have hj:j<xs.length:=(wt.mp h).1
 have e:jq xs.length (j:Int)=some j:=by
  unfold jq;rw[if_pos (by omega),if_pos (by omega)];simp
 unfold Ls;rw[e];exact h
theorem Wd(its:ZK)(n j:Nat)(u:Value):Obj.mapSeq (·.setIfInBounds j u) { cls:=.type "list",data:=.seq its.toArray n }={ cls:=.type "list",data:=.seq (its.set j u).toArray n }:=by
 simp[Obj.mapSeq]
theorem Qs(lo hi:ZC)(n:Nat):(sliceBounds lo hi none n).1=((HT.Vc n 0 lo:Nat):Int)/\(sliceBounds lo hi none n).2.1=((HT.Vc n n hi:Nat):Int)/\(sliceBounds lo hi none n).2.2=1:=by
 refine⟨?_, ?_,rfl⟩
 .cases lo with
  | none=>simp[sliceBounds,HT.Vc]
  | some i =>
   simp only[sliceBounds,HT.Vc,Option.getD_none,show (1:Int)>0 by decide,if_true];by_cases h:i<0
   .simp only[h,if_true]<;>omega
   .simp only[h,if_false]<;>omega
 .cases hi with
  | none=>simp[sliceBounds,HT.Vc]
  | some i =>
   simp only[sliceBounds,HT.Vc,Option.getD_none,show (1:Int)>0 by decide,if_true];by_cases h:i<0
   .simp only[h,if_true]<;>omega
   .simp only[h,if_false]<;>omega
theorem Lo(its:ZK)(lo hi:ZC):slicePick its.toArray lo hi none=((its.drop (HT.Vc its.length 0 lo)).take (HT.Vc its.length its.length hi - HT.Vc its.length 0 lo)).toArray:=by
 obtain⟨h1,h2,h3⟩:=Qs lo hi its.toArray.size;unfold slicePick;rw[h1,h2,h3];simp only[sliceRange_one,pick_run,Ul]<;>rfl
theorem Qx{kindOf:Str->Option NameKind}{x:Str}:∀{binds:List (Str×Value)} {m:ZJ},(∀v,(x,v) ∉ binds)->bindL kindOf binds m x=m x
 | [],_,_=>rfl
 | (n,v)::r,m,h=>by
  unfold bindL;rw[Qx fun w hw=>h w (Y5 _ hw)]
  split
  .have:x≠n:=by rintro rfl;exact h v Yb
   simp[this]
  .rfl
theorem Qq{kindOf:Str->Option NameKind}{x:Str}:∀{binds:List (Str×Value)} {m:ZJ},(∀v,(x,v) ∉ binds)->bindC kindOf binds m x=m x
 | [],_,_=>rfl
 | (n,v)::r,m,h=>by
  unfold bindC;rw[Qq fun w hw=>h w (Y5 _ hw)]
  split
  .rfl
  .have:x≠n:=by rintro rfl;exact h v Yb
   simp[this]
theorem T5{kindOf:Str->Option NameKind}{x:Str}{v:Value}:∀{P:ZG} {vs:ZK} {i:Nat} {m:ZJ},P.Nodup->P[i]?=some x->vs[i]?=some v->kindOf x=some .local ->
  bindL kindOf (P.zip vs) m x=some v
 | [],_,_,_,_,h,_,_=>by simp at h
 | _::_,[],_,_,_,_,h,_=>by simp at h
 | p::P,w::vs,0,m,nd,h1,h2,hk=>by
  simp at h1 h2;subst h1;subst h2;show bindL kindOf ((p,w)::P.zip vs) m p=_;unfold bindL;rw[Qx fun v hv=>(List.nodup_cons.mp nd).1 (List.of_mem_zip hv).1,if_pos hk];simp
 | p::P,w::vs,i+1,m,nd,h1,h2,hk=>by
  show bindL kindOf ((p,w)::P.zip vs) m x=_;unfold bindL;exact T5 (i:=i) (List.nodup_cons.mp nd).2 (by simpa using h1) (by simpa using h2) hk
theorem T6{kindOf:Str->Option NameKind}{x:Str}{v:Value}:∀{P:ZG} {vs:ZK} {i:Nat} {m:ZJ},P.Nodup->P[i]?=some x->vs[i]?=some v->kindOf x≠some .local ->
  bindC kindOf (P.zip vs) m x=some v
 | [],_,_,_,_,h,_,_=>by simp at h
 | _::_,[],_,_,_,_,h,_=>by simp at h
 | p::P,w::vs,0,m,nd,h1,h2,hk=>by
  simp at h1 h2;subst h1;subst h2;show bindC kindOf ((p,w)::P.zip vs) m p=_;unfold bindC;rw[Qq fun v hv=>(List.nodup_cons.mp nd).1 (List.of_mem_zip hv).1,if_neg hk];simp
 | p::P,w::vs,i+1,m,nd,h1,h2,hk=>by
  show bindC kindOf ((p,w)::P.zip vs) m x=_;unfold bindC;exact T6 (i:=i) (List.nodup_cons.mp nd).2 (by simpa using h1) (by simpa using h2) hk
theorem Bo{sc:Scope}{n:Nat}{x:Str}(h:sc.names.lookup x=some .cell):∃c,(cellsFrom n sc.names []).lookup x=some c:=by
 have q:=W.cellsFrom_some sc.names n [] (.inl h);exact Option.isSome_iff_exists.mp q
theorem Vz{l:Type}{t:Sem l}{Q Q':l->Shared->Prop}{M:Model}{A:Around}{E:ZQ}{s:Shared}(h:wpAny M A t Q E s)(hQ:∀a s,Q a s->Q' a s):wpAny M A t Q' E s:=wpAny_mono h hQ fun _ _ x=>x
theorem An:(sizeLine:Nat)<2 ^ 63:=by rw[sizeLine_eq];decide
theorem notLongL{n:Nat}(h:n<=sizeLine):Builtin.List.listTooLong n=false:=by
 unfold Builtin.List.listTooLong;exact Mr (by omega)
theorem len_rep{l:Type}(xs:List l)(k:Nat):(List.replicate k xs).flatten.length=k * xs.length:=by
 induction k with
 | zero=>simp
 | succ k ih=>rw[List.replicate_succ,List.flatten_cons,Nb,ih,Nat.succ_mul,Nat.add_comm]
def Binds(K:W.Frag)(fd:FuncData)(ps:ZG)(ds:ZK):Prop :=
 ∀(s:Shared) (us:ZK),K.In s.heap->(us++ds).length=ps.length->BindsTo s fd ⟨us,[]⟩ (ps.zip (us++ds))
theorem Binds.all{K:W.Frag}{fd:FuncData}{ps:ZG}(h:∀us:ZK,us.length=ps.length->bindArgs fd ⟨us,[]⟩=pure (ps.zip us)):Binds K fd ps []:=fun s us _ hl=>by
 rw[ZE]at hl ⊢;exact .of_eq (h us hl)
noncomputable def repS(i:Str)(n:Nat):Str:=⟨(List.replicate n i.cps).foldl (·++·) #[]⟩
theorem y4(a:ZN):∀(n:Nat) (acc:ZN),((List.replicate n a).foldl (·++·) acc).toList=acc.toList++(List.replicate n a.toList).flatten
 | 0,acc=>by simp
 | n+1,acc=>by
  rw[List.replicate_succ,List.foldl_cons,y4 a n (acc++a),List.replicate_succ,List.flatten_cons,Array.toList_append,ZI]
theorem Nc(i:Str)(n:Nat):(repS i n).cps.toList=(List.replicate n i.cps.toList).flatten:=by
 show ((List.replicate n i.cps).foldl (·++·) #[]).toList=_;rw[y4]
 rfl
theorem Bj(i:Str)(n:Nat):(repS i n).length=n * i.length:=by
 show (repS i n).cps.size=n * i.cps.size;rw[<-x3,Nc,len_rep,x3]
end L2
namespace SRT
open PySem PySem.Spec PyProof.Rows L2
noncomputable def insI(x:Int):ZT->ZT
 | []=>[x]
 | y::r=>if x<=y then x::y::r else y::insI x r
def qb:ZT->ZT
 | []=>[]
 | x::r=>insI x (qb r)
theorem insI_perm(x:Int):∀r:ZT,(insI x r).Perm (x::r)
 | []=>.refl _
 | y::r=>by
  unfold insI
  split
  .exact .refl _
  .exact((insI_perm x r).cons y).trans (.swap x y r)
theorem B7:∀r:ZT,(qb r).Perm r
 | []=>.refl _
 | x::r=>(insI_perm x _).trans ((B7 r).cons x)
theorem Ec(x:Int):∀r:ZT,r.Pairwise (·<=·)->(insI x r).Pairwise (·<=·)
 | [],_=>List.pairwise_singleton _ _
 | y::r,h=>by
  rw[ZA]at h;unfold insI
  split
  .rename_i hx
   rw[ZA,ZA];exact⟨fun z m=>by rcases Ya.mp m with rfl | m;exact hx;exact Int.le_trans hx (h.1 z m),h.1,h.2⟩
  .rename_i hx
   rw[ZA];refine⟨fun z m=>?_,Ec x r h.2⟩;rcases Ya.mp ((insI_perm x r).mem_iff.mp m) with rfl | m
   .omega
   .exact h.1 z m
theorem Sr:∀r:ZT,(qb r).Pairwise (·<=·)
 | []=>List.Pairwise.nil
 | x::r=>Ec x _ (Sr r)
theorem pw{a b:ZT}(h:a.Perm b)(s:a.Pairwise (·<=·)):a=qb b :=
 List.Perm.eq_of_pairwise (fun _ _ _ _ h1 h2=>Int.le_antisymm h1 h2) s (Sr b) (h.trans (B7 b).symm)
noncomputable def Hv(a b:Str):Bool:=!decide (b.cps.toList<a.cps.toList)
noncomputable def jg(x:Str):ZG->ZG
 | []=>[x]
 | y::r=>if Hv x y=true then x::y::r else y::jg x r
def Vr:ZG->ZG
 | []=>[]
 | x::r=>jg x (Vr r)
theorem Th(x:Str):∀r:ZG,(jg x r).Perm (x::r)
 | []=>.refl _
 | y::r=>by
  unfold jg
  split
  .exact .refl _
  .exact((Th x r).cons y).trans (.swap x y r)
theorem Z2:∀r:ZG,(Vr r).Perm r
 | []=>.refl _
 | x::r=>(Th x _).trans ((Z2 r).cons x)
theorem Pg{a b:Str}:Hv a b=true↔¬ b.cps.toList<a.cps.toList:=by unfold Hv;simp
theorem Fe{a b c:Str}(h1:Hv a b=true)(h2:Hv b c=true):Hv a c=true:=by
 rw[Pg]at *;exact List.not_lt.mpr (List.le_trans (List.not_lt.mp h1) (List.not_lt.mp h2))
theorem qi{a b:Str}(h:¬ Hv a b=true):Hv b a=true:=by
 rw[Pg]at *;exact fun z=>List.lt_asymm (Decidable.not_not.mp h) z
theorem m7{a b:Str}(h1:Hv a b=true)(h2:Hv b a=true):a=b:=by
 rw[Pg]at *;have e:a.cps.toList=b.cps.toList:=List.le_antisymm (List.not_lt.mp h1) (List.not_lt.mp h2);cases a;cases b
 congr
 exact Array.toList_inj.mp e
theorem Et(x:Str):∀r:ZG,r.Pairwise (fun a b=>Hv a b=true)->(jg x r).Pairwise (fun a b=>Hv a b=true)
 | [],_=>List.pairwise_singleton _ _
 | y::r,h=>by
  rw[ZA]at h;unfold jg
  split
  .rename_i hx
   rw[ZA,ZA];exact⟨fun z m=>by rcases Ya.mp m with rfl | m;exact hx;exact Fe hx (h.1 z m),h.1,h.2⟩
  .rename_i hx
   rw[ZA];refine⟨fun z m=>?_,Et x r h.2⟩;rcases Ya.mp ((Th x r).mem_iff.mp m) with rfl | m
   .exact qi hx
   .exact h.1 z m
theorem Sd:∀r:ZG,(Vr r).Pairwise (fun a b=>Hv a b=true)
 | []=>List.Pairwise.nil
 | x::r=>Et x _ (Sd r)
theorem Bq:∀(l:ZG) (p:Str),risingS p l=true->(p::l).Pairwise (fun a b=>Hv a b=true)
 | [],p,_=>List.pairwise_singleton _ _
 | q::l,p,h=>by
  unfold risingS at h;rw[Jx]at h;have r:=Bq l q h.2
  have h1:Hv p q=true:=by
   have:=h.1;rw[ltCps_eq]at this;exact this
  rw[ZA];refine⟨fun z m=>?_,r⟩;rcases Ya.mp m with rfl | m
  .exact h1
  .exact Fe h1 ((ZA.mp r).1 z m)
theorem Qr:∀l:ZG,sortedS l=true->l.Pairwise (fun a b=>Hv a b=true)
 | [],_=>List.Pairwise.nil
 | p::l,h=>Bq l p h
theorem px{a b:ZG}(h:a.Perm b)(s:sortedS a=true):a=Vr b :=
 List.Perm.eq_of_pairwise (fun _ _ _ _ h1 h2=>m7 h1 h2) (Qr a s) (Sd b) (h.trans (Z2 b).symm)
section
variable{l:Type}
end
end SRT
namespace SRT
open PySem PySem.Spec PyProof.Rows PySem.W
noncomputable def runK{l:Type}(b:Nat->Nat->Bool):KasT l->l
 | .ret a=>a
 | .ask i j k=>runK b (k (b i j))
def AllK{l:Type}(n:Nat)(P:l->Prop):KasT l->Prop
 | .ret a=>P a
 | .ask i j k=>i<n/\j<n/\∀c,AllK n P (k c)
theorem AllK.bind{l V:Type}{n:Nat}{P:l->Prop}{R:V->Prop}{f:l->KasT V}:∀{t:KasT l},AllK n P t->(∀a,P a->AllK n R (f a))->AllK n R (t.bind f)
 | .ret a,h,g=>g a h
 | .ask _ _ k,h,g=>⟨h.1,h.2.1,fun c=>AllK.bind (h.2.2 c) g⟩
theorem X8{l:Type}{n:Nat}{P:l->Prop}{b:Nat->Nat->Bool}{s:Shared}{cmp:Nat->Nat->(Bool->Shared->Prop)->Shared->Prop}(hc:∀i j,i<n->j<n->∀C:Bool->Shared->Prop,C (b i j) s->cmp i j C s){Q:l->Shared->Prop} :
  ∀{t:KasT l},AllK n P t->(P (runK b t)->Q (runK b t) s)->t.kasWp cmp Q s
 | .ret _,h,q=>q h
 | .ask i j _,h,q=>hc i j h.1 h.2.1 _ (X8 hc (h.2.2 (b i j)) q)
theorem Sp{l:Type}{n:Nat}{P:l->Prop}{b:Nat->Nat->Bool}:∀{t:KasT l},AllK n P t->P (runK b t)
 | .ret _,h=>h
 | .ask i j k,h=>Sp (t:=k (b i j)) (h.2.2 (b i j))
def Pm(n:Nat)(p:ZN):Prop:=p.toList.Perm (List.range n)
theorem Pm.perm{n:Nat}{p q:ZN}(h:Pm n p)(e:q.Perm p):Pm n q:=(Array.perm_iff_toList_perm.mp e).trans h
theorem Pm.at{n:Nat}(n0:0<n){p:ZN}(h:Pm n p)(k:Nat):p.getD k 0<n:=by
 unfold Array.getD
 split
 .rename_i hk
  exact List.mem_range.mp (h.mem_iff.mp (Array.mem_def.mp (Array.getElem_mem hk)))
 .exact n0
section
variable{n:Nat}(n0:0<n)
include n0
theorem Oi{p:ZN}(h:Pm n p):∀f m,AllK n (fun _=>True) (kas_asc p f m)
 | 0,_=>trivial
 | f+1,m=>⟨h.at n0 _,h.at n0 _,fun c=>by cases c;exact Oi h f _;exact trivial⟩
theorem Br:∀f (p:ZN) m q,Pm n p->AllK n (fun r=>Pm n r.1) (kas_desc f p m q)
 | 0,_,_,_,h=>h
 | f+1,p,m,q,h=>⟨h.at n0 _,h.at n0 _,fun c=>by
  cases c with
  | true =>
   show AllK n _ (if q>0 then _ else _)
   split
   .exact Br f _ _ _ (h.perm (mirror_perm _ _ _ _))
   .exact Br f _ _ _ h
  | false=>exact⟨h.at n0 _,h.at n0 _,fun c=>by cases c;exact Br f _ _ _ h;exact h⟩⟩
theorem Fs{p:ZN}(h:Pm n p)(m:Nat):AllK n (fun r=>Pm n r.2) (kas_tail3 m n p) :=
 (Oi n0 (h.perm (mirror_perm _ _ _ _)) _ _).bind fun _ _=>h.perm (mirror_perm _ _ _ _)
theorem Bs{p:ZN}(h:Pm n p)(m:Nat):AllK n (fun r=>Pm n r.2) (kas_descPart m n p) :=
 (Br n0 _ p _ _ h).bind fun r hr=>by
  show AllK n _ (if r.2.2>0 then _ else _)
  split
  .exact Fs n0 (hr.perm (mirror_perm _ _ _ _)) _
  .exact Fs n0 hr _
theorem jh{p:ZN}(h:Pm n p):AllK n (fun r=>Pm n r.2) (kas_count n p) :=
 (Oi n0 h _ _).bind fun m _=>by
  show AllK n _ (if (m == n)=true then _ else _)
  split
  .exact h
  .split
   .exact⟨h.at n0 _,h.at n0 _,fun c=>by cases c;exact Bs n0 (h.perm (mirror_perm _ _ _ _)) _;exact h⟩
   .exact Bs n0 h _
theorem Fu{p:ZN}(h:Pm n p)(k:Nat):∀f l r,AllK n (fun _=>True) (kas_place p k f l r)
 | 0,_,_=>trivial
 | f+1,l,r=>by
  unfold kas_place
  split
  .exact trivial
  .exact⟨h.at n0 _,h.at n0 _,fun c=>by cases c<;>exact Fu h k f _ _⟩
theorem xn:∀f (p:ZN) k,Pm n p->AllK n (Pm n) (kas_bin f p k)
 | 0,_,_,h=>h
 | f+1,p,k,h=>(Fu n0 h _ _ _ _).bind fun l _=>xn f _ _ (h.perm (bubble_perm _ _ _))
theorem Ss:AllK n (Pm n) (kas_sort n) :=
 (jh n0 (show Pm n (List.toArray (List.range n)) by unfold Pm;rw[List.toList_toArray])).bind fun r hr=>by
  show AllK n _ (if r.1<n then _ else _)
  split
  .exact xn n0 _ _ _ hr
  .exact hr
end
end SRT
namespace SRT
open PySem PySem.Spec PyProof.Rows L2 PySem.W
def srtN(n:Nat)(b:Nat->Nat->Bool):List Nat:=(runK b (kas_sort n)).toList
theorem qf{n:Nat}(n0:0<n)(b:Nat->Nat->Bool):(srtN n b).Perm (List.range n):=Sp (Ss n0)
end SRT
namespace L2
open PySem PySem.Spec PyProof.Rows
abbrev oz:ZQ:=fun _ _=>False
def Xo(ifs:ZM)(env:Env):Sem Bool :=
 forIn ifs true fun c r=>if r=true then (isTrue c env (eval c env) >>= fun b=>pure (ForInStep.yield b)) else pure (ForInStep.yield r)
section
variable(prog:Program)(w:World)(A:Around)(tg elt:Expr)(ifs:ZM)(env:Env)(it acc:Value)
def TurnEnd(nxt:Shared->Prop)(ok:Bool)(s:Shared):Prop :=
 if ok=true then wpAny (model prog w) A (eval elt env) (fun y s1=>wpAny (model prog w) A (call (.builtin "list.append") [acc,y]) (fun _ s2=>nxt s2) oz s1) oz s else nxt s
def Xx(nxt:Shared->Prop)(v:Value)(s:Shared):Prop :=
 wpAny (model prog w) A (letOwnedTupleGo tg it v) (fun _ s1=>wpAny (model prog w) A (assign tg env v) (fun _ s2=>wpAny (model prog w) A (Xo ifs env) (TurnEnd prog w A elt env acc nxt) oz s2) oz s1) oz s
end
theorem Ob{prog:Program}{w:World}{A:Around}{R:Result->Shared->Prop}{s:Shared}{elt tg iter:Expr}{ifs:ZM}{scope:Scope}{pos:Pos}{it acc:Value}{env:Env}(W:Nat->Shared->Prop)
  (turn:∀m s1,W m s1->wpAny (model prog w) A (pyNext it) (fun r s2=>r.elim (R (.ok .next) s2) fun v=>Xx prog w A tg elt ifs env it acc (fun s3=>∃m',m'<m/\W m' s3) v s2) oz s1)
  (m:Nat) (start:W m s):codeAny (model prog w) A (.compLoop (.ListComp elt [⟨tg,iter,ifs,0⟩] scope pos) 0 it acc env) R s:=by
 refine codeAny_loop rfl W (fun k s1 hw=>?_) m start;refine wpAny_noted (env:=env) (m:=compTurn (.ListComp elt [⟨tg,iter,ifs,0⟩] scope pos) 0 it acc env) ?_;rw[compTurn_list];refine Zy (wpAny_standAt (Zy (wpAny_mono (turn k s1 hw) (fun r s2 q=>?_) fun _ _ z=>z.elim)));cases r with
 | none=>exact Z8 q
 | some v =>
  have q:Xx prog w A tg elt ifs env it acc (fun s3=>∃m',m'<k/\W m' s3) v s2:=q;refine Zy (wpAny_mono q (fun _ s3 q3=>Zy (wpAny_mono q3 (fun _ s4 q4=>Zy (wpAny_mono q4 (fun ok s5 q5=>?_) fun _ _ z=>z.elim)) fun _ _ z=>z.elim)) fun _ _ z=>z.elim);cases ok with
  | false=>exact Z8 ⟨rfl,q5⟩
  | true=>exact Zy (Zy (wpAny_mono q5 (fun y s6 q6=>Zy (wpAny_mono q6 (fun _ s7 q7=>Z8 (Z8 ⟨rfl,q7⟩)) fun _ _ z=>z.elim)) fun _ _ z=>z.elim))
noncomputable def Y2(env:Env):ZW->List (Str×Addr)->List (Str×Addr)
 | [],cs=>cs
 | (n,k)::r,cs=>Y2 env r (if k == .free then (n,(env.cells.lookup n).getD 0)::cs else cs)
theorem Cg{scope:Scope}{env:Env}{x:Str}{k:NameKind}(h:(relabel scope env).names.lookup x=some k):∃k0,(x,k0)∈scope.names/\(k=k0\/(k0=.free/\k=.cell)):=by
 have hm:=PySem.mem_of_lookup h;obtain⟨⟨n,k0⟩,h1,h2⟩:=M4.mp (show (x,k)∈scope.names.map _ from hm);dsimp only at h2
 split at h2
 .rename_i hc
  cases h2;simp only[Jx,beq_iff_eq]at hc;exact⟨k0,h1,.inr ⟨hc.1.1,rfl⟩⟩
 .cases h2;exact⟨k,h1,.inl rfl⟩
noncomputable def Li(outer scope:Scope):Bool :=
 decide (scope.kind=.function) && scope.names.all fun y=>decide (y.2≠.cell) && (decide (y.2≠.local) || decide (scope.names.lookup y.1=some .local)) &&
  (decide (y.2≠.free) || decide (outer.names.lookup y.1=some .cell) || decide (outer.names.lookup y.1=some .free))
noncomputable def Ga(NX:ZG)(names:ZW):ZG->ZV->Bool
 | [],[]=>true
 | _::N,none::fr=>Ga NX names N fr
 | x::N,some j::fr=>decide (NX[j]?=some x) && decide (names.lookup x=some .free) && Ga NX names N fr
 | _,_=>false
theorem Wu{NX:ZG}{names:ZW}:∀{N:ZG} {fr:ZV},Ga NX names N fr=true->fr.length=N.length
 | [],[],_=>rfl
 | [],_::_,h=>by simp[Ga]at h
 | _::_,[],h=>by simp[Ga]at h
 | x::N,none::fr,h=>by
  simp only[Ga]at h;simp only[M5,Wu h]
 | x::N,some j::fr,h=>by
  simp only[Ga,Jx]at h;simp only[M5,Wu h.2]
theorem Wa{NX:ZG}{names:ZW}:∀{N:ZG} {fr:ZV} {i j:Nat},Ga NX names N fr=true->fr[i]?=some (some j)->∃x,N[i]?=some x/\NX[j]?=some x/\names.lookup x=some .free
 | [],[],_,_,_,e=>by simp at e
 | [],_::_,_,_,h,_=>by simp[Ga]at h
 | _::_,[],_,_,h,_=>by simp[Ga]at h
 | x::N,none::fr,0,_,_,e=>by simp at e
 | x::N,none::fr,i+1,j,h,e=>by
  simp only[Ga]at h;obtain⟨y,h1,h2⟩:=Wa (i:=i) h (by simpa using e);exact⟨y,by simpa using h1,h2⟩
 | x::N,some k::fr,0,j,h,e=>by
  simp only[Ga,Jx,decide_eq_true_eq]at h;simp at e;subst e;exact⟨x,rfl,h.1.1,h.1.2⟩
 | x::N,some k::fr,i+1,j,h,e=>by
  simp only[Ga,Jx]at h;obtain⟨y,h1,h2⟩:=Wa (i:=i) h.2 (by simpa using e);exact⟨y,by simpa using h1,h2⟩
theorem Ud{f:Str->NameKind->NameKind}(x:Str):∀names:ZW,(names.map fun p=>(p.1,f p.1 p.2)).lookup x=(names.lookup x).map (f x)
 | []=>rfl
 | (n,k)::r=>by
  have ih:=Ud (f:=f) x r;cases e:x == n with
  | false =>
   simp only[O5,List.lookup_cons,e];exact ih
  | true =>
   have e':x=n:=by simpa using e
   simp only[O5,List.lookup_cons,e,Option.map_some];rw[e']
theorem M9(scope:Scope)(env:Env):(relabel scope env).names=scope.names.map fun p=>(p.1,if (p.2 == NameKind.free && env.scope.kind == .function && env.kindOf p.1 == some .cell)=true then NameKind.cell else p.2):=by
 show scope.names.map _=_;refine List.map_congr_left fun p _=>?_;obtain⟨n,k⟩:=p;dsimp only
 split<;>rfl
theorem Mu{scope:Scope}{env:Env}{x:Str}(h:scope.names.lookup x=some .free):(relabel scope env).names.lookup x=some .cell\/(relabel scope env).names.lookup x=some .free:=by
 rw[M9,Ud (f:=fun n k=>if (k == NameKind.free && env.scope.kind == .function && env.kindOf n == some .cell)=true then NameKind.cell else k),h];dsimp only[Option.map_some]
 split
 .exact .inl rfl
 .exact .inr rfl
theorem W6{env:Env}:∀{names:ZW} {cs:List (Str×Addr)},(∀y∈names,y.2=.free->∃c,env.cells.lookup y.1=some c)->(∀p∈cs,env.cells.lookup p.1=some p.2)->∀p∈Y2 env names cs,env.cells.lookup p.1=some p.2
 | [],cs,_,hc,p,hp=>hc p hp
 | (n,k)::r,cs,hn,hc,p,hp=>by
  simp only[Y2]at hp;refine W6 (fun y hy=>hn y (Y5 _ hy)) (fun q hq=>?_) p hp
  split at hq
  .rename_i hk
   rcases Ya.mp hq with e | hq
   .obtain⟨c,jm⟩:=hn (n,k) Yb (by simpa using hk);subst e;dsimp only at jm ⊢;rw[jm]
    rfl
   .exact hc q hq
  .exact hc q hq
theorem W5{env:Env}:∀{names:ZW} {cs:List (Str×Addr)} {p:Str×Addr},p∈cs->p∈Y2 env names cs
 | [],_,_,h=>h
 | (n,k)::r,cs,p,h=>by
  simp only[Y2];refine W5 ?_
  split
  .exact Y5 _ h
  .exact h
theorem W7{env:Env}:∀{names:ZW} {cs:List (Str×Addr)} {x:Str},(x,NameKind.free)∈names->∃c,(x,c)∈Y2 env names cs
 | (n,k)::r,cs,x,h=>by
  rcases Ya.mp h with e | h
  .cases e;exact⟨_,by simp only[Y2,B0s,if_true];exact W5 Yb⟩
  .simp only[Y2];exact W7 h
theorem Nq{V:Type}:∀{l:List (Str×V)} {x:Str} {b:V},(x,b)∈l->∃c,l.lookup x=some c
 | (n,c)::r,x,b,h=>by
  cases hx:x == n with
  | true=>exact⟨c,by simp only[List.lookup_cons,hx]⟩
  | false =>
   rcases Ya.mp h with e | h
   .cases e;simp at hx
   .obtain⟨d,hd⟩:=Nq h;exact⟨d,by simp only[List.lookup_cons,hx];exact hd⟩
theorem Fj{scope:Scope}{env:Env}(h:∀y∈scope.names,y.2=.free->∃c,env.cells.lookup y.1=some c):closureFor scope env=pure (Y2 env scope.names []):=by
 have go:∀(names:ZW) (cs:List (Str×Addr)),(∀y∈names,y.2=.free->∃c,env.cells.lookup y.1=some c) ->
   (forIn names cs fun x cs=>(do
    if x.2 == NameKind.free then pure (ForInStep.yield ((x.1, <-cellOf env x.1)::cs)) else pure (ForInStep.yield cs):Sem (ForInStep (List (Str×Addr)))))=pure (Y2 env names cs):=by
  intro names
  induction names with
  | nil=>intro cs _;rfl
  | cons y r ih =>
   intro cs hn;obtain⟨n,k⟩:=y;have hr:∀y∈r,y.2=.free->∃c,env.cells.lookup y.1=some c:=fun y hy=>hn y (Y5 _ hy);rw[List.forIn_cons];by_cases hk:k=.free
   .subst hk;obtain⟨c,hc⟩:=hn (n,.free) Yb rfl
    have ec:cellOf env n=pure c:=by
     unfold cellOf;dsimp only at hc;rw[hc]
    simp only[B0s,if_true,ec,pure_bind,Y2];rw[ih _ hr];dsimp only at hc;rw[hc]
    rfl
   .have hb:(k == NameKind.free)=false:=by simpa using hk
    simp only[hb,B0f,if_false,pure_bind,Y2];exact ih _ hr
 have:=go scope.names [] h;unfold closureFor;simp only[bind_pure_comp]at this ⊢
 first
  | exact this
  | (simpa using this)
noncomputable def frees(fr:ZV)(l:List (ZF)):List (ZF):=fr.map fun o=>o.bind fun i=>(l[i]?).bind id
noncomputable def Tt(h:Heap)(L:Addr):Heap:={ h with objs:=h.objs.extract 0 L }
theorem ze{h:Heap}{L b:Nat}:(Tt h L).objs[b]?=if b<L then h.objs[b]? else none:=by
 show (h.objs.extract 0 L)[b]?=_;rw[Array.getElem?_extract];simp only[Nat.zero_add,Nat.sub_zero];by_cases hb:b<L
 .rw[if_pos hb];by_cases hc:b<h.objs.size
  .rw[if_pos (by omega)]
  .rw[if_neg (by omega),Array.getElem?_eq_none (by omega)]
 .rw[if_neg hb,if_neg (by omega)]
theorem Ez{h:Heap}{L b:Addr}{o:Obj}(e:h.get? b=some o)(hb:b<L):(Tt h L).get? b=some o:=by
 unfold Heap.get? at e ⊢;rw[ze,if_pos hb];exact e
theorem Py{h:Heap}{L b:Addr}{o:Obj}(e:(Tt h L).get? b=some o):h.get? b=some o/\b<L:=by
 unfold Heap.get? at e;rw[ze]at e;by_cases hb:b<L
 .rw[if_pos hb]at e;exact⟨e,hb⟩
 .rw[if_neg hb]at e;cases e
noncomputable def Nx(h:Heap)(L:Addr):List (Addr×Obj):=(List.range h.objs.size).filterMap fun b=>if b<=L then none else (h.get? b).map fun o=>(b,o)
theorem Tb{h:Heap}{L b:Addr}{o:Obj}:(b,o)∈Nx h L↔L<b/\h.get? b=some o:=by
 unfold Nx;rw[List.mem_filterMap];constructor
 .rintro⟨x,hx,e⟩;by_cases z:x<=L
  .rw[if_pos z]at e;cases e
  .rw[if_neg z]at e;obtain⟨o',e1,e2⟩:=Y7.mp e;cases e2;exact⟨Nat.lt_of_not_le z,e1⟩
 .rintro⟨hb,e⟩;refine⟨b,List.mem_range.mpr (Mv e), ?_⟩;rw[if_neg (Nat.not_le.mpr hb),e];rfl
theorem Pc{h h':Heap}{L:Addr}{m:ZJ}{own:List (Addr×Obj)}(f:Fr (Tt h L) L h' m)(n:News (Tt h L) L h' own)(hs:∀p∈Nx h L,p∈own):∀b o,b≠L->h.get? b=some o->h'.get? b=some o:=fun b o nb e=>by
 rcases Nat.lt_trichotomy b L with z | z | z
 .exact f.keep b o (Ez e z)
 .exact absurd z nb
 .exact(n (b,o) (hs _ (Tb.mpr ⟨z,e⟩))).1
theorem Ep{h:Heap}{L:Addr}{m:ZJ}(hn:h.Ns L m):Fr (Tt h L) L h m/\News (Tt h L) L h (Nx h L):=by
 have lsz:(Tt h L).objs.size<=L:=by
  show (h.objs.extract 0 L).size<=_;rw[Array.size_extract];omega
 refine⟨⟨hn,fun b o e=>(Py e).1,lsz⟩,fun⟨b,o⟩ hp=>?_⟩;obtain⟨h1,h2⟩:=Tb.mp hp;refine⟨h2,Nat.ne_of_gt h1, ?_⟩;cases z:(Tt h L).get? b with
 | none=>rfl
 | some o'=>exact absurd (Py z).2 (Nat.lt_asymm h1)
theorem newAt{h h':Heap}{L D:Addr}{o:Obj}(n':News (Tt h L) L h' ((D,o)::Nx h L))(hD:∀q∈Nx h L,q.1<D):h.get? D=none:=by
 obtain⟨_,nDL,lD⟩:=n' (D,o) Yb;cases eo:h.get? D with
 | none=>rfl
 | some o =>
  exfalso
  rcases Nat.lt_trichotomy D L with y | y | y
  .rw[Ez eo y]at lD;cases lD
  .exact nDL y
  .exact absurd (hD (D,o) (Tb.mpr ⟨y,eo⟩)) (Nat.lt_irrefl _)
theorem all_range(bs:List Bool):((List.range bs.length).all fun i=>(bs[i]?).getD true)=bs.all id:=by
 rw[Bool.eq_iff_iff,R5,R5];constructor
 .intro h b hb;obtain⟨i,hi⟩:=List.mem_iff_getElem?.mp hb;have:=h i (List.mem_range.mpr (wt.mp hi).1);rw[hi]at this;simpa using this
 .intro h i hi;have tw:=List.mem_range.mp hi;rw[Lh tw];simpa using h _ (G0e tw)
theorem any_range(bs:List Bool):((List.range bs.length).any fun i=>(bs[i]?).getD true)=bs.any id:=by
 rw[Bool.eq_iff_iff,ZO,ZO];constructor
 .rintro⟨i,hi,h⟩;have tw:=List.mem_range.mp hi;rw[Lh tw]at h;exact⟨bs[i],G0e tw,by simpa using h⟩
 .rintro⟨b,hb,h⟩;obtain⟨i,hi⟩:=List.mem_iff_getElem?.mp hb;exact⟨i,List.mem_range.mpr (wt.mp hi).1,by rw[hi];simpa using h⟩
end L2
namespace SRT
open PySem PySem.Spec PyProof.Rows L2 PySem.W
section
variable{prog:Program}{w:World}{A:Around}{E:ZQ}{s:Shared}
theorem Ky{l:Addr}{o:Obj}{vs:ZK}{n:Nat}{T:String}{Q:ZK->Shared->Prop}(ho:s.heap.get? l=some o)(hc:o.cls=.type T)(hT:T = "list" \/ T = "tuple")(hd:o.data=.seq vs.toArray n)
  (h:Q vs { s with heap:=(s.heap.push (seqObj "list" #[] 0)).update s.heap.objs.size (Obj.mapSeq (·++vs.toArray)) }) (hsz:vs.length<=sizeLine) :
  wpAny (model prog w) A (collect (.ref l)) Q E s:=by
 unfold collect;refine Zy (wpAny_runValue (codeAny_builtin entry_proto_collect' ?_));show wpAny _ _ (do again (.builtin "list.__iadd__" ⟨[<-newList [],.ref l],[]⟩)) _ _ s;refine Zy (wpAny_newList (Z8 ⟨Code.quiet_builtin _ (by decide +kernel),codeAny_builtin entry_list_iadd' ?_⟩));show wpAny _ _ (Builtin.List.listExtendWith (.ref s.heap.objs.size) (.ref l) (.ref s.heap.objs.size)) _ _ { s with heap:=s.heap.push (seqObj "list" #[] 0) };unfold Builtin.List.listExtendWith;have wg:(s.heap.push (seqObj "list" #[] 0)).get? l=some o:=Vn _ ho;refine Zy (wpAny_typeOf (T:=T) ⟨o,wg,hc⟩ ?_)
 have ht:(Value.type T == Value.type "list" || Value.type T == Value.type "tuple")=true:=by
  rcases hT with rfl | rfl<;>rfl
 rw[if_pos (by rw[Bool.or_assoc,ht];simp)];refine Zy (listItems_at wg hd ?_);refine Zy (listItems_at (xs:=#[]) (n:=0) (Mw _ rfl) rfl ?_);rw[if_neg (by simp)];refine Zy (listUpdate_at (xs:=#[]) (n:=0) (Mw _ rfl) rfl ?_ (Mj _) (by show (#[]++vs.toArray).size<=sizeLine+1;simp only[Array.size_append,Ul,List.length_nil];omega));refine Z8 ?_
 show wpAny (model prog w) A (do
   let o <-load s.heap.objs.size
   match o.data with
   | .seq xs _=>pure xs.toList
   | _=>unsupported "internal:collect") Q E { s with heap:=(s.heap.push (seqObj "list" #[] 0)).update s.heap.objs.size (Obj.mapSeq (·++vs.toArray)) }
 refine Zy (wpAny_load (get?_update_seq (Mw _ rfl) _) ?_);show wpAny _ _ (pure ((#[]:ZD)++vs.toArray).toList) Q E _;rw[show ((#[]:ZD)++vs.toArray).toList=vs by simp];exact Z8 h
theorem Cj{l:Addr}{o:Obj}{vs:ZK}{n:Nat}{T:String}{Q:ZQ}(ho:s.heap.get? l=some o)(hc:o.cls=.type T)(hT:T = "list" \/ T = "tuple")(hd:o.data=.seq vs.toArray n)(hsz:vs.length<=sizeLine)
  (h:∀(h1:Heap) (D:Addr),(∀b ob,s.heap.get? b=some ob->h1.get? b=some ob)->s.heap.objs.size<=D->h1.get? D=some (seqObj "list" vs.toArray 0) ->
   wpAny (model prog w) A.in1 (call (.builtin "list.sort") [.ref D]) (fun _ s'=>Q (.ref D) s') E { s with heap:=h1 }) :
  wpAny (model prog w) A (call (.builtin "sorted") [.ref l]) Q E s:=by
 refine Calls.call_function_entry kind_sorted plain_sorted entry_sorted (args_sorted1 _) ?_;unfold Builtin.«sorted»;refine Zy (m:=checkCount "sorted" 1 1 _) (Z8 ?_);refine Zy (Ky ho hc hT hd ?_ hsz);refine Zy (wpAny_newList ?_ hsz)
 have wk:((s.heap.push (seqObj "list" #[] 0)).update s.heap.objs.size (Obj.mapSeq (·++vs.toArray))).objs.size=s.heap.objs.size+1:=by
  rw[Heap.size_update,size_push']
 have k1:∀b ob,s.heap.get? b=some ob->((s.heap.push (seqObj "list" #[] 0)).update s.heap.objs.size (Obj.mapSeq (·++vs.toArray))).get? b=some ob:=fun b ob e=>by
  rw[Heap.get?_update_ne _ _ _ _ (Fb (Mv e))];exact Vn _ e
 have hg:=h ((((s.heap.push (seqObj "list" #[] 0)).update s.heap.objs.size (Obj.mapSeq (·++vs.toArray)))).push (seqObj "list" vs.toArray 0)) _ (fun b ob e=>Vn _ (k1 b ob e)) (by rw[wk];exact Nat.le_succ _) (Mw _ rfl);refine Zy (wpAny_holding (wpAny_mono hg (fun _ s' x=>?_) fun _ _ e=>e));exact Z8 ⟨_,rfl,x⟩
def Srt(prog:Program)(w:World)(Ok:Heap->Prop)(vs:ZK)(R:ZK->Prop):Prop:=∀(A:Around) (E:ZQ) (s:Shared) (D:Addr) (Q:Shared->Prop),Ok s.heap->s.heap.get? D=some (seqObj "list" vs.toArray 0) ->
 (∀(h1:Heap) (out:ZD) (n:Nat),(∀b ob,b≠D->s.heap.get? b=some ob->h1.get? b=some ob)->h1.get? D=some (seqObj "list" out n)->R out.toList->Q { s with heap:=h1 }) ->
 wpAny (model prog w) A (call (.builtin "list.sort") [.ref D]) (fun _ s'=>Q s') E s
theorem yw{Ok:Heap->Prop}{vs:ZK}{zs:ZT}(hI:IntsAre vs zs)(h64:vs.length<64):Srt prog w Ok vs fun o=>IntsAre o (qb zs):=by
 intro A E s D Q _ Cp h;refine wpAny_call_entry slot_list_sort ⟨_,Cp,rfl⟩ entry_list_sort ?_ (args_list_sort _);refine list_sort_tree Cp hI h64 fun out ns q1 q2 q3=>⟨_,rfl, ?_⟩;obtain⟨n,e⟩:=sortedHeap_at (h:=s.heap) (a:=D) (vs:=vs) (n:=0) (out:=out) Cp;exact h _ out n (fun b ob nb e0=>SetM.Ub nb e0) e (by rw[<-pw q2 q3];exact q1)
theorem srt_strs{Ok:Heap->Prop}{vs:ZK}{ss:ZG}(hI:StrsAre vs ss)(h64:vs.length<64):Srt prog w Ok vs fun o=>StrsAre o (Vr ss):=by
 intro A E s D Q _ Cp h;refine wpAny_call_entry slot_list_sort ⟨_,Cp,rfl⟩ entry_list_sort ?_ (args_list_sort _);refine list_sort_treeK strKind_oneLt Cp hI.keysOf (fun v1 v2 rest e=>keyKind_strs (by rw[<-e];exact hI)) h64 fun st hp hs=>⟨_,rfl, ?_⟩;obtain⟨ns,q1,q2,q3⟩:=sorted_out_str hI hp hs;obtain⟨n,e⟩:=sortedHeap_at (h:=s.heap) (a:=D) (vs:=vs) (n:=0) (out:=(arrOf st).map (·.2)) Cp;exact h _ _ n (fun b ob nb e0=>SetM.Ub nb e0) e (by rw[<-px q2 q3];exact q1)
theorem qg{Ok:Heap->Prop}{vs:ZK}(hz:vs.length<2):Srt prog w Ok vs fun o=>o=vs:=by
 intro A E s D Q _ Cp h;refine wpAny_call_entry slot_list_sort ⟨_,Cp,rfl⟩ entry_list_sort ?_ (args_list_sort _);have ha:D<s.heap.objs.size:=Mv Cp;have sl:=sizeLine_eq;rw[list_sort_plain];refine Zy (listItems_at Cp rfl (Zy (listUpdate_at Cp rfl ?_ (by rw[Ul];omega) (Mj _))));obtain⟨e1,l5⟩:∃e1,(s.heap.update D (Obj.mapSeq fun _=>#[])).get? D=some (seqObj "list" #[] e1):=⟨_,get?_update_seq Cp (fun _=>#[])⟩;refine Zy (seqEpoch_at l5 rfl (Zy (wpAny_newTuple (Zy (wpAny_newList (wpAny_holding ?_) (Mj _))) (by show vs.length<=_;omega))))
 have ho6:(((s.heap.update D (Obj.mapSeq fun _=>#[])).push (seqObj "tuple" vs.toArray 0)).push (seqObj "list" #[] 0)).get? D=some (seqObj "list" #[] e1) :=
  Vn _ (Vn _ l5)
 show wpAny _ _ _ _ _ { s with heap:=((s.heap.update D (Obj.mapSeq fun _=>#[])).push (seqObj "tuple" vs.toArray 0)).push (seqObj "list" #[] 0) };dsimp only;have h2:vs.toArray.size<2:=by rw[Ul];exact hz
 rw[if_pos h2,if_pos h2];refine Zy (Z8 ?_);rw[StateT.run_pure];refine Zy (Z8 ?_);dsimp only;refine Zy (seqEpoch_at ho6 rfl (Zy (listUpdate_at ho6 rfl ?_ (Mj _) (by rw[Array.size_map];show (pairsOf vs).size<=_;rw[pairsOf_size];omega))));simp only[bne_self_eq_false,B0f,if_false];refine Z8 ⟨_,rfl, ?_⟩;obtain⟨n,e⟩:=sortedHeap_at (h:=s.heap) (a:=D) (vs:=vs) (n:=0) (out:=(pairsOf vs).map fun x:Keyed=>x.2) Cp;refine h (sortedHeap s.heap D vs ((pairsOf vs).map fun x:Keyed=>x.2)) ((pairsOf vs).map fun x:Keyed=>x.2) n (fun b ob nb e0=>SetM.Ub nb e0) e ?_;rw[Array.toList_map];unfold pairsOf;rw[Array.toList_zip];exact List.map_snd_zip (N4 _)
theorem Xp{h:Heap}:∀{vs:ZK},(∀v∈vs,∃a o xs n i t,v=.ref a/\h.get? a=some o/\o.cls=.type "tuple" /\ o.data=.seq xs n/\xs[0]?=some (.int i t))->∃fs,KatTups h vs fs/\fs.length=vs.length/\∀v∈fs,∃i t,v=.int i t
 | [],_=>⟨[],trivial,rfl,fun _ m=>absurd m J5⟩
 | v::vs,g=>by
  obtain⟨fs,k1,k2,k3⟩:=Xp (vs:=vs) fun v m=>g v (Y5 _ m);obtain⟨a,o,xs,n,i,t,rfl,h1,h2,h3,h4⟩:=g v Yb
  exact⟨.int i t::fs,⟨⟨a,o,xs,n,rfl,h1,h2,h3,h4⟩,k1⟩,by simp[k2],fun v m=>by
   rcases Ya.mp m with rfl | m
   .exact⟨_,_,rfl⟩
   .exact k3 v m⟩
end
end SRT
namespace EX
open PySem
section
variable{prog:Program}{w:World}{A:Around}{E:ZQ}{h:Heap}{g:Array GenState}{d:Drawn}{t:Nat}{os:OsState}
variable{nm q:Str}{C N:Addr}{bs bm bmB:ZK}{hdct:Bool}{sn:ZG}{sub:ZK}{ab:Bool}{col:Option Bool}{dd:ZR}{k0 k1 k2 k3 k5:ZF}{B newId initId:String}
end
section
variable{prog:Program}{w:World}{A:Around}{E:ZQ}{h:Heap}{g:Array GenState}{d:Drawn}{t:Nat}{os:OsState}
variable{nm q:Str}{C N:Addr}{bs bm bmB:ZK}{hdct:Bool}{sn:ZG}{sub:ZK}{ab:Bool}{col:Option Bool}{dd:ZR}{k0 k1 k2 k3 k5:ZF}{B newId initId:String}
end
end EX
namespace EX
open PySem Builtin Builtin.ObjectAttr
section
variable{prog:Program}{w:World}{A:Around}{E:ZQ}{s:Shared}{x C:Addr}{o:Obj}{name:Str}{v:Value}
end
section
variable{prog:Program}{w:World}{A:Around}{E:ZQ}{s:Shared}{x C dx:Addr}{o:Obj}{name:Str}{v:Value}{mA:ZJ}{vs:ZD}
end
end EX
namespace TupR
open PySem
theorem noFill:fillsNumberSlot (.type "tuple") "mul" = pure false :=
 fillsNumberSlot_seq (id:="tuple.__mul__") (r:=some (.builtin "tuple.__rmul__")) PySem.F.slot_tuple_mul.lookup (by decide +kernel) PySem.F.slot_tuple_rmul.lookup (by decide +kernel)
theorem rep:seqRepeat? (.type "tuple")=pure (some (.builtin "tuple.__mul__")):=by
 unfold seqRepeat?;rw[seqSlot_of (T:="tuple") (name:="__mul__") (id:="tuple.__mul__") PySem.F.slot_tuple_mul.lookup (by decide +kernel)];rw[seqSlot_of (T:="tuple") (name:="__rmul__") (id:="tuple.__rmul__") PySem.F.slot_tuple_rmul.lookup (by decide +kernel)]
 rfl
noncomputable abbrev tO(dd:ZR)(its:ZD)(n:Nat)(sl:ZY):Obj:={ cls:=.type "tuple",dict:=dd,data:=.seq its n,slots:=sl }
theorem declines(a:Int)(t:Tok)(l:Addr)(its:ZD)(n:Nat)(dd:ZR)(sl:ZY) :
  Meets (Builtin.«int.__rmul__» ⟨[.int a t,.ref l],[]⟩) (fun _ R s=>s.heap.get? l=some (tO dd its n sl)/\R (.ok (.ret Value.notImplemented)) s) :=
 .of_wp fun prog w A R s h=>by
  obtain⟨hp,g,d,tk,os⟩:=s;obtain⟨hl,h⟩:=h
  wp_walk
  exact⟨_,rfl,h⟩
theorem rep0(l:Addr)(v:Value)(n:Nat)(u:Tok)(dd:ZR)(sl:ZY) :
  Meets (Builtin.«tuple.__mul__» ⟨[.ref l,.int 0 u],[]⟩) (fun _ R s=>s.heap.get? l=some (tO dd #[v] n sl)/\R (.ok (.ret (.ref s.heap.objs.size))) { s with heap:=s.heap.push { cls:=.type "tuple",data:=.seq #[] } }) :=
 .of_wp fun prog w A R s h=>by
  obtain⟨hp,g,d,tk,os⟩:=s;obtain⟨hl,h⟩:=h
  wp_walk using wpAny_loadPart' hl
  exact⟨_,rfl,h⟩
theorem rep1(l:Addr)(v:Value)(n:Nat)(u:Tok)(dd:ZR)(sl:ZY) :
  Meets (Builtin.«tuple.__mul__» ⟨[.ref l,.int 1 u],[]⟩) (fun _ R s=>s.heap.get? l=some (tO dd #[v] n sl)/\R (.ok (.ret (.ref l))) s) :=
 .of_wp fun prog w A R s h=>by
  obtain⟨hp,g,d,tk,os⟩:=s;obtain⟨hl,h⟩:=h
  wp_walk using wpAny_loadPart' hl
  exact⟨_,rfl,h⟩
theorem fr(v:Value):∀(m:Nat) (acc:ZD),(List.replicate m #[v]).foldl (fun a b=>a++b) acc=acc++(List.replicate m v).toArray
 | 0,acc=>by simp
 | m+1,acc=>by rw[List.replicate_succ,List.foldl_cons,fr v m,List.replicate_succ];exact Array.ext' (by simp)
theorem repG(l:Addr)(v:Value)(n:Nat)(u:Tok)(dd:ZR)(sl:ZY){k:Int}(h2:2<=k)(h9:k<=1000) :
  Meets (Builtin.«tuple.__mul__» ⟨[.ref l,.int k u],[]⟩) (fun _ R s=>s.heap.get? l=some (tO dd #[v] n sl)/\R (.ok (.ret (.ref s.heap.objs.size))) { s with heap:=s.heap.push { cls:=.type "tuple",data:=.seq (List.replicate k.toNat v).toArray } }) :=
 .of_wp fun prog w A R s h=>by
  obtain⟨hp,g,d,tk,os⟩:=s;obtain⟨hl,h⟩:=h;have e1:(decide (k < -(2 ^ 63)) || decide (k ≥ 2 ^ 63))=false:=by rw[Bool.or_eq_false_iff];exact⟨Mr (by omega),Mr (by omega)⟩
  have e2:(k == 1)=false:=by rw[B0n];omega
  have e3:¬ k<=0:=by omega
  have e4:(#[v].isEmpty || k == 1)=false:=by rw[e2];rfl
  have e5:(decide (k<=0) || #[v].isEmpty)=false:=by rw[Mr e3];rfl
  have e6:¬ ((#[v].size:Nat):Int) * k>(2 ^ 63 - 1) / 8:=by show ¬ (1:Int) * k>_;omega
  have e7:Builtin.Tuple.tupleTooMany (((#[v].size:Nat):Int) * k)=false:=Mr (by show ¬ (1:Int) * k>((16777216:Nat):Int);omega);have nf:¬ (false=true):=Qv
  wp_walk using wpAny_loadPart' hl
  rw[e1,if_neg nf]
  wp_walk using wpAny_loadPart' hl
  rw[if_neg e6]
  wp_walk using wpAny_loadPart' hl
  rw[e7,if_neg nf];have e8:(List.replicate k.toNat #[v]).foldl (fun a b=>a++b) #[]=(List.replicate k.toNat v).toArray:=by rw[fr];simp
  have e9:¬ (List.replicate k.toNat v).toArray.size>sizeLine:=by
   have:(sizeLine:Nat)=16777216:=by decide
   rw[Ul,List.length_replicate];omega
  rw[e8]
  wp_walk using wpAny_loadPart' hl
  rw[if_neg e9]
  wp_walk using wpAny_loadPart' hl
  exact⟨_,rfl,h⟩
end TupR
namespace PV
open PySem
structure ExcD where
 c:Str
 fld:Str
 sup:ZG
open PySem.Spec PyProof.Rows L2
inductive T where
 | non | bl(b:Bool) | int(i:Int) | str(x:Str) | tup(ts:List T) | lst(ts:List T) | dct(XY:List (Key×T)) | fn(x:Str) | exn(c:Str)(t:T)
abbrev ZZ:=List T
abbrev ZX:=List (Key×T)
inductive Sl where | no | f(t:T) | o(t:T)
abbrev P:=List Sl
set_option genInjectivity true in
inductive A where | t(t:T) | s(i:Nat)
inductive Op where | add | sub | mul | fdiv | mod | pow
inductive Cm where | eq | ne | lt | le | gt | ge | isin | notin | is | isnt
inductive Kd where | int | bool | str | tuple | list | dict
inductive Pr where
 | op(o:Op) | cm(c:Cm) | c2(c d:Cm) | neg | ix | sl(lo hi:Bool) | rev
 | len | all | any | list | tuple | sorted | min | max | int | repr | dict | sum | abs | str | isi (n:Kd) | get1 | get2 | join (x:Str) | lvals | tup1 | dnew | dct2 | sl2 | srtP | tix (x:Str)
inductive Mt where | append | extend | pop | popAt | insert
inductive Ik where | rng | zip
inductive E where
 | v(i:Nat) | mv(i:Nat) | io(i:Nat) | k(t:T) | g(x:Str)
 | nil | cons (a r:E)
 | tup (es:E) | lst (es:E) | pr (p:Pr) (es:E)
 | and (a b:E) | or (a b:E) | not (a:E) | ite (c a b:E)
 | call (f:Str) (es:E) | cal (i:Nat) (es:E) | mt (m:Mt) (i:Nat) (es:E)
 | comp (tg it c el:E) (fr:ZV) (ns:ZG) | itr (k:Ik) (es:E) | tmp (a:E) | tmB (a:E)
inductive S where
 | nil | seq(a r:S) | ret(a:E) | ex(a:E) | set(i:Nat)(a:E) | unp(tg a:E) | put(i:Nat)(k a:E)
 | ite (c:E) (a b:S) | loop (tg it:E) (b:S) | wh (c:E) (b:S) | pass | brk | cont | rais (c:Str) (a:E) | tri (b:S) (c:Str) (i:ZL) (h:S)
def excs:List ExcD:=[]
noncomputable def fldX(c:Str):Str:=match excs.find? fun x=>decide (x.c=c) with
 | some x=>x.fld
 | none => ""
noncomputable def subX(c d:Str):Bool:=match excs.find? fun x=>decide (x.c=c) with
 | some x=>x.sup.any fun y=>decide (y=d)
 | none=>false
noncomputable def Lu(x:Str):Option (ZX) :=
 if x = "ITEM_SORTS" then some [(.inr "whole",.str "whole"),(.inr "truth",.str "whole"),(.inr "text",.str "text"),(.inr "row",.str "row"),(.inr "map",.str "map"),(.inr "record",.str "rec"),(.inr "choice",.str "arm")]
 else none
noncomputable def W2:ZG:="is_whole" :: "is_item_whole" :: "is_number" :: "is_text" :: "is_name" :: "rises" :: "is_item" :: "level_below" :: "items_in" :: "is_right_outside" :: "is_right_behind" :: "are_pairs" :: "are_labels" :: "is_single_value" :: "item_sort" :: "bounds_of" :: "member_of" :: "may_be_left_out" :: "form_of" :: "is_form" :: "is_value" :: "is_right_through" :: "parts_in" :: "parts_in_row" :: "parts_in_map" :: "parts_in_record" :: "are_others" :: "parts_in_choice" :: "written" :: "written_fields" :: "tells_alike" :: "parts_of_both" :: "parts_of_rows" :: "parts_of_maps" :: "parts_of_records" :: "parts_of_choices" :: "lets_read" :: "lets_keep" :: "is_paper" :: "holds" :: "is_right_empty" :: "is_right_pair" :: "are_right_fields" :: "may_lack" :: "are_left_out_alike" :: "is_right_arm" :: "is_kept_pair" :: "is_kept_field" :: "may_go" :: "value_as" :: "_law_tape" :: "_law_draw" :: "_law_price" :: "_law_prices" :: "_law_light" :: "_law_word" :: "_law_names" :: "_law_plain" :: "_law_default" :: "_law_numbers" :: "_law_parts" :: "_law_struck" :: "_law_make" :: "_law_number_turned" :: "_law_shape_turned" :: "_law_fixed" :: "_law_turned" :: "_law_bounds" :: "_law_holds" :: "_law_alike" :: "_law_fields_right" :: "_law_pair_right" :: "_law_comes" :: "_law_pair_kept" :: "_law_is_void" :: "_law_is_paper" :: "_law_let_by" :: "_law_great" :: "_law_mates" :: "_law_bent" :: "_law_codes" :: "_law_right" :: "law" :: []
noncomputable def Yx(ts:ZZ)(lo hi:ZC):ZZ:=(ts.drop (HT.Vc ts.length 0 lo)).take (HT.Vc ts.length ts.length hi - HT.Vc ts.length 0 lo)
noncomputable def Zj(XY:ZX)(k:Key):Option T:=(XY.find? fun p=>decide (p.1=k)).map (·.2)
noncomputable def Ym(XY:ZX)(k:Key)(v:T):ZX :=
 if (XY.any fun p=>decide (p.1=k))=true then XY.map fun p=>if p.1=k then (p.1,v) else p else XY++[(k,v)]
noncomputable def Tn:T->Option Key
 | .int i=>some (.inl i)
 | .str x=>some (.inr x)
 | _=>none
def Ms:Key->T
 | .inl i=>.int i
 | .inr x=>.str x
noncomputable def allB:ZZ->Option (List Bool)
 | []=>some []
 | .bl b::r=>(allB r).map (b::·)
 | _::_=>none
def Gy:T->Bool
 | .non=>true
 | .bl _=>true
 | .int _=>true
 | .str _=>true
 | _=>false
noncomputable def eqF:T->T->Option Bool
 | .non,b=>some (match b with
  | .non=>true
  | _=>false)
 | .bl a,b=>some (match b with
  | .bl c=>a == c
  | .int c=>(if a then 1 else 0) == c
  | _=>false)
 | .int a,b=>some (match b with
  | .bl c=>a == (if c then 1 else 0)
  | .int c=>a == c
  | _=>false)
 | .str a,b=>some (match b with
  | .str c=>a == c
  | _=>false)
 | .tup _,_=>some false
 | _,_=>none
noncomputable def eqT:T->T->Option Bool
 | .str a,.str b=>some (decide (a=b))
 | .int a,.int b=>some (decide (a=b))
 | a,b=>if Gy b=true then eqF a b else none
def Sw:T->Option (ZZ)
 | .tup ts=>some ts
 | _=>none
noncomputable def eq1(a b:T):Option Bool:=match Sw b with
 | none=>eqT a b
 | some bs=>if bs.isEmpty=true then (match Sw a with
  | some as=>some as.isEmpty
  | none=>if Gy a=true then some false else none) else none
noncomputable def Iq:ZZ->ZZ->Option Bool
 | [],[]=>some true
 | [],_::_=>some false
 | _::_,[]=>some false
 | a::r,b::q=>(eq1 a b).bind fun x=>(Iq r q).map (x && ·)
noncomputable def Hy(a b:T):Option Bool:=match Sw b with
 | none=>eqT a b
 | some bs=>(Sw a).bind fun as=>Iq as bs
noncomputable def o7:T->T->Option Bool
 | .int a,.int b=>some (decide (a<b))
 | .str a,.str b=>some (decide (a.cps.toList<b.cps.toList))
 | .bl a,.bl b=>some (!a && b)
 | _,_=>none
noncomputable def ltTs:ZZ->ZZ->Option Bool
 | [],bs=>some (!bs.isEmpty)
 | a::r,bs=>match bs with
  | []=>some false
  | b::q=>if r.isEmpty=true/\q.isEmpty=true then o7 a b else none
def ltE(a b:T):Option Bool:=match Sw b with
 | none=>o7 a b
 | some bs=>(Sw a).bind fun as=>ltTs as bs
noncomputable def D3:ZZ->ZZ->Option Bool
 | [],bs=>some (!bs.isEmpty)
 | _::_,[]=>some false
 | a::r,b::q=>(Hy a b).bind fun e=>if e=true then D3 r q else ltE a b
noncomputable def R8:ZZ->Option (List (ZZ))
 | []=>some []
 | .tup (.int i::r)::ts=>(R8 ts).map ((.int i::r)::·)
 | _::_=>none
noncomputable def M8(ts:ZZ):Option (ZZ):=(R8 ts).bind fun us=>if ts.length<2 then some ts else
 if ts.length<64/\∀a∈us,∀b∈us,(D3 a b).isSome=true then some ((SRT.srtN ts.length fun i j=>(D3 (us.getD i []) (us.getD j [])).getD false).map fun i=>ts.getD i .non) else none
noncomputable def ltT:T->T->Option Bool
 | .int a,.int b=>some (decide (a<b))
 | _,_=>none
def geT:T->T->Option Bool
 | .int a,.int b=>some (decide (b<=a))
 | _,_=>none
noncomputable def Ja(a:T):ZZ->Option Bool
 | []=>some false
 | t::r=>(Hy t a).bind fun b=>(Ja a r).map (b || ·)
noncomputable def Gw:ZZ->Option (ZT)
 | []=>some []
 | .int i::r=>(Gw r).map (i::·)
 | _::_=>none
noncomputable def M7:ZZ->Option (ZG)
 | []=>some []
 | .str i::r=>(M7 r).map (i::·)
 | _::_=>none
def X9:Key->PyData
 | .inl i=>.int i
 | .inr x=>.str x
mutual
noncomputable def toPy:T->Option PyData
 | .non=>some .none
 | .bl b=>some (.bool b)
 | .int i=>some (.int i)
 | .str x=>some (.str x)
 | .tup ts=>(Jq ts).map .tuple
 | .lst ts=>(Jq ts).map .list
 | .dct XY=>(M6 XY).map .dict
 | .fn _=>none
 | .exn _ _=>none
noncomputable def Jq:ZZ->Option (List PyData)
 | []=>some []
 | t::r=>(toPy t).bind fun d=>(Jq r).map (d::·)
noncomputable def M6:ZX->Option (List (PyData×PyData))
 | []=>some []
 | (k,t)::r=>(toPy t).bind fun d=>(M6 r).map ((X9 k,d)::·)
end
noncomputable def rpT(t:T):Option Str:=(toPy t).bind fun d=>if d.showable=true/\d.shown.length<=sizeLine/\d.depth<=100 then some d.shown else none
def B5:T->Bool
 | .lst _=>true
 | .dct _=>true
 | _=>false
def inF(a:T)(ts:ZZ):Option Bool:=if B5 a=false then Ja a ts else none
noncomputable def tx:T->Str->Option Bool
 | .str x,y=>some (!(Builtin.Str.occurrences y x 0 y.length 1).isEmpty)
 | _,_=>none
noncomputable def inT(a:T):T->Option Bool
 | .lst ts=>inF a ts
 | .tup ts=>inF a ts
 | .dct XY=>(Tn a).map fun k=>(Zj XY k).isSome
 | .str y=>tx a y
 | _=>none
noncomputable def ie:T->T->Option Bool
 | .non,.non=>some true
 | .bl a,.bl b=>some (a == b)
 | _,.non=>some false
 | _,_=>none
noncomputable def eqC:T->T->Option Bool
 | .tup ts,.tup []=>some ts.isEmpty
 | .lst ts,.lst []=>some ts.isEmpty
 | a,.tup []=>if Gy a=true then some false else none
 | a,b=>eqT a b
noncomputable def eqG:T->T->Option Bool
 | .tup ts,.tup (b::q)=>Iq ts (b::q)
 | a,b=>eqC a b
noncomputable def Dn:Cm->T->T->Option Bool
 | .eq,a,b=>eqG a b
 | .ne,a,b=>(eqG a b).map not
 | .lt,a,b=>ltT a b
 | .gt,a,b=>ltT b a
 | .le,a,b=>(ltT b a).map not
 | .ge,a,b=>geT a b
 | .isin,a,b=>inT a b
 | .notin,a,b=>(inT a b).map not
 | .is,a,b=>ie a b
 | .isnt,a,b=>(ie a b).map not
noncomputable def de(f:Int->Int->Option Sl)(t t':T):Option Sl:=match t with
 | .int a=>(match t' with
  | .int b=>f a b
  | _=>none)
 | _=>none
noncomputable def addT(t t':T):Option Sl:=match t with
 | .int a=>(match t' with
  | .int b=>some (.f (.int (a+b)))
  | _=>none)
 | .str a=>(match t' with
  | .str b=>if a.length+b.length<=sizeLine then some (.f (.str (a++b))) else none
  | _=>none)
 | .lst a=>(match t' with
  | .lst b=>if a.length+b.length<=sizeLine then some (.o (.lst (a++b))) else none
  | _=>none)
 | .tup a=>(match t' with
  | .tup b=>if a.length+b.length<=sizeLine then some (.f (.tup (a++b))) else none
  | _=>none)
 | .bl a=>(match t' with
  | .int b=>some (.f (.int ((if a=true then 1 else 0)+b)))
  | _=>none)
 | _=>none
noncomputable def mulT(t t':T):Option Sl:=match t with
 | .int a=>(match t' with
  | .int b=>if (-(2 ^ 64)<a/\a<2 ^ 64)\/(-(2 ^ 64)<b/\b<2 ^ 64) then some (.f (.int (a * b))) else none
  | _=>none)
 | .str a=>(match t' with
  | .int n=>if 0<=n/\n<=1000/\a.length<=1000 then some (.f (.str (repS a n.toNat))) else none
  | _=>none)
 | .tup [x]=>(match t' with
  | .int n=>if 0<=n/\n<=1000 then some (.f (.tup (List.replicate n.toNat x))) else none
  | _=>none)
 | _=>none
noncomputable def ao(o:Op)(t t':T):Option Sl:=match o with
 | .add=>addT t t'
 | .sub=>de (fun a b=>some (.f (.int (a - b)))) t t'
 | .mul=>mulT t t'
 | .fdiv=>de (fun a b=>if 0<b/\b<1073741824 then some (.f (.int (a / b))) else none) t t'
 | .mod=>de (fun a b=>if 0<b then some (.f (.int (a % b))) else none) t t'
 | .pow=>de (fun a b=>if 0<=b/\b<=1000000/\a.natAbs<2 ^ 64 then some (.f (.int (a ^ b.toNat))) else none) t t'
noncomputable def Ek:T->T->Option T
 | .tup ts,.int i=>Ls ts i
 | .lst ts,.int i=>Ls ts i
 | .str z,.int i=>if z.length<=sizeLine then (Ls z.cps.toList i).map fun c=>.str ⟨#[c]⟩ else none
 | .dct XY,k=>(Tn k).bind (Zj XY)
 | _,_=>none
noncomputable def slT:T->ZC->ZC->Option Sl
 | .tup ts,lo,hi=>some (.f (.tup (Yx ts lo hi)))
 | .lst ts,lo,hi=>some (.o (.lst (Yx ts lo hi)))
 | .str z,lo,hi=>if z.length<=sizeLine then some (.f (.str (Txt.slice z lo hi))) else none
 | _,_,_=>none
noncomputable def m4:T->ZL
 | .tup ts=>some ts.length
 | .lst ts=>some ts.length
 | .dct ts=>some ts.length
 | .str z=>if z.length<=sizeLine then some z.length else none
 | _=>none
noncomputable def Ap:Kd->T->Option Bool
 | .int,.int _=>some true
 | .int,.bl _=>some true
 | .bool,.bl _=>some true
 | .str,.str _=>some true
 | .tuple,.tup _=>some true
 | .list,.lst _=>some true
 | .dict,.dct _=>some true
 | _,.fn _=>none
 | _,.exn _ _=>none
 | _,_=>some false
def Ed:T->ZC
 | .int i=>some i
 | _=>none
noncomputable def Di:ZZ->Option (ZX)
 | []=>some []
 | .tup [a,b]::r=>(Tn a).bind fun k=>(Di r).map ((k,b)::·)
 | _::_=>none
noncomputable def Ql(ts:ZZ):Option (ZZ) :=
 if ts.length<64 then match Gw ts with
  | some zs=>some ((SRT.qb zs).map .int)
  | none=>(M7 ts).map fun ss=>(SRT.Vr ss).map .str
 else none
mutual
def noC:T->Bool
 | .tup ts=>fm ts
 | .lst _=>false
 | .dct _=>false
 | .fn _=>false
 | .exn _ _=>false
 | _=>true
def fm:ZZ->Bool
 | []=>true
 | t::r=>noC t && fm r
end
noncomputable def Zxf:ZZ->Option (List (Int×Int))
 | []=>some []
 | .tup (.int i::.int j::_)::r=>(Zxf r).map ((i,j)::·)
 | _::_=>none
noncomputable def lexB(a b:Int×Int):Bool:=if a.1=b.1 then decide (a.2<b.2) else decide (a.1<b.1)
noncomputable def minT(ts:ZZ):Option T:=(Zxf ts).bind fun hs=>if hs.Nodup then ((hs.zip ts).find? fun p=>hs.all fun q=>!lexB q p.1).map (·.2) else none
noncomputable def oa:ZT->ZC
 | []=>none
 | z::r=>some (r.foldl (fun a b=>if a<b then b else a) z)
noncomputable def oy:ZT->ZC
 | []=>none
 | z::r=>some (r.foldl (fun a b=>if b<a then b else a) z)
theorem ou{zs:ZT}{m:Int}(h:oa zs=some m):m∈zs/\∀a∈zs,a<=m:=by
 cases zs with
 | nil=>cases h
 | cons z r =>
  cases h
  induction r generalizing z with
  | nil=>exact⟨Yb,fun a m=>by rw[Dl.mp m];exact Int.le_refl _⟩
  | cons y r ih =>
   obtain⟨h1,h2⟩:=ih (if z<y then y else z);have e:(if z<y then y else z)=z\/(if z<y then y else z)=y:=by split<;>simp
   have g:=h2 _ Yb;refine⟨?_,fun a m=>?_⟩
   .rw[List.foldl_cons];rcases Ya.mp h1 with h | h
    .rw[h];rcases e with e | e<;>rw[e]<;>simp
    .exact Y5 _ (Y5 _ h)
   .rw[List.foldl_cons];rcases Ya.mp m with rfl | m
    .split at g<;>(split<;>omega)
    .rcases Ya.mp m with rfl | m
     .split at g<;>(split<;>omega)
     .exact h2 a (Y5 _ m)
theorem Pq{zs:ZT}{m:Int}(h:oy zs=some m):m∈zs/\∀a∈zs,m<=a:=by
 cases zs with
 | nil=>cases h
 | cons z r =>
  cases h
  induction r generalizing z with
  | nil=>exact⟨Yb,fun a m=>by rw[Dl.mp m];exact Int.le_refl _⟩
  | cons y r ih =>
   obtain⟨h1,h2⟩:=ih (if y<z then y else z);have e:(if y<z then y else z)=z\/(if y<z then y else z)=y:=by split<;>simp
   have g:=h2 _ Yb;refine⟨?_,fun a m=>?_⟩
   .rw[List.foldl_cons];rcases Ya.mp h1 with h | h
    .rw[h];rcases e with e | e<;>rw[e]<;>simp
    .exact Y5 _ (Y5 _ h)
   .rw[List.foldl_cons];rcases Ya.mp m with rfl | m
    .split at g<;>(split<;>omega)
    .rcases Ya.mp m with rfl | m
     .split at g<;>(split<;>omega)
     .exact h2 a (Y5 _ m)
def og(ts:ZZ):Option Sl:=match Gw ts with
 | some zs=>(oy zs).map fun m=>.f (.int m)
 | none=>none
noncomputable def thr:T->Option (T×T×T)
 | .tup [a,b,c]=>some (a,b,c)
 | _=>none
theorem thr_is{t:T}{q:T×T×T}(h:thr t=some q):t=.tup [q.1,q.2.1,q.2.2]:=by
 unfold thr at h
 split at h
 .cases h;rfl
 .cases h
def pOp(o:Op):ZZ->Option Sl
 | [a,b]=>ao o a b
 | _=>none
noncomputable def pCm(c:Cm):ZZ->Option Sl
 | [a,b]=>(Dn c a b).map fun r=>.f (.bl r)
 | _=>none
noncomputable def pC2(c:Cm)(d:Cm):ZZ->Option Sl
 | [a,b,e]=>(Dn c a b).bind fun r=>if r=true then (Dn d b e).map fun r=>.f (.bl r) else some (.f (.bl false))
 | _=>none
noncomputable def pNeg:ZZ->Option Sl
 | [.int i]=>some (.f (.int (-i)))
 | _=>none
noncomputable def pIx:ZZ->Option Sl
 | [a,b]=>(Ek a b).map .f
 | _=>none
noncomputable def pSl10:ZZ->Option Sl
 | [a,l]=>(Ed l).bind fun i=>slT a (some i) none
 | _=>none
def pSl01:ZZ->Option Sl
 | [a,h]=>(Ed h).bind fun j=>slT a none (some j)
 | _=>none
noncomputable def pSl11:ZZ->Option Sl
 | [a,l,h]=>(Ed l).bind fun i=>(Ed h).bind fun j=>slT a (some i) (some j)
 | _=>none
noncomputable def pLen:ZZ->Option Sl
 | [a]=>(m4 a).map fun n=>.f (.int n)
 | _=>none
noncomputable def pAll:ZZ->Option Sl
 | [.lst ts]=>(allB ts).map fun bs=>.f (.bl (bs.all id))
 | _=>none
def pAny:ZZ->Option Sl
 | [.lst ts]=>(allB ts).map fun bs=>.f (.bl (bs.any id))
 | _=>none
noncomputable def g0:ZZ->Option Sl
 | [.tup ts]=>some (.o (.lst ts))
 | [.dct XY]=>some (.o (.lst (XY.map fun p=>Ms p.1)))
 | _=>none
noncomputable def Q2:ZZ->Option Sl
 | [.lst ts]=>(Ql ts).map fun us=>.o (.lst us)
 | [.dct XY]=>(Ql (XY.map fun p=>Ms p.1)).map fun us=>.o (.lst us)
 | _=>none
noncomputable def Aq:ZZ->Option Sl
 | [.lst ts]=>some (.f (.tup ts))
 | _=>none
noncomputable def pMin:ZZ->Option Sl
 | [.int a,.int b]=>some (.f (.int (if b<a then b else a)))
 | [.int a,.bl b]=>some (.f (if decide ((if b=true then (1:Int) else 0)<a)=true then .bl b else .int a))
 | [.lst ts]=>og ts
 | _=>none
noncomputable def pMax:ZZ->Option Sl
 | [.int a,.int b]=>some (.f (.int (if b>a then b else a)))
 | [.int a,.bl b]=>some (.f (if decide ((if b=true then (1:Int) else 0)>a)=true then .bl b else .int a))
 | [.lst ts]=>(Gw ts).bind fun zs=>(oa zs).map fun m=>.f (.int m)
 | _=>none
noncomputable def pInt:ZZ->Option Sl
 | [.int i]=>some (.f (.int i))
 | [.bl b]=>some (.f (.int (if b then 1 else 0)))
 | [.str z]=>if z.length<=640 then (PySem.intText? z).map fun n=>.f (.int n) else none
 | _=>none
def pIsi(n:Kd):ZZ->Option Sl
 | [a]=>(Ap n a).map fun r=>.f (.bl r)
 | _=>none
noncomputable def fq:ZZ->Option Sl
 | [.dct XY]=>some (.o (.dct XY))
 | [.lst ts]=>(Di ts).map fun XY=>.o (.dct (XY.foldl (fun acc kv=>Ym acc kv.1 kv.2) []))
 | _=>none
def gh:ZZ->Option Sl
 | [a]=>(rpT a).map fun z=>.f (.str z)
 | _=>none
def pDnew:ZZ->Option Sl
 | []=>some (.o (.dct []))
 | _=>none
noncomputable def pGet1:ZZ->Option Sl
 | [.dct XY,k]=>(Tn k).map fun k=>.f ((Zj XY k).getD .non)
 | _=>none
noncomputable def pGet2:ZZ->Option Sl
 | [.dct XY,k,x]=>if B5 x=true then none else (Tn k).map fun k=>.f ((Zj XY k).getD x)
 | _=>none
noncomputable def zd:ZZ->Option Sl
 | [.tup ts]=>(M8 ts).map fun us=>.o (.lst us)
 | [.lst ts]=>(M8 ts).map fun us=>.o (.lst us)
 | _=>none
def Sv(x:Str)(z:Str):Option T:=(Lu x).bind fun XY=>Zj XY (.inr z)
noncomputable def pTin(x:Str):ZZ->Option Sl
 | [.str z]=>(Sv x z).map fun _=>.f (.bl true)
 | _=>none
noncomputable def aa(x:Str):ZZ->Option Sl
 | [.str z]=>(Sv x z).map .f
 | _=>none
def pTup1:ZZ->Option Sl
 | [t]=>if B5 t=true then none else some (.f (.tup [t]))
 | _=>none
noncomputable def pRev:ZZ->Option Sl
 | [.tup ts]=>some (.f (.tup ts.reverse))
 | [.lst ts]=>some (.o (.lst ts.reverse))
 | _=>none
noncomputable def pAbs:ZZ->Option Sl
 | [.int i]=>some (.f (.int (if i<0 then -i else i)))
 | _=>none
noncomputable def pSum:ZZ->Option Sl
 | [.lst ts]=>(Gw ts).map fun zs=>.f (.int zs.sum)
 | _=>none
noncomputable def pStr:ZZ->Option Sl
 | [.int i]=>if i.natAbs.log2<1920 then some (.f (.str (toString i))) else none
 | _=>none
noncomputable def pLvals:ZZ->Option Sl
 | [.dct XY]=>some (.o (.lst (XY.map (·.2))))
 | _=>none
noncomputable def pSl2:ZZ->Option Sl
 | [t]=>(thr t).map fun q=>.f (.tup [q.1,q.2.2])
 | _=>none
noncomputable def pDct2:ZZ->Option Sl
 | [.str a,t,.str b,u]=>if a=b\/B5 t=true\/B5 u=true then none else some (.o (.dct [(.inr a,t),(.inr b,u)]))
 | _=>none
noncomputable def pJoin(x:Str):ZZ->Option Sl
 | [.lst ts]=>(M7 ts).bind fun ss=>if (ss.map (·.length)).sum+ss.length * x.length<=16777216 then some (.f (.str (Txt.join x ss))) else none
 | _=>none
noncomputable def Ww:Pr->ZZ->Option Sl
 | .op o=>pOp o
 | .cm c=>pCm c
 | .c2 c d=>pC2 c d
 | .neg=>pNeg
 | .ix=>pIx
 | .sl true false=>pSl10
 | .sl false true=>pSl01
 | .sl true true=>pSl11
 | .len=>pLen
 | .all=>pAll
 | .any=>pAny
 | .list=>g0
 | .sorted=>Q2
 | .tuple=>Aq
 | .min=>pMin
 | .max=>pMax
 | .int=>pInt
 | .isi n=>pIsi n
 | .dict=>fq
 | .repr=>gh
 | .dnew=>pDnew
 | .get1=>pGet1
 | .srtP=>zd
 | .tix x=>aa x
 | .get2=>pGet2
 | .tup1=>pTup1
 | .rev=>pRev
 | .abs=>pAbs
 | .sum=>pSum
 | .str=>pStr
 | .lvals=>pLvals
 | .sl2=>pSl2
 | .dct2=>pDct2
 | .join x=>pJoin x
 | _=>fun _=>none
noncomputable def tmpR:Sl->Option Sl
 | .f t=>if noC t=true then some (.f t) else none
 | .o t=>(match t with
  | .dct XY=>if XY.all (fun p=>noC p.2)=true then some (.o (.dct XY)) else none
  | _=>none)
 | .no=>none
noncomputable def look(p:P)(a:A):Option T :=
 match a with
 | .t t=>some t
 | .s i=>match p[i]? with
  | some (.f t)=>some t
  | some (.o t)=>some t
  | _=>none
noncomputable def looks(p:P):List A->Option (ZZ)
 | []=>some []
 | a::r=>(look p a).bind fun t=>(looks p r).map (t::·)
def frs:Sl->Sl
 | .o t=>.f t
 | s=>s
def frz(p:P):P:=p.map frs
noncomputable def args(p:P):List A->Option (List Sl)
 | []=>some []
 | .t t::r=>(args p r).map (.f t::·)
 | .s i::r=>match p[i]? with
  | some (.o t)=>(args (p.set i .no) r).map (.o t::·)
  | _=>none
def mkO:T->Sl
 | .fn _=>.no
 | t=>.o t
theorem mkO_f{t u:T}:mkO t≠.f u:=by cases t<;>exact fun z=>nomatch z
noncomputable def outs(p:P):List A->ZZ->Option P
 | [],[]=>some p
 | .t _::r,ts=>outs p r ts
 | .s i::r,t::ts=>outs (p.set i (mkO t)) r ts
 | _,_=>none
noncomputable def Ex(p:P):List A->P
 | []=>p
 | .t _::r=>Ex p r
 | .s i::r=>Ex (p.set i .no) r
noncomputable def fre(fr:ZV)(p:P):P:=fr.map fun o=>match o with
 | some j=>(p[j]?).getD .no
 | none=>.no
noncomputable def back:ZV->P->P->P
 | some j::fr,s::q,p=>back fr q (p.set j s)
 | none::fr,_::q,p=>back fr q p
 | _,_,p=>p
mutual
noncomputable def asg:E->T->P->Option P
 | .v i,t,p=>some (p.set i (.f t))
 | .tup es,.tup ts,p=>K2 es ts p
 | _,_,_=>none
noncomputable def K2:E->ZZ->P->Option P
 | .nil,[],p=>some p
 | .cons a r,t::ts,p=>(asg a t p).bind fun q=>K2 r ts q
 | _,_,_=>none
end
def thaw:Sl->Option T
 | .f t=>some t
 | .o t=>some t
 | .no=>none
noncomputable def Fc:T->Option (ZZ)
 | .tup ts=>some ts
 | .lst ts=>some ts
 | .dct XY=>some (XY.map fun p=>Ms p.1)
 | .str z=>if z.length<=sizeLine then some (z.cps.toList.map fun c=>.str ⟨#[c]⟩) else none
 | _=>none
noncomputable def o6:T->ZZ->Option (T×T)
 | .lst ts,[x]=>if ts.length<sizeLine then some (.lst (ts++[x]),.non) else none
 | _,_=>none
noncomputable def o5:T->ZZ->Option (T×T)
 | .lst ts,[.lst us]=>if ts.length+us.length<=sizeLine then some (.lst (ts++us),.non) else none
 | _,_=>none
noncomputable def mPop:T->ZZ->Option (T×T)
 | .lst ts,[]=>(ts.getLast?).map fun x=>(.lst ts.dropLast,x)
 | _,_=>none
noncomputable def mPopAt:T->ZZ->Option (T×T)
 | .lst ts,[.int i]=>if 0<=i/\i<ts.length then (ts[i.toNat]?).map fun x=>(.lst (ts.eraseIdx i.toNat),x) else none
 | _,_=>none
def mtT:Mt->T->ZZ->Option (T×T)
 | .append=>o6
 | .extend=>o5
 | .pop=>mPop
 | .popAt=>mPopAt
 | _=>fun _ _=>none
abbrev x2:=Str×T
abbrev Cs:=Str->List Sl->(Sl×ZZ->Prop)->(x2->Prop)->Prop
structure W where
 C:Cs
 gl:Str->Option T
 xe:x2->P->Prop
noncomputable def read(p:P)(i:Nat):Option (T×P):=match p[i]? with
 | some (.f t)=>some (t,p)
 | some (.o t)=>some (t,p.set i (.f t))
 | _=>none
noncomputable def done(p:P)(i:Nat):Bool:=match p[i]? with
 | some (.f _)=>true
 | some (.o _)=>true
 | _=>false
noncomputable def ownL(p:P)(i:Nat):Bool:=match p[i]? with
 | some (.o (.lst _))=>true
 | _=>false
noncomputable def rngT:T->Option (ZZ)
 | .int n=>if -1000000<=n/\n<=1000000 then some ((List.range n.toNat).map fun k=>.int (k:Nat)) else none
 | _=>none
noncomputable def Zxk(a b:Int):Option (ZZ):=if -1000000<=a/\a<=1000000/\-1000000<=b/\b<=1000000 then some ((List.range (b - a).toNat).map fun k=>.int (a+(k:Nat))) else none
noncomputable def Nd(a b:ZZ):ZZ:=(a.zip b).map fun p=>.tup [p.1,p.2]
noncomputable def itT:Ik->ZZ->Option (ZZ)
 | .rng,[t]=>rngT t
 | .rng,[.int a,.int b]=>Zxk a b
 | .zip,[.lst a,.lst b]=>some (Nd a b)
 | .zip,[.tup a,.tup b]=>some (Nd a b)
 | _,_=>none
def isNil:E->Bool
 | .nil=>true
 | _=>false
noncomputable def Ji(pt:Nat->Bool):E->Bool
 | .v i=>!pt i
 | .tup es=>Ji pt es
 | .nil=>true
 | .cons a r=>Ji pt a && Ji pt r
 | _=>false
noncomputable def putAt:T->T->T->Option T
 | .lst ts,.int i,t=>(jq ts.length i).map fun j=>.lst (ts.set j t)
 | .dct XY,k,t=>(Tn k).bind fun k=>if XY.length<sizeLine then some (.dct (Ym XY k t)) else none
 | _,_,_=>none
def on{l:Type}(o:Option l)(Q:l->Prop):Prop:=match o with
 | some a=>Q a
 | none=>False
theorem Z1{l:Type}{o:Option l}{a:l}{Q:l->Prop}(e:o=some a)(h:Q a):on o Q:=by rw[e];exact h
theorem Z9{l:Type}{o:Option l}{Q:l->Prop}(h:on o Q):∃a,o=some a/\Q a:=by
 cases o with
 | none=>exact h.elim
 | some a=>exact⟨a,rfl,h⟩
noncomputable def Q5(r:Sl)(Q:Bool->Prop):Prop:=match r with
 | .f (.bl b)=>Q b
 | _=>False
def Cy(r:Sl)(Q:T->Prop):Prop:=match r with
 | .f t=>Q t
 | .o t=>Q t
 | .no=>False
def V4(body:T->P->(Option T->P->Prop)->Prop):ZZ->ZZ->P->(ZZ->P->Prop)->Prop
 | [],acc,p,Q=>Q acc p
 | x::r,acc,p,Q=>body x p fun o p'=>match o with
  | some y=>V4 body r (acc++[y]) p' Q
  | none=>V4 body r acc p' Q
def wH(m:Bool)(a:E)(p:P)(k:(Sl->P->Prop)->Prop)(K:A->P->Prop):Prop:=match a with
 | .io i=>if done p i=true then K (.s i) p else False
 | .v i=>if m=true then (if done p i=true then K (.s i) p else False) else on (read p i) fun q=>K (.t q.1) q.2
 | _=>k fun s p1=>Cy s fun t=>K (.t t) p1
def cC(c:(Sl×ZZ->Prop)->(x2->Prop)->Prop)(R:Sl×ZZ->Prop)(X:x2->Prop):Prop:=c R X
def wC(w:W)(f:Str)(as:List A)(p:P)(Q:Sl->P->Prop):Prop:=on (args p as) fun sl=>cC (w.C f sl) (fun r=>on (outs p as r.2) fun p2=>Q r.1 p2) fun e=>w.xe e (Ex p as)
def W.nx(w:W):W:=⟨w.C,w.gl,fun _ _=>False⟩
noncomputable def lenO(p:P)(i:Nat):Option Bool:=match p[i]? with
 | some (.o (.lst ts))=>some (!ts.isEmpty)
 | _=>none
mutual
noncomputable def wE:W->E->P->(Sl->P->Prop)->Prop
 | w,.v i,p,Q=>on (read p i) fun q=>Q (.f q.1) q.2
 | w,.mv i,p,Q=>match p[i]? with
  | some (.o t)=>Q (.o t) (p.set i .no)
  | some (.f t)=>Q (.f t) p
  | _=>False
 | w,.k t,p,Q=>Q (.f t) p
 | w,.g x,p,Q=>on (w.gl x) fun t=>Q (.f t) p
 | w,.tup es,p,Q=>wR w false es p fun as p1=>on (looks p1 as) fun ts=>if ts.length<=sizeLine then Q (.f (.tup ts)) p1 else False
 | w,.lst es,p,Q=>wR w false es p fun as p1=>on (looks p1 as) fun ts=>if ts.length<=sizeLine then Q (.o (.lst ts)) p1 else False
 | w,.pr r es,p,Q=>wR w true es p fun as p1=>on (looks p1 as) fun ts=>on (Ww r ts) fun s=>Q s p1
 | w,.and a b,p,Q=>wE w a p fun r p1=>Q5 r fun c=>if c=true then wE w b p1 Q else Q (.f (.bl false)) p1
 | w,.or a b,p,Q=>wE w a p fun r p1=>Q5 r fun c=>if c=true then Q (.f (.bl true)) p1 else wE w b p1 Q
 | w,.not a,p,Q=>wE w a p fun r p1=>Q5 r fun c=>Q (.f (.bl (!c))) p1
 | w,.ite c a b,p,Q=>wE w c p fun r p1=>Q5 r fun c=>if c=true then wE w a p1 Q else wE w b p1 Q
 | w,.call f es,p,Q=>wR w false es p fun as p1=>wC w f as p1 Q
 | w,.cal i es,p,Q=>match p[i]? with
  | some (.f (.fn f))=>wR w false es p fun as p1=>wC w f as p1 Q
  | _=>False
 | w,.mt m i es,p,Q=>if ownL p i=true then wR w false es p fun as p1=>on (looks p1 as) fun ts=>match p1[i]? with
   | some (.o t)=>on (mtT m t ts) fun r=>Q (.f r.2) (p1.set i (.o r.1))
   | _=>False
  else False
 | w,.comp tg it c el fr _,p,Q=>wE w it p fun r p1=>Cy r fun t=>on (Fc t) fun xs=>V4 (fun x s K=>on (asg tg x s) fun s1=>if isNil c=true then wE w.nx el s1 fun r s2=>Cy r fun y=>K (some y) s2
   else wE w.nx c s1 fun r s2=>Q5 r fun b=>if b=true then wE w.nx el s2 fun r s3=>Cy r fun y=>K (some y) s3 else K none s2) xs [] (fre fr p1) fun ys s=>Q (.o (.lst ys)) (back fr s p1)
 | w,.itr k es,p,Q=>wR w false es p fun as p1=>on (looks p1 as) fun ts=>on (itT k ts) fun xs=>Q (.f (.lst xs)) p1
 | w,.tmp a,p,Q=>wE w a (frz p) fun r _=>on (tmpR r) fun r=>Q r p
 | w,.tmB a,p,Q=>wE w a (frz p) fun r _=>Q5 r fun b=>Q (.f (.bl b)) p
 | w,.io i,p,Q=>on (lenO p i) fun b=>Q (.f (.bl b)) p
 | _,_,_,_=>False
noncomputable def wR:W->Bool->E->P->(List A->P->Prop)->Prop
 | _,_,.nil,p,Q=>Q [] p
 | w,m,.cons a r,p,Q=>wH m a p (wE w a p) fun a1 p1=>wR w m r p1 fun as p2=>Q (a1::as) p2
 | _,_,_,_,_=>False
end
structure En where
 nx:P->Prop
 rt:Sl->P->Prop
 bk:P->Prop:=fun _=>False
 ct:P->Prop:=fun _=>False
def Nt(body:T->P->En->Prop):ZZ->P->En->Prop
 | [],p,D=>D.nx p
 | x::r,p,D=>body x p ⟨fun q=>Nt body r q D,D.rt,D.nx,fun q=>Nt body r q D⟩
def wWh(test:P->(Bool->P->Prop)->Prop)(body:P->En->Prop):Nat->P->En->Prop
 | 0,_,_=>False
 | n+1,p,D=>test p fun b p1=>if b=true then body p1 ⟨fun q=>wWh test body n q D,D.rt,D.nx,fun q=>wWh test body n q D⟩ else D.nx p1
def bindX(i:ZL)(t:T)(q:P):P:=match i with
 | some i=>q.set i (.f t)
 | none=>q
def unX(i:ZL)(q:P):P:=match i with
 | some i=>q.set i .no
 | none=>q
def En.un(D:En)(i:ZL):En:=⟨fun q=>D.nx (unX i q),fun r q=>D.rt r (unX i q),fun q=>D.bk (unX i q),fun q=>D.ct (unX i q)⟩
def ptX(pt:Nat->Bool)(i:ZL):Bool:=match i with
 | some i=>pt i
 | none=>false
def wS:W->(Nat->Bool)->S->P->En->Prop
 | w,pt,.nil,p,D=>D.nx p
 | w,pt,.seq a r,p,D=>wS w pt a p ⟨fun q=>wS w pt r q D,D.rt,D.bk,D.ct⟩
 | w,pt,.ret a,p,D=>wE w a p D.rt
 | w,pt,.ex a,p,D=>wE w a p fun _ q=>D.nx q
 | w,pt,.set i a,p,D=>if pt i=true then False else wE w a p fun r q=>D.nx (q.set i r)
 | w,pt,.unp tg a,p,D=>if Ji pt tg=true then wE w a p fun r q=>Cy r fun t=>on (asg tg t q) D.nx else False
 | w,pt,.put i k a,p,D=>wE w a p fun r p1=>Cy r fun t=>if done p1 i=true then wE w k p1 fun r p2=>Cy r fun k=>match p2[i]? with
   | some (.o x)=>on (putAt x k t) fun x'=>D.nx (p2.set i (.o x'))
   | _=>False
  else False
 | w,pt,.ite c a b,p,D=>wE w c p fun r q=>Q5 r fun b'=>if b'=true then wS w pt a q D else wS w pt b q D
 | w,pt,.loop tg it b,p,D=>if Ji pt tg=true then wE w it p fun r q=>Cy r fun t=>on (Fc t) fun xs=>Nt (fun x s D=>on (asg tg x s) fun s1=>wS w pt b s1 D) xs q D else False
 | w,pt,.wh c b,p,D=>wWh (fun s K=>wE w c s fun r q=>Q5 r fun b=>K b q) (fun s D=>wS w pt b s D) 1000000 p D
 | w,pt,.pass,p,D=>D.nx p
 | w,pt,.brk,p,D=>D.bk p
 | w,pt,.cont,p,D=>D.ct p
 | w,_,.rais c a,p,_=>wE w a p fun r q=>Cy r fun t=>w.xe (c,t) q
 | w,pt,.tri b c i h,p,D=>if ptX pt i=true then False else wS ⟨w.C,w.gl,fun e q=>if subX e.1 c=true then wS w pt h (bindX i (.exn e.1 e.2) q) (D.un i) else False⟩ pt b p D
def Yv(as:List Sl)(i:Nat):Bool:=match as[i]? with
 | some (.o _)=>true
 | _=>false
def leftT:Sl->T
 | .o t=>t
 | _=>.fn ""
noncomputable def De:List Sl->P->Option (ZZ)
 | [],_=>some []
 | .o _::r,x::q=>(De r q).map (leftT x::·)
 | .f _::r,_::q=>De r q
 | .no::r,_::q=>De r q
 | _,_=>none
noncomputable def fin(as:List Sl)(r:Sl)(p:P):Option (Sl×ZZ):=(De as p).map fun ts=>(r,ts)
structure Df where
 n:Nat
 ar:Nat
 code:S
def L0(d:Df)(w:W)(as:List Sl)(R:Sl×ZZ->Prop):Prop:=if as.length=d.ar then wS w (Yv as) d.code (as++List.replicate (d.n - d.ar) .no) ⟨fun p=>on (fin as (.f .non) p) R,fun r p=>on (fin as r p) R,fun _=>False,fun _=>False⟩ else False
def Cn(tab:Str->Option Df)(gl:Str->Option T):Nat->Cs
 | 0=>fun _ _ _ _=>False
 | n+1=>fun f as R X=>on (tab f) fun d=>L0 d ⟨Cn tab gl n,gl,fun e _=>X e⟩ as R
end PV
namespace PV
open PySem PySem.Spec PyProof.Rows L2
example (w:W) (pt:Nat->Bool) (a r:S) (p:P) (D:En):wS w pt (.seq a r) p D=wS w pt a p ⟨fun q=>wS w pt r q D,D.rt,D.bk,D.ct⟩:=rfl
abbrev OM:=Addr->Option Obj
structure Md where
 prog:Program
 w:World
 mg:ZJ
 K:W.Frag
 base:Heap
structure Rf(o:Obj)(us:ZK):Prop where
 c:o.cls=.type "tuple"
 d:o.dict=none
 s:∃n,o.data=.seq us.toArray n
 z:us.length<=sizeLine
def Fm(o:Obj)(us:ZK):Prop:=us.length<=sizeLine/\∃n,o={ cls:=.type "list",data:=.seq us.toArray n }
structure Ft(g:Md)(a:Addr)(o:Obj)(vs:List (Key×Value)):Prop where
 ex:o.ExactDict
 es:∃es ep,o.data=.dict es ep/\KeysOf (Zp g.prog g.w) es/\Pairs (Zp g.prog g.w) es.toList vs
 nd:(vs.map (·.1)).Nodup
 z:vs.length<=sizeLine
 ns:(a == sysModules)=false
structure Hx(g:Md)(F:OM)(o:Obj)(c:Str)(u:Value):Prop where
 cl:∃C,o.cls=.ref C/\g.mg c=some (.ref C)
 fs:∃vs,o.data=.fields vs/\vs.size=6
 dc:∃d od m,o.dict=some d/\F d=some od/\(∀h:Heap,h.get? d=some od->h.Ns d m)/\m (fldX c)=some u
inductive Top(g:Md)(F:OM):OM->T->Value->Prop
 | non{D:OM}:Top g F D .non .none
 | bl {D:OM} {b:Bool}:Top g F D (.bl b) (.bool b)
 | int {D:OM} {i:Int} {t:Tok}:Top g F D (.int i) (.int i t)
 | str {D:OM} {x:Str} {t:Tok}:Top g F D (.str x) (.str x t)
 | fn {D:OM} {x:Str} {a:Addr} (h:g.mg x=some (.ref a)) (k:W.keepIn g.K (.ref a)=true):Top g F D (.fn x) (.ref a)
 | tup {D:OM} {ts:ZZ} {a:Addr} {o:Obj} {us:ZK} (h:D a=some o) (k:Rf o us) (l:us.length=ts.length) (e:∀i (h:i<ts.length),Top g F F ts[i] (us.getD i .none)):Top g F D (.tup ts) (.ref a)
 | lst {D:OM} {ts:ZZ} {a:Addr} {o:Obj} {us:ZK} (h:D a=some o) (k:Fm o us) (l:us.length=ts.length) (e:∀i (h:i<ts.length),Top g F F ts[i] (us.getD i .none)):Top g F D (.lst ts) (.ref a)
 | dct {D:OM} {XY:ZX} {a:Addr} {o:Obj} {vs:List (Key×Value)} (h:D a=some o) (k:Ft g a o vs) (l:vs.map (·.1)=XY.map (·.1)) (e:∀i (h:i<XY.length),Top g F F (XY[i]).2 ((vs.map (·.2)).getD i .none)):Top g F D (.dct XY) (.ref a)
 | exn {D:OM} {c:Str} {t:T} {a:Addr} {o:Obj} {u:Value} (h:D a=some o) (k:Hx g F o c u) (e:Top g F F t u):Top g F D (.exn c t) (.ref a)
abbrev IsT(g:Md)(F:OM):T->Value->Prop:=Top g F F
abbrev Zo(g:Md)(F:OM):ZZ->ZK->Prop:=Paired (IsT g F)
abbrev Yo(g:Md)(F:OM):ZX->List (Key×Value)->Prop:=Paired fun p q=>p.1=q.1/\IsT g F p.2 q.2
def Le(F F':OM):Prop:=∀a o,F a=some o->F' a=some o
theorem Le.refl(F:OM):Le F F:=fun _ _ h=>h
theorem Le.trans{F F1 F2:OM}(a:Le F F1)(b:Le F1 F2):Le F F2:=fun c u h=>b c u (a c u h)
theorem Wj{l V:Type}{R:l->V->Prop}(d:V):∀{as:List l} {bs:List V},Paired R as bs->∀i (h:i<as.length),R as[i] (bs.getD i d)
 | _,_,.nil,i,h=>absurd h (Nat.not_lt_zero _)
 | _,_,.cons r t,0,_=>r
 | _,_,.cons r t,i+1,h=>Wj d t i (Nat.lt_of_succ_lt_succ h)
theorem zv{V U:Type}{R:V->U->Prop}(d:U):∀{as:List V} {bs:List U},bs.length=as.length->(∀i (h:i<as.length),R as[i] (bs.getD i d))->Paired R as bs
 | [],[],_,_=>.nil
 | a::as,b::bs,l,h=>.cons (h 0 (Nat.zero_lt_succ _)) (zv d (Nat.succ.inj l) fun i hi=>h (i+1) (Nat.succ_lt_succ hi))
theorem pr_map{l V γ δ:Type}{R:l->V->Prop}{S:γ->δ->Prop}{f:l->γ}{k:V->δ}(h:∀a b,R a b->S (f a) (k b)):∀{as:List l} {bs:List V},Paired R as bs->Paired S (as.map f) (bs.map k)
 | _,_,.nil=>.nil
 | _,_,.cons r t=>.cons (h _ _ r) (pr_map h t)
theorem H6{l V:Type}{R S:l->V->Prop}(h:∀a b,R a b->S a b):∀{as:List l} {bs:List V},Paired R as bs->Paired S as bs
 | _,_,.nil=>.nil
 | _,_,.cons r t=>.cons (h _ _ r) (H6 h t)
section
variable{l V:Type}{R:l->V->Prop}{as as':List l}{bs bs':List V}
theorem Gn:∀{as:List l} {bs:List V},Paired R as bs->Paired R as' bs'->Paired R (as++as') (bs++bs')
 | _,_,.nil,h=>h
 | _,_,.cons r t,h=>.cons r (Gn t h)
theorem V8:∀{as:List l} {bs:List V} {i:Nat} {a:l},Paired R as bs->as[i]?=some a->∃b,bs[i]?=some b/\R a b
 | _,_,_,_,.nil,e=>by simp at e
 | _,_,0,_,.cons r t,e=>⟨_,rfl,by cases e;exact r⟩
 | _,_,i+1,_,.cons r t,e=>V8 (i:=i) t e
theorem zq:∀{as:List l} {bs:List V} (n:Nat),Paired R as bs->Paired R (as.take n) (bs.take n)
 | _,_,0,_=>.nil
 | _,_,_+1,.nil=>.nil
 | _,_,n+1,.cons r t=>.cons r (zq n t)
theorem zy:∀{as:List l} {bs:List V} (n:Nat),Paired R as bs->Paired R (as.drop n) (bs.drop n)
 | _,_,0,h=>h
 | _,_,_+1,.nil=>.nil
 | _,_,n+1,.cons r t=>zy n t
theorem km{a:l}{b:V}(h:R a b):∀{as:List l} {bs:List V} (n:Nat),Paired R as bs->Paired R (as.set n a) (bs.set n b)
 | _,_,_,.nil=>.nil
 | _,_,0,.cons r t=>.cons h t
 | _,_,n+1,.cons r t=>.cons r (km h n t)
theorem Cv{a:l}(h:Paired R [a] bs):∃b,bs=[b]/\R a b:=by cases h with | cons r t=>cases t;exact⟨_,rfl,r⟩
theorem pr2{a a':l}(h:Paired R [a,a'] bs):∃b b',bs=[b,b']/\R a b/\R a' b':=by cases h with | cons r t=>obtain⟨b,rfl,q⟩:=Cv t;exact⟨_,b,rfl,r,q⟩
end
section
variable{g:Md}{F F' D D':OM}{a:Addr}{o:Obj}{v:Value}
theorem Top.mkT{ts:ZZ}{us:ZK}(h:D a=some o)(k:Rf o us)(r:Zo g F ts us):Top g F D (.tup ts) (.ref a):=.tup h k r.length.symm (Wj _ r)
theorem Top.mkL{ts:ZZ}{us:ZK}(h:D a=some o)(k:Fm o us)(r:Zo g F ts us):Top g F D (.lst ts) (.ref a):=.lst h k r.length.symm (Wj _ r)
theorem Top.unT{ts:ZZ}(h:Top g F D (.tup ts) v):∃a o us,v=.ref a/\D a=some o/\Rf o us/\Zo g F ts us:=by
 cases h with | tup h k l e=>exact⟨_,_,_,rfl,h,k,zv _ l e⟩
theorem Top.unL{ts:ZZ}(h:Top g F D (.lst ts) v):∃a o us,v=.ref a/\D a=some o/\Fm o us/\Zo g F ts us:=by
 cases h with | lst h k l e=>exact⟨_,_,_,rfl,h,k,zv _ l e⟩
theorem areK{XY:ZX}{vs:List (Key×Value)}:Yo g F XY vs↔vs.map (·.1)=XY.map (·.1)/\Zo g F (XY.map (·.2)) (vs.map (·.2)):=by
 constructor
 .intro h;refine⟨?_,pr_map (fun a b h=>h.2) h⟩
  induction h with
  | nil=>rfl
  | cons r t ih=>rw[O5,O5,ih,r.1]
 .rintro⟨h1,h2⟩
  induction XY generalizing vs with
  | nil=>cases vs with
   | nil=>exact .nil
   | cons _ _=>cases h1
  | cons p r ih=>cases vs with
   | nil=>cases h1
   | cons q s =>
    cases h2 with | cons h2 h3 =>
    obtain⟨e1,e2⟩:=List.cons.inj h1;exact .cons ⟨e1.symm,h2⟩ (ih e2 h3)
theorem Top.mkD{XY:ZX}{vs:List (Key×Value)}(h:D a=some o)(k:Ft g a o vs)(r:Yo g F XY vs):Top g F D (.dct XY) (.ref a):=by
 obtain⟨h1,h2⟩:=areK.mp r;refine .dct h k h1 fun i hi=>?_;have:=Wj .none h2 i (by rw[Y9];exact hi);rw[List.getElem_map]at this;exact this
theorem Top.unD{XY:ZX}(h:Top g F D (.dct XY) v):∃a o vs,v=.ref a/\D a=some o/\Ft g a o vs/\Yo g F XY vs:=by
 cases h with | dct h k l e =>
 refine⟨_,_,_,rfl,h,k,areK.mpr ⟨l,zv .none (by have:=congrArg List.length l;simpa using this) fun i hi=>?_⟩⟩;rw[List.getElem_map];exact e i (by rw[Y9]at hi;exact hi)
theorem Hx.up{c:Str}{u:Value}(l:Le F F')(h:Hx g F o c u):Hx g F' o c u :=
 let ⟨d,od,m,h1,h2,r⟩:=h.dc
 ⟨h.cl,h.fs,d,od,m,h1,l _ _ h2,r⟩
theorem Top.up'(l:Le F F'){t:T}(h:Top g F D t v):(Le D D'->Top g F' D' t v)/\(D=F->IsT g F' t v):=by
 suffices q:∀D',Le D D'->Top g F' D' t v from⟨q D',fun e=>q F' (e ▸ l)⟩
 induction h with
 | non=>exact fun _ _=>.non
 | bl=>exact fun _ _=>.bl
 | int=>exact fun _ _=>.int
 | str=>exact fun _ _=>.str
 | fn h k=>exact fun _ _=>.fn h k
 | tup h k z _ ih=>exact fun D' d=>.tup (d _ _ h) k z fun i hi=>ih i hi F' l
 | lst h k z _ ih=>exact fun D' d=>.lst (d _ _ h) k z fun i hi=>ih i hi F' l
 | dct h k z _ ih=>exact fun D' d=>.dct (d _ _ h) k z fun i hi=>ih i hi F' l
 | exn h k _ ih=>exact fun D' d=>.exn (d _ _ h) (k.up l) (ih F' l)
theorem Top.up{t:T}(h:Top g F D t v)(l:Le F F')(d:Le D D'):Top g F' D' t v:=(h.up' (D':=D') l).1 d
theorem IsT.up{t:T}(h:IsT g F t v)(l:Le F F'):IsT g F' t v:=Top.up h l l
theorem Zo.up{ts:ZZ}{us:ZK}(h:Zo g F ts us)(l:Le F F'):Zo g F' ts us:=H6 (fun _ _ h=>IsT.up h l) h
theorem Yo.up{ts:ZX}{us:List (Key×Value)}(h:Yo g F ts us)(l:Le F F'):Yo g F' ts us:=H6 (fun _ _ h=>⟨h.1,IsT.up h.2 l⟩) h
theorem Top.at{t:T}(h:Top g F D t v)(hc:B5 t=true):∃a o,v=.ref a/\D a=some o:=by
 cases h with
 | lst h _ _ _=>exact⟨_,_,rfl,h⟩
 | dct h _ _ _=>exact⟨_,_,rfl,h⟩
 | _=>cases hc
theorem Top.to{t:T}{a:Addr}(h:Top g F D t (.ref a))(hc:B5 t=true)(e:∀o,D a=some o->D' a=some o):Top g F D' t (.ref a):=by
 cases h with
 | lst h k l r=>exact .lst (e _ h) k l r
 | dct h k l r=>exact .dct (e _ h) k l r
 | _=>cases hc
end
end PV
namespace L2
open PySem
end L2
namespace PV
open PySem L2
end PV
namespace PV
open PySem PySem.Spec PyProof.Rows L2
structure Cx extends Md where
 A:Around
 N:ZG
 env:Env
 outer:List Env
 stack:List Env
 own:Bool
 calm:Bool
 os:OsState
 G:OM
 F0:OM
 σ0:List (ZF)
 pt:Nat->Bool
 xe:ZQ
noncomputable def A4(l:List Env):ZS:=l.filterMap (·.frame)
def Cx.mn(X:Cx)(a:Addr):Prop:=a=X.env.locals\/(X.own=true/\∃x,X.env.cells.lookup x=some a)
def Cx.kp(X:Cx)(a:Addr):Prop:=X.G a≠none\/X.mn a
def Kp(fs:ZS)(h:Heap)(a:Addr)(o:Obj):Prop:=∃sl,h.get? a=some { o with slots:=sl }/\(a ∉ fs->sl=o.slots)
def Look(env:Env)(h:Heap)(m:ZJ)(x:Str)(u:Value):Prop :=
 (env.kindOf x=some .local/\m x=some u)\/((env.kindOf x=some .cell\/env.kindOf x=some .free)/\∃c,env.cells.lookup x=some c/\h.IsCell c (some u))
structure Mod(g:Md):Prop where
 kin:g.K.In g.base
 glob:g.base.Ns mainGlobals g.mg
 blt:∃mb,g.base.Ns builtinsNs mb/\∀x:Str,x ≠ "__name__" -> mb x=bootBuiltins x
 nolimit:g.base.NoLimit
structure Cx.Ok(X:Cx):Prop where
 mod:Mod X.toMd
 kind:X.env.scope.kind=.function
 gl:X.env.globals=mainGlobals
 bl:X.env.builtins=builtinsNs
 ab:X.base.objs.size<=X.env.locals
 inj:∀x y c,X.env.cells.lookup x=some c->X.env.cells.lookup y=some c->x=y
 has:∀x,(X.env.kindOf x=some .cell\/X.env.kindOf x=some .free)->∃c,X.env.cells.lookup x=some c
 hd:X.calm=true->X.A.handled=none
 frames:X.A.frames=some X.stack
 stk:X.stack=X.outer\/(X.stack=X.env::X.outer/\X.env.frame=some X.env.locals)
 b:∀a o,X.base.get? a=some o->X.F0 a=some o
 fg:∀b∈A4 X.outer,X.G b≠none
 gm:∀a,X.mn a->X.G a=none
 cg:∀x c,X.env.cells.lookup x=some c->X.own=true\/X.G c≠none
abbrev Vs:=List (ZF)
structure Ce(X:Cx)(F:OM)(h:Heap)(a:Addr)(t:T):Prop where
 c:B5 t=true
 f:F a=none
 k:¬ X.kp a
 t:Top X.toMd F h.get? t (.ref a)
structure Rel(X:Cx)(F:OM)(p:P)(l:Vs)(h:Heap):Prop where
 fz:∀(i:Nat) (t:T),p[i]?=some (Sl.f t)->∃v,l[i]?=some (some v)/\IsT X.toMd F t v
 ow:∀(i:Nat) (t:T),p[i]?=some (Sl.o t)->∃a,l[i]?=some (some (.ref a))/\Ce X F h a t
 ap:∀(i j:Nat) (t u:T) (a:Addr),p[i]?=some (Sl.o t)->p[j]?=some (Sl.o u)->l[i]?=some (some (.ref a))->l[j]?=some (some (.ref a))->i=j
 ln:p.length=l.length
structure Inv(X:Cx)(F:OM)(p:P)(l:Vs)(s:Shared):Prop where
 ok:X.Ok
 os:s.os=X.os
 bare:AllBare s.gens
 le:Le X.F0 F
 f:∀a o,F a=some o->s.heap.get? a=some o/\¬ X.kp a
 g:∀a o,X.G a=some o->Kp (A4 X.outer) s.heap a o
 fr:s.heap.FunFrames X.base X.outer
 ns:∃m,s.heap.Ns X.env.locals m/\∀(i:Nat) (x:Str) (u:Value),X.N[i]?=some x->l[i]?=some (some u)->Look X.env s.heap m x u
 cell:∀x c,X.env.cells.lookup x=some c->∃v,s.heap.IsCell c v
 len:l.length=X.N.length
 r:Rel X F p l s.heap
 pr:∀i,X.pt i=true->l[i]?=X.σ0[i]?
def Res(X:Cx)(F:OM)(p:P)(l:Vs)(h:Heap)(r:Sl)(v:Value):Prop:=match r with
 | .f t=>IsT X.toMd F t v
 | .o t=>∃a,v=.ref a/\Ce X F h a t/\∀(i:Nat) (u:T),p[i]?=some (Sl.o u)->l[i]?≠some (some (.ref a))
 | .no=>False
theorem Gv{h h' base:Heap}:∀{l:List Env},(∀b∈A4 l,∀o,h.get? b=some o->∃sl,h'.get? b=some { o with slots:=sl })->h.FunFrames base l->h'.FunFrames base l
 | [],_,_=>trivial
 | env::r,k,hl=>by
  obtain⟨hk,⟨L,o,hf,hn,ho,hd⟩,hr⟩:=hl;have e:A4 (env::r)=L::A4 r:=by unfold A4;rw[List.filterMap_cons,hf]
  rw[e]at k;obtain⟨sl,e'⟩:=k L Yb o ho;exact⟨hk,⟨L,_,hf,hn,e',hd⟩,Gv (fun b hb=>k b (Y5 _ hb)) hr⟩
section
variable{X:Cx}{F F':OM}{p p':P}{V σ':Vs}{s s':Shared}{h h':Heap}
theorem Ce.at{a:Addr}{t:T}(o:Ce X F h a t):∃x,h.get? a=some x:=by
 obtain⟨_,x,e,q⟩:=o.t.at o.c;cases e;exact⟨x,q⟩
theorem Ce.to{a:Addr}{t:T}(o:Ce X F h a t)(l:Le F F')(n:F' a=none)(k:∀x,h.get? a=some x->h'.get? a=some x):Ce X F' h' a t :=
 ⟨o.c,n,o.k,(o.t.to (D':=h'.get?) o.c k).up l fun _ _ e=>e⟩
theorem Rel.to(r:Rel X F p V h)(l:Le F F')(n:∀(i:Nat) (t:T) (a:Addr),p[i]?=some (Sl.o t)->V[i]?=some (some (.ref a))->F' a=none/\∀x,h.get? a=some x->h'.get? a=some x):Rel X F' p V h' :=
 ⟨fun i t e=>let ⟨v,h1,h2⟩:=r.fz i t e;⟨v,h1,h2.up l⟩,fun i t e=>let ⟨a,h1,h2⟩:=r.ow i t e;let ⟨n1,n2⟩:=n i t a e h1;⟨a,h1,h2.to l n1 n2⟩,r.ap,r.ln⟩
theorem Inv.stackSub(I:Inv X F p V s){b:Addr}(hb:b∈A4 X.stack):b=X.env.locals\/b∈A4 X.outer:=by
 rcases I.ok.stk with e | ⟨e,hf⟩
 .rw[e]at hb;exact .inr hb
 .rw[e]at hb;unfold A4 at hb;rw[List.filterMap_cons,hf]at hb;exact Ya.mp hb
theorem Inv.bk(I:Inv X F p V s):∀a o,X.base.get? a=some o->s.heap.get? a=some o:=fun a o e=>(I.f a o (I.le a o (I.ok.b a o e))).1
theorem Inv.kIn(I:Inv X F p V s):X.K.In s.heap:=I.ok.mod.kin.keeps I.bk
theorem Inv.lt(I:Inv X F p V s):X.env.locals<s.heap.objs.size:=let ⟨_,hn,_⟩:=I.ns;hn.lt
theorem Inv.kpAt(I:Inv X F p V s){a:Addr}(k:X.kp a):∃o,s.heap.get? a=some o:=by
 rcases k with k | rfl | ⟨_,x,e⟩
 .cases q:X.G a with
  | none=>exact absurd q k
  | some o=>obtain⟨sl,e,_⟩:=I.g a o q;exact⟨_,e⟩
 .obtain⟨m,⟨o,_,_,e,_⟩,_⟩:=I.ns;exact⟨o,e⟩
 .obtain⟨v,o,e,_⟩:=I.cell x a e;exact⟨o,e⟩
theorem Inv.cellKp(I:Inv X F p V s){x:Str}{c:Addr}(e:X.env.cells.lookup x=some c):X.kp c:=(I.ok.cg x c e).elim (fun h=>.inr (.inr ⟨h,x,e⟩)) .inl
theorem Inv.stack(I:Inv X F p V s):s.heap.FunFrames X.base X.stack:=by
 rcases I.ok.stk with e | ⟨e,hf⟩
 .rw[e];exact I.fr
 .rw[e];obtain⟨m,hn,_⟩:=I.ns;exact .cons (by rw[I.ok.kind];decide) hf hn (Heap.get?_none_of_le I.ok.ab) I.fr
theorem Bk{c:Addr}{v:ZF}{fs:ZS}(k:∀o,h.get? c=some o->Kp fs h' c o)(z:h.IsCell c v):h'.IsCell c v:=by
 obtain⟨o,e,d⟩:=z;obtain⟨sl,e',_⟩:=k o e;exact⟨_,e',d⟩
theorem Inv.cne(I:Inv X F p V s){y:Str}{c:Addr}(e:X.env.cells.lookup y=some c):c≠X.env.locals:=fun z=>by
 obtain⟨v,o,ho,hd⟩:=I.cell y c e;obtain⟨m,⟨o',es,ep,wg,hd',_⟩,_⟩:=I.ns;rw[z,wg]at ho;cases ho;rw[hd']at hd;cases hd
theorem Inv.step(I:Inv X F p V s)(os:s'.os=s.os)(ba:AllBare s'.gens)(l:Le F F')(f:∀a o,F' a=some o->s'.heap.get? a=some o/\¬ X.kp a)(k:∀a o,X.kp a->a≠X.env.locals->s.heap.get? a=some o->Kp (A4 X.stack) s'.heap a o)(n:∀m,s.heap.Ns X.env.locals m->s'.heap.Ns X.env.locals m)(r:Rel X F' p' V s'.heap):Inv X F' p' V s':=by
 have gL:∀{a:Addr},X.G a≠none->a≠X.env.locals:=fun h z=>h (I.ok.gm _ (.inl z));refine⟨I.ok,os.trans I.os,ba,I.le.trans l,f,fun a o e=>?_,Gv (fun b hb o e=>?_) I.fr, ?_,fun x c e=>?_,I.len,r,I.pr⟩
 .obtain⟨sl,e1,n1⟩:=I.g a o e;have kp:X.G a≠none:=by rw[e];exact fun z=>nomatch z
  obtain⟨sl',e2,n2⟩:=k a _ (.inl kp) (gL kp) e1;exact⟨sl',e2,fun na=>(n2 fun z=>(I.stackSub z).elim (gL kp) na).trans (n1 na)⟩
 .obtain⟨sl,e2,_⟩:=k b o (.inl (I.ok.fg b hb)) (gL (I.ok.fg b hb)) e;exact⟨sl,e2⟩
 .obtain⟨m,hn,hl⟩:=I.ns;refine⟨m,n m hn,fun i x u e1 e3=>?_⟩;rcases hl i x u e1 e3 with z | ⟨z,c,e,w⟩
  .exact .inl z
  .exact .inr ⟨z,c,e,Bk (fun o=>k c o (I.cellKp e) (I.cne e)) w⟩
 .obtain⟨v,z⟩:=I.cell x c e;exact⟨v,Bk (fun o=>k c o (I.cellKp e) (I.cne e)) z⟩
theorem Kp.same{fs:ZS}{a:Addr}{o:Obj}(e:h.get? a=some o):Kp fs h a o:=⟨o.slots,e,fun _=>rfl⟩
theorem Ce.ne{a:Addr}{t:T}(o:Ce X F h a t):a≠X.env.locals:=fun z=>o.k (.inr (.inl z))
theorem Inv.more{t:Nat}(I:Inv X F p V s)(k:∀b o,b≠X.env.locals->s.heap.get? b=some o->h'.get? b=some o)(m:∀m,s.heap.Ns X.env.locals m->h'.Ns X.env.locals m)(l:Le F F')(n:∀a o,F' a=some o->F a=some o\/(s.heap.get? a=none/\h'.get? a=some o)):Inv X F' p V { s with heap:=h',toks:=t } :=
 I.step rfl I.bare l (fun a o e=>(n a o e).elim (fun e=>let ⟨h1,h2⟩:=I.f a o e;⟨k _ _ (fun z=>h2 (.inr (.inl z))) h1,h2⟩) fun⟨h1,h2⟩=>⟨h2,fun z=>let ⟨_,e⟩:=I.kpAt z;by rw[h1]at e;cases e⟩)
  (fun a o _ ne e=>.same (k a o ne e)) m (I.r.to l fun i t a e1 e2=>by
   obtain⟨b,h1,h2⟩:=I.r.ow i t e1;rw[e2]at h1;cases h1;refine⟨?_,fun x=>k a x h2.ne⟩;cases q:F' a with
   | none=>rfl
   | some o =>
    obtain⟨x,hx⟩:=h2.at;rcases n a o q with z | ⟨z,_⟩
    .rw[h2.f]at z;cases z
    .rw[z]at hx;cases hx)
theorem Inv.kept{t:Nat}(I:Inv X F p V s)(k:∀b o,s.heap.get? b=some o->h'.get? b=some o):Inv X F p V { s with heap:=h',toks:=t }:=I.more (fun b o _=>k b o) (fun _ hn=>hn.keeps k) (Le.refl F) fun _ _ e=>.inl e
theorem Inv.tok(I:Inv X F p V s)(t:Nat):Inv X F p V { s with toks:=t }:=I.kept (h':=s.heap) fun _ _ e=>e
theorem Inv.slots(I:Inv X F p V s)(r:Rel X F p' V s.heap):Inv X F p' V s:=⟨I.ok,I.os,I.bare,I.le,I.f,I.g,I.fr,I.ns,I.cell,I.len,r,I.pr⟩
theorem Vq{i j:Nat}{r u:Sl}(h:(p.set i r)[j]?=some u):(j=i/\u=r)\/(j≠i/\p[j]?=some u):=by
 by_cases e:i=j
 .subst e;rw[List.getElem?_set_self']at h;cases q:p[i]? with
  | none=>rw[q]at h;cases h
  | some x=>rw[q]at h;exact .inl ⟨rfl,(Nf h).symm⟩
 .rw[List.getElem?_set_ne e]at h;exact .inr ⟨fun z=>e z.symm,h⟩
theorem Rel.say(r:Rel X F p V h){i:Nat}{q:Sl}{v:Value}(hq:q=.no\/(V[i]?=some (some v)/\Res X F (p.set i .no) V h q v)):Rel X F (p.set i q) V h:=by
 have own:∀{j:Nat} {t:T},(p.set i q)[j]?=some (Sl.o t)->∃a,V[j]?=some (some (.ref a))/\Ce X F h a t/\((j=i/\∀(k:Nat) (u:T),(p.set i .no)[k]?=some (Sl.o u)->V[k]?≠some (some (.ref a)))\/(j≠i/\p[j]?=some (Sl.o t))):=fun {j t} e=>by
  rcases Vq e with ⟨z,y⟩ | ⟨n,e⟩
  .subst z y;rcases hq with z | ⟨e1,a,rfl,o,n⟩
   .cases z
   .exact⟨a,e1,o,.inl ⟨rfl,n⟩⟩
  .obtain⟨a,h1,h2⟩:=r.ow j t e;exact⟨a,h1,h2,.inr ⟨n,e⟩⟩
 have no:∀{k:Nat} {u:T},k≠i->p[k]?=some (Sl.o u)->(p.set i .no)[k]?=some (Sl.o u):=fun {k u} n e=>by rw[List.getElem?_set_ne (Ne.symm n)];exact e
 refine⟨fun j t e=>?_,fun j t e=>let ⟨a,h1,h2,_⟩:=own e;⟨a,h1,h2⟩,fun j k t u a e1 e2 h1 h2=>?_,by rw[XX];exact r.ln⟩
 .rcases Vq e with ⟨z,y⟩ | ⟨_,e⟩
  .subst z y;rcases hq with z | ⟨e1,e2⟩
   .cases z
   .exact⟨v,e1,e2⟩
  .exact r.fz j t e
 .obtain⟨b,g1,_,g2⟩:=own e1;obtain⟨c,k1,_,k2⟩:=own e2;rw[h1]at g1;cases g1;rw[h2]at k1;cases k1;rcases g2 with ⟨z,n⟩ | ⟨z,q1⟩<;>rcases k2 with ⟨y,m⟩ | ⟨y,q2⟩
  .exact z.trans y.symm
  .exact absurd h2 (n k u (no y q2))
  .exact absurd h1 (m j t (no z q1))
  .exact r.ap j k t u a q1 q2 h1 h2
theorem Inv.drop(I:Inv X F p V s)(i:Nat):Inv X F (p.set i .no) V s:=I.slots (I.r.say (v:=.none) (.inl rfl))
end
noncomputable def OM.put(F:OM)(a:Addr)(o:Obj):OM:=fun b=>if b=a then some o else F b
section
variable{F:OM}{a b:Addr}{o:Obj}
theorem Qi:F.put a o a=some o:=if_pos rfl
theorem Qo(n:b≠a):F.put a o b=F b:=if_neg n
theorem Le.put(h:F a=none):Le F (F.put a o):=fun b x e=>by rw[Qo fun z=>by rw[z,h]at e;cases e];exact e
variable{X:Cx}{p:P}{V:Vs}{s:Shared}{t:T}
theorem Inv.freeze(I:Inv X F p V s)(w:Ce X F s.heap a t)(n:∀(i:Nat) (u:T),p[i]?=some (Sl.o u)->V[i]?≠some (some (.ref a))):∃F',Le F F'/\Inv X F' p V s/\IsT X.toMd F' t (.ref a):=by
 obtain⟨o,e⟩:=w.at;have l:Le F (F.put a o):=.put w.f;refine⟨F.put a o,l,I.step rfl I.bare l (fun b x q=>?_) (fun _ _ _ _ e=>.same e) (fun _ hn=>hn) (I.r.to l fun i u b h1 h2=>⟨?_,fun _ e=>e⟩),(w.t.to (D':=F.put a o) w.c fun x q=>by rw[Qi];rw[e]at q;exact q).up l fun _ _ e=>e⟩
 .by_cases z:b=a
  .subst z;rw[Qi]at q;cases q;exact⟨e,w.k⟩
  .rw[Qo z]at q;exact I.f b x q
 .obtain⟨c,g1,g2⟩:=I.r.ow i u h1;rw[h2]at g1;cases g1;rw[Qo fun z=>n i u h1 (by rw[<-z];exact h2)];exact g2.f
theorem Inv.thaw{r:Sl}{v:Value}(I:Inv X F p V s)(e:PV.thaw r=some t)(h:Res X F p V s.heap r v):∃F',Le F F'/\Inv X F' p V s/\IsT X.toMd F' t v:=by
 cases r with
 | no=>cases e
 | f u=>cases e;exact⟨F,.refl F,I,h⟩
 | o u=>cases e;obtain⟨a,rfl,w,n⟩:=h;exact I.freeze w n
theorem Inv.readAt{i:Nat}{p':P}(I:Inv X F p V s)(e:PV.read p i=some (t,p')):∃F' v,Le F F'/\Inv X F' p' V s/\V[i]?=some (some v)/\IsT X.toMd F' t v:=by
 unfold PV.read at e
 split at e
 .rename_i q
  cases e;obtain⟨v,h1,h2⟩:=I.r.fz i _ q;exact⟨F,v,.refl F,I,h1,h2⟩
 .rename_i q
  cases e;obtain⟨a,h1,h2⟩:=I.r.ow i _ q
  obtain⟨F',l,I',h⟩:=(I.drop i).freeze h2 fun j u e1 e2=>by
   rcases Vq e1 with ⟨_,z⟩ | ⟨n,e1⟩
   .cases z
   .exact n (I.r.ap j i u t a e1 q e2 h1)
  have r:=I'.r.say (i:=i) (q:=.f t) (.inr ⟨h1,h⟩);rw[List.set_set]at r;exact⟨F',_,l,I'.slots r,h1,h⟩
 .cases e
end
abbrev WP(X:Cx){l:Type}(t:Sem l)(Q:l->Shared->Prop)(s:Shared):Prop:=wpAny (model X.prog X.w) X.A t Q X.xe s
def EP(X:Cx)(F:OM)(l:Vs)(Q:Sl->P->Prop)(v:Value)(s':Shared):Prop:=∃F' p' r,Le F F'/\Inv X F' p' l s'/\Res X F' p' l s'.heap r v/\Q r p'
def TP(X:Cx)(F:OM)(l:Vs)(Q:Bool->P->Prop)(b:Bool)(s':Shared):Prop:=∃F' p',Le F F'/\Inv X F' p' l s'/\Q b p'
section
variable{X:Cx}{F:OM}{p:P}{l:Vs}{s:Shared}
theorem var_ok{i:Nat}{x:Str}{v:Value}{pos:Pos}{R:ZQ}(I:Inv X F p l s)(hN:X.N[i]?=some x)(hv:l[i]?=some (some v))(hd:(x == ("__debug__" : Str))=false)(hc:(x == ("__classdict__" : Str))=false)(h:R v s):WP X (eval (.Name x pos) X.env) R s:=by
 obtain⟨m,hn,hl⟩:=I.ns;rcases hl i x v hN hv with ⟨hk,hm⟩ | ⟨hk,c,jm,Er⟩
 .exact wpAny_Name (wpAny_loadName_local I.ok.kind hk hn hm h) hd
 .rcases hk with hk | hk
  .exact wpAny_Name (wpAny_loadName_cell I.ok.kind hk jm Er h) hd
  .exact wpAny_Name (wpAny_loadName_free I.ok.kind hk jm Er h hc) hd
def Gl(X:Cx)(x:Str):Prop:=X.env.kindOf x=some .globalImplicit
theorem Pf{x:Str}{u:Value}{pos:Pos}{R:ZQ}(I:Inv X F p l s)(hg:Gl X x)(hm:X.mg x=some u)(hd:(x == ("__debug__" : Str))=false)(h:R u s):WP X (eval (.Name x pos) X.env) R s :=
 Calls.Name_function_global I.ok.kind hg (Calls.loadGlobal_global (by rw[I.ok.gl];exact I.ok.mod.glob.keeps I.bk) hm h) hd
theorem Tc{x:Str}{u:Value}{pos:Pos}{R:ZQ}(I:Inv X F p l s)(hg:Gl X x)(hm:X.mg x=none)(hv:bootBuiltins x=some u)(hd:(x == ("__debug__" : Str))=false)(hn:x ≠ "__name__")(h:R u s):WP X (eval (.Name x pos) X.env) R s:=by
 obtain⟨mb,h1,h2⟩:=I.ok.mod.blt;exact Calls.Name_function_global I.ok.kind hg (Calls.loadGlobal_builtin (by rw[I.ok.gl];exact I.ok.mod.glob.keeps I.bk) hm (by rw[I.ok.bl];exact h1.keeps I.bk) ((h2 x hn).trans hv) h) hd
theorem Wm{N:ZG}(hN:N.Nodup){i j:Nat}{x:Str}(a:N[i]?=some x)(b:N[j]?=some x):i=j:=by
 obtain⟨h1,e1⟩:=wt.mp a;obtain⟨h2,e2⟩:=wt.mp b;exact(List.getElem_inj hN).mp (e1.trans e2.symm)
theorem Fh{M:Model}{A:Around}{E:ZQ}{i:Nat}{x:Str}{r:Sl}{u:Value}{Q:ZH}(I:Inv X F p l s)(hN:X.N.Nodup)(hi:X.N[i]?=some x)(hx:X.env.kindOf x=some .local\/(X.own=true/\X.env.kindOf x=some .cell))(hp:X.pt i=false)
  (hr:Res X F p l s.heap r u) (h:∀s' a,X.mn a->Heap.SameBut a s.heap s'.heap->Inv X F (p.set i r) (l.set i (some u)) s'->Q () s'):wpAny M A (storeName X.env x u) Q E s:=by
 obtain⟨m,hn,hl⟩:=id I.ns;have hcls:(X.env.scope.kind == .class || (X.env.scope.kind == .module && X.env.locals != X.env.globals))=false:=by rw[I.ok.kind];rfl
 have hiσ:i<l.length:=by rw[I.len];exact(wt.mp hi).1
 have get:∀{j:Nat} {v:ZF},(l.set i (some u))[j]?=some v->(j=i/\v=some u)\/(j≠i/\l[j]?=some v):=fun {j v} e=>by
  by_cases q:i=j
  .subst q;rw[List.getElem?_set_self hiσ]at e;cases e;exact .inl ⟨rfl,rfl⟩
  .rw[List.getElem?_set_ne q]at e;exact .inr ⟨fun z=>q z.symm,e⟩
 have go:∀{a:Addr} {h':Heap} {t:Nat},X.mn a->Heap.SameBut a s.heap h'->(∃m,h'.Ns X.env.locals m/\∀(j:Nat) (y:Str) (v:Value),X.N[j]?=some y->(l.set i (some u))[j]?=some (some v)->Look X.env h' m y v)->(∀y c,X.env.cells.lookup y=some c->∃v,h'.IsCell c v) ->
   Inv X F (p.set i r) (l.set i (some u)) { s with heap:=h',toks:=t }:=fun {a h' t} ma hs Y0 cell'=>by
  have ne:∀{b:Addr},¬ X.kp b->b≠a:=fun n z=>n (z ▸ .inr ma);have ka:X.G a=none:=I.ok.gm a ma
  have rel:Rel X F p l h':=I.r.to (.refl F) fun j t b e1 e2=>by
   obtain⟨c,g1,g2⟩:=I.r.ow j t e1;rw[e2]at g1;cases g1;exact⟨g2.f,fun x e=>(hs.2 b (ne g2.k)).trans e⟩
  have res:Res X F p l h' r u:=by
   cases r with
   | no=>exact hr
   | f t=>exact hr
   | o t =>
    obtain⟨b,rfl,w,n⟩:=hr;exact⟨b,rfl,w.to (.refl F) w.f fun x e=>(hs.2 b (ne w.k)).trans e,n⟩
  refine⟨I.ok,I.os,I.bare,I.le,fun b o e=>?_,fun b o e=>?_,Gv (fun b hb o e=>?_) I.fr,Y0,cell',by rw[XX];exact I.len, ?_,fun j hj=>?_⟩
  .obtain⟨h1,h2⟩:=I.f b o e;exact⟨(hs.2 b (ne h2)).trans h1,h2⟩
  .obtain⟨sl,e1,n1⟩:=I.g b o e;exact⟨sl,(hs.2 b fun z=>by rw[z,ka]at e;cases e).trans e1,n1⟩
  .exact⟨o.slots,(hs.2 b fun z=>I.ok.fg b hb (z ▸ ka)).trans e⟩
  .
   have own:∀{j:Nat} {t:T},(p.set i r)[j]?=some (Sl.o t)->∃b,(l.set i (some u))[j]?=some (some (.ref b))/\Ce X F h' b t/\((j=i/\∀(k:Nat) (t':T),p[k]?=some (Sl.o t')->l[k]?≠some (some (.ref b)))\/(j≠i/\p[j]?=some (Sl.o t)/\l[j]?=some (some (.ref b)))):=fun {j t} e=>by
    rcases Vq e with ⟨z,y⟩ | ⟨n,e⟩
    .subst z y;obtain⟨b,rfl,w,n⟩:=res;exact⟨b,List.getElem?_set_self hiσ,w,.inl ⟨rfl,n⟩⟩
    .obtain⟨b,h1,h2⟩:=rel.ow j t e;exact⟨b,by rw[List.getElem?_set_ne (Ne.symm n)];exact h1,h2,.inr ⟨n,e,h1⟩⟩
   refine⟨fun j t e=>?_,fun j t e=>let ⟨b,h1,h2,_⟩:=own e;⟨b,h1,h2⟩,fun j k t t' b e1 e2 h1 h2=>?_,by rw[XX,XX];exact rel.ln⟩
   .rcases Vq e with ⟨z,y⟩ | ⟨n,e⟩
    .subst z y;exact⟨u,List.getElem?_set_self hiσ,res⟩
    .obtain⟨v,g1,g2⟩:=rel.fz j t e;exact⟨v,by rw[List.getElem?_set_ne (Ne.symm n)];exact g1,g2⟩
   .obtain⟨c,g1,_,g2⟩:=own e1;obtain⟨d,k1,_,k2⟩:=own e2;rw[h1]at g1;cases g1;rw[h2]at k1;cases k1;rcases g2 with ⟨z,n⟩ | ⟨z,q1,q2⟩<;>rcases k2 with ⟨y,m⟩ | ⟨y,q3,q4⟩
    .exact z.trans y.symm
    .exact absurd q4 (n k t' q3)
    .exact absurd q2 (m j t q1)
    .exact rel.ap j k t t' b q1 q3 q2 q4
  .rw[List.getElem?_set_ne fun z=>by rw[z,hj]at hp;cases hp];exact I.pr j hj
 rcases hx with hk | ⟨ow,hk⟩
 .refine wpAny_storeName_local hk hn (fun h' hn' hs=>h _ _ (.inl rfl) hs (go (.inl rfl) hs ⟨_,hn',fun j y v e1 e2=>?_⟩ fun y c e=>?_)) hcls
  .rcases get e2 with ⟨z,w⟩ | ⟨n,e2⟩
   .subst z;cases w;rw[hi]at e1;cases e1;exact .inl ⟨hk,by simp⟩
   .rcases hl j y v e1 e2 with ⟨k,e⟩ | ⟨k,c,e,z⟩
    .have:y≠x:=fun e=>n (Wm hN e1 (e ▸ hi));exact .inl ⟨k,by simp[this,e]⟩
    .exact .inr ⟨k,c,e,z.sameBut hs (I.cne e)⟩
  .obtain⟨w,z⟩:=I.cell y c e;exact⟨w,z.sameBut hs (I.cne e)⟩
 .obtain⟨c,hc⟩:=I.ok.has x (.inl hk);obtain⟨w,z⟩:=I.cell x c hc;refine wpAny_storeName_cell I.ok.kind hk hc z (fun h' jm hs=>h { s with heap:=h' } c (.inr ⟨ow,x,hc⟩) hs (go (t:=s.toks) (.inr ⟨ow,x,hc⟩) hs ⟨m,hn.sameBut hs (Ne.symm (I.cne hc)),fun j y v e1 e2=>?_⟩ fun y c' e=>?_))
  .rcases get e2 with ⟨z,w⟩ | ⟨n,e2⟩
   .subst z;cases w;rw[hi]at e1;cases e1;exact .inr ⟨.inl hk,c,hc,jm⟩
   .rcases hl j y v e1 e2 with q | ⟨k,c',e,z'⟩
    .exact .inl q
    .refine .inr ⟨k,c',e,z'.sameBut hs ?_⟩;rintro rfl;exact n (Wm hN e1 (I.ok.inj _ _ _ e hc ▸ hi))
  .by_cases hcc:c'=c
   .subst hcc;exact⟨_,jm⟩
   .obtain⟨w2,z2⟩:=I.cell y c' e;exact⟨w2,z2.sameBut hs hcc⟩
theorem Sf{M:Model}{A:Around}{E:ZQ}{i:Nat}{x:Str}{r:Sl}{u:Value}{Q:ZH}(I:Inv X F p l s)(hN:X.N.Nodup)(hi:X.N[i]?=some x)(hx:X.env.kindOf x=some .local\/(X.own=true/\X.env.kindOf x=some .cell))(hp:X.pt i=false)
  (hr:Res X F p l s.heap r u) (h:∀s',Inv X F (p.set i r) (l.set i (some u)) s'->Q () s'):wpAny M A (storeName X.env x u) Q E s:=Fh I hN hi hx hp hr fun s' _ _ _=>h s'
end
structure Got(g:Md)(F:OM)(L:Addr)(h h':Heap)(r:Sl)(v:Value):Prop where
 k:∀b o,b≠L->h.get? b=some o->h'.get? b=some o
 n:∀m,h.Ns L m->h'.Ns L m
 r:match r with
  | .f t=>∃F',Le F F'/\(∀a o,F' a=some o->F a=some o\/(h.get? a=none/\h'.get? a=some o))/\IsT g F' t v
  | .o t=>∃a,v=.ref a/\B5 t=true/\h.get? a=none/\Top g F h'.get? t (.ref a)
  | .no=>False
section
variable{g:Md}{F:OM}{L:Addr}{h h':Heap}{t:T}{v:Value}{ts:ZZ}{us:ZK}
theorem Got.kept(k:∀b o,h.get? b=some o->h'.get? b=some o)(q:IsT g F t v):Got g F L h h' (.f t) v:=⟨fun b o _=>k b o,fun _ hn=>hn.keeps k,F,.refl F,fun _ _ e=>.inl e,q⟩
theorem Got.sc(q:IsT g F t v):Got g F L h h (.f t) v:=.kept (fun _ _ e=>e) q
theorem Got.own{a:Addr}(k:∀b o,b≠L->h.get? b=some o->h'.get? b=some o)(n:∀m,h.Ns L m->h'.Ns L m)(c:B5 t=true)(h1:h.get? a=none)(q:Top g F h'.get? t (.ref a)):Got g F L h h' (.o t) (.ref a):=⟨k,n,a,rfl,c,h1,q⟩
theorem Got.lst(r:Zo g F ts us)(z:us.length<=sizeLine):Got g F L h (h.push { cls:=.type "list",data:=.seq us.toArray }) (.o (.lst ts)) (.ref h.objs.size) :=
 ⟨fun _ _ _ e=>Vn _ e,fun _ hn=>hn.push _,_,rfl,rfl,Heap.get?_none_of_le (N4 _),.mkL (Mw h rfl) ⟨z,0,rfl⟩ r⟩
theorem Got.tupN{a:Addr}{o:Obj}(fF:∀a o,F a=some o->h.get? a=some o)(k:∀b o,h.get? b=some o->h'.get? b=some o)(h1:h.get? a=none)(h2:h'.get? a=some o)(q:Rf o us)(r:Zo g F ts us):Got g F L h h' (.f (.tup ts)) (.ref a) :=
 have n:F a=none:=by
  cases q:F a with
  | none=>rfl
  | some o=>rw[fF _ o q]at h1;cases h1
 ⟨fun b o _=>k b o,fun _ hn=>hn.keeps k,F.put a o,.put n,fun b x e=>by
  by_cases z:b=a
  .subst z;rw[Qi]at e;cases e;exact .inr ⟨h1,h2⟩
  .rw[Qo z]at e;exact .inl e,.mkT Qi q (r.up (.put n))⟩
theorem Got.tup(fF:∀a o,F a=some o->h.get? a=some o)(r:Zo g F ts us)(z:us.length<=sizeLine):Got g F L h (h.push { cls:=.type "tuple",data:=.seq us.toArray }) (.f (.tup ts)) (.ref h.objs.size) :=
 .tupN fF (fun _ _ e=>Vn _ e) (Heap.get?_none_of_le (N4 _)) (Mw h rfl) ⟨rfl,rfl,⟨_,rfl⟩,z⟩ r
end
section
variable{X:Cx}{F:OM}{p:P}{V:Vs}{s:Shared}{h':Heap}{r:Sl}{v:Value}{Q:Sl->P->Prop}{tk:Nat}
theorem Inv.got(I:Inv X F p V s)(G:Got X.toMd F X.env.locals s.heap h' r v):∃F',Le F F'/\Inv X F' p V { s with heap:=h',toks:=tk }/\Res X F' p V h' r v:=by
 obtain⟨k,m,q⟩:=G;cases r with
 | no=>exact q.elim
 | f t =>
  obtain⟨F',l,n,i⟩:=q;exact⟨F',l,I.more k m l n,i⟩
 | o t =>
  obtain⟨a,rfl,c,n,i⟩:=q;refine⟨F,.refl F,I.more k m (.refl F) fun _ _ e=>.inl e,a,rfl,⟨c, ?_,fun z=>?_,i⟩,fun j u e e2=>?_⟩
  .cases q:F a with
   | none=>rfl
   | some o=>rw[(I.f a o q).1]at n;cases n
  .obtain⟨o,e⟩:=I.kpAt z;rw[e]at n;cases n
  .obtain⟨b,h1,h2⟩:=I.r.ow j u e;rw[e2]at h1;cases h1;obtain⟨x,hx⟩:=h2.at;rw[hx]at n;cases n
theorem Inv.ep(I:Inv X F p V s)(G:Got X.toMd F X.env.locals s.heap h' r v)(q:Q r p):EP X F V Q v { s with heap:=h',toks:=tk }:=let ⟨F',l,I',i⟩:=I.got G;⟨F',p,r,l,I',i,q⟩
theorem EP.le{F0:OM}{s':Shared}(l:Le F0 F)(h:EP X F V Q v s'):EP X F0 V Q v s':=let ⟨F',p',r,l',h⟩:=h;⟨F',p',r,l.trans l',h⟩
theorem TP.le{F0:OM}{s':Shared}{b:Bool}{Q:Bool->P->Prop}(l:Le F0 F)(h:TP X F V Q b s'):TP X F0 V Q b s':=let ⟨F',p',l',h⟩:=h;⟨F',p',l.trans l',h⟩
end
def SE(w:W)(e:E)(X:Cx)(x:Expr):Prop:=∀(F:OM) (p:P) (l:Vs) (s:Shared) (Q:Sl->P->Prop),Inv X F p l s->wE w e p Q->WP X (eval x X.env) (EP X F l Q) s
def ST(w:W)(e:E)(X:Cx)(x:Expr)(wh:Sem Value):Prop:=∀(F:OM) (p:P) (l:Vs) (s:Shared) (Q:Bool->P->Prop),Inv X F p l s->wE w e p (fun r q=>Q5 r fun b=>Q b q)->WP X (isTrue x X.env wh) (TP X F l Q) s
def Ar(X:Cx)(F:OM)(l:Vs)(a:A)(v:Value):Prop:=match a with
 | .t t=>IsT X.toMd F t v
 | .s i=>l[i]?=some (some v)
theorem Ar.up{X:Cx}{F F':OM}{V:Vs}{a:A}{v:Value}(l:Le F F')(h:Ar X F V a v):Ar X F' V a v:=by
 cases a with
 | t t=>exact IsT.up h l
 | s i=>exact h
def i6:E->Bool
 | .io _=>true
 | _=>false
def Uz:E->Bool
 | .cons a r=>!i6 a && Uz r
 | _=>true
def SH(w:W)(m:Bool)(a:E)(X:Cx)(x:Expr):Prop:=∀(F:OM) (p:P) (l:Vs) (s:Shared) (K:A->P->Prop),Inv X F p l s->wH m a p (wE w a p) K ->
 WP X (eval x X.env) (fun v s'=>∃F' p' b,Le F F'/\Inv X F' p' l s'/\Ar X F' l b v/\((m || i6 a)=false->∃t,b=.t t)/\K b p') s
def noStar:Expr->Bool
 | .Starred _ _=>false
 | _=>true
theorem Yd{e:Expr}{es:ZM}{env:Env}(h:noStar e=true):starEach (e::es) env=(false,eval e env)::starEach es env:=by
 cases e<;>first | rfl | cases h
inductive Hs(X:Cx)(w:W)(m:Bool):E->ZM->Prop
 | nil:Hs X w m .nil []
 | cons {a r:E} {x:Expr} {xs:ZM} (h:SH w m a X x) (s:noStar x=true) (t:Hs X w m r xs):Hs X w m (.cons a r) (x::xs)
def Tx(X:Cx):ZM->(ZK->Shared->Prop)->Shared->Prop
 | [],K,s=>K [] s
 | x::r,K,s=>WP X (eval x X.env) (fun v s1=>Tx X r (fun us=>K (v::us)) s1) s
section
variable{X:Cx}{w:W}{F:OM}{p:P}{V:Vs}{s:Shared}
def V6(g:Md)(F:OM)(h:Heap)(t:T)(v:Value):Prop:=Top g F (bif B5 t then h.get? else F) t v
theorem V6.of{g:Md}{F:OM}{h:Heap}{t:T}{v:Value}(fF:∀a o,F a=some o->h.get? a=some o)(i:IsT g F t v):V6 g F h t v:=by
 unfold V6;cases B5 t with
 | true=>exact Top.up i (.refl F) fF
 | false=>exact i
theorem Inv.fh(I:Inv X F p V s):∀a o,F a=some o->s.heap.get? a=some o:=fun a o e=>(I.f a o e).1
theorem Inv.look{a:A}{t:T}{v:Value}(I:Inv X F p V s)(e:PV.look p a=some t)(h:Ar X F V a v):V6 X.toMd F s.heap t v:=by
 cases a with
 | t u=>cases e;exact .of I.fh h
 | s i =>
  unfold PV.look at e;dsimp only at e
  split at e
  .rename_i q
   cases e;obtain⟨v',h1,h2⟩:=I.r.fz i _ q;rw[show V[i]?=_ from h]at h1;cases h1;exact .of I.fh h2
  .rename_i q
   cases e;obtain⟨a,h1,h2⟩:=I.r.ow i _ q;rw[show V[i]?=_ from h]at h1;cases h1;unfold V6;rw[h2.c];exact h2.t
  .cases e
theorem Inv.looks(I:Inv X F p V s):∀{as:List A} {us:ZK} {ts:ZZ},Paired (Ar X F V) as us->looks p as=some ts->Paired (V6 X.toMd F s.heap) ts us
 | _,_,_,.nil,e=>by cases e;exact .nil
 | _,_,_,.cons r t,e=>by
  obtain⟨u,e1,e⟩:=ZP.mp e;obtain⟨us,e2,rfl⟩:=Y7.mp e;exact .cons (I.look e1 r) (I.looks t e2)
theorem B2:∀{as:List A} {us:ZK} {ts:ZZ},(∀a∈as,∃t,a=A.t t)->Paired (Ar X F V) as us->looks p as=some ts->Zo X.toMd F ts us
 | _,_,_,_,.nil,e=>by cases e;exact .nil
 | _,_,_,n,.cons r t,e=>by
  obtain⟨u,e1,e⟩:=ZP.mp e;obtain⟨us,e2,rfl⟩:=Y7.mp e;obtain⟨u',rfl⟩:=n _ Yb;cases e1;exact .cons r (B2 (fun a m=>n a (Y5 _ m)) t e2)
theorem evs{m:Bool}:∀{es:E} {xs:ZM} {F:OM} {p:P} {s:Shared} {Q:List A->P->Prop} {K:ZK->Shared->Prop},Hs X w m es xs->Inv X F p V s->wR w m es p Q ->
  (∀F' p' as us s',Le F F'->Inv X F' p' V s'->Paired (Ar X F' V) as us->(m=false->Uz es=true->∀a∈as,∃t,a=A.t t)->Q as p'->K us s')->Tx X xs K s
 | _,_,F,p,s,Q,K,.nil,I,h,k=>k F p [] [] s (.refl F) I .nil (fun _ _ a m=>absurd m J5) (by cases m<;>exact h)
 | .cons a r,_,F,p,s,Q,K,.cons h1 _ t,I,h,k=>by
  have h:wH m a p (wE w a p) fun a1 p1=>wR w m r p1 fun as p2=>Q (a1::as) p2:=by cases m<;>exact h
  refine Vz (h1 F p V s _ I h) fun v s1 ⟨F1,p1,b,l1,I1,r1,n1,q1⟩=>?_;refine evs t I1 q1 fun F2 p2 as us s2 l2 I2 r2 n2 q2=>k F2 p2 (b::as) (v::us) s2 (l1.trans l2) I2 (.cons (r1.up l2) r2) (fun em en c mc=>?_) q2;have en:(!i6 a && Uz r)=true:=en;rw[Jx]at en;rcases Ya.mp mc with rfl | mc
  .exact n1 (by rw[em];simpa using en.1)
  .exact n2 em en.2 c mc
theorem Hs.star{m:Bool}:∀{es:E} {xs:ZM},Hs X w m es xs->∀x∈xs,noStar x=true
 | _,_,.nil,x,h=>absurd h J5
 | _,_,.cons h s t,x,hx=>by
  rcases Ya.mp hx with rfl | hx
  .exact s
  .exact t.star x hx
theorem Vh{pos:Pos}:∀{xs:ZM} {K:ZK->Shared->Prop} {s:Shared},(∀x∈xs,noStar x=true)->Tx X xs K s->WP X (spliced (backTo pos (starEach xs X.env))) K s
 | [],_,_,_,h=>Calls.spliced_nil h
 | x::xs,K,s,n,h=>by
  rw[Yd (n x Yb)];show WP X (spliced ((false,eval x X.env)::backTo pos (starEach xs X.env))) _ s;exact Calls.spliced_cons (Vz h fun v s1 h1=>Vh (fun y m=>n y (Y5 _ m)) h1)
theorem Vx:∀(es:ZM) (env:Env) (pos:Pos),(∀e∈es,noStar e=true)->(backTo pos (starEach es env)).any (·.1)=false
 | [],env,pos,h=>rfl
 | e::es,env,pos,h=>by
  rw[Yd (h e Yb)];have:=Vx es env pos fun e m=>h e (Y5 _ m);show (false || (backTo pos (starEach es env)).any (·.1))=false;rw[this];rfl
structure Nm(X:Cx)(i:Nat)(y:Str):Prop where
 n:X.N[i]?=some y
 d:(y == ("__debug__" : Str))=false
 c:(y == ("__classdict__" : Str))=false
theorem Dv{i:Nat}{y:Str}{pos:Pos}{v:Value}{R:ZQ}(n:Nm X i y)(I:Inv X F p V s)(e:V[i]?=some (some v))(h:R v s):WP X (eval (.Name y pos) X.env) R s:=var_ok I n.n e n.d n.c h
theorem Inv.val{i:Nat}(I:Inv X F p V s)(h:done p i=true):∃v,V[i]?=some (some v):=by
 unfold done at h
 split at h
 .rename_i e;obtain⟨v,h,_⟩:=I.r.fz i _ e;exact⟨v,h⟩
 .rename_i e;obtain⟨a,h,_⟩:=I.r.ow i _ e;exact⟨_,h⟩
 .cases h
theorem Zxj{i:Nat}{y:Str}{pos:Pos}{m:Bool}(n:Nm X i y):SH w true (.v i) X (.Name y pos)/\SH w m (.io i) X (.Name y pos):=by
 refine⟨fun F p V s K I h=>?_,fun F p V s K I h=>?_⟩
 .have h:if true=true then (if done p i=true then K (.s i) p else False) else on (read p i) fun q=>K (.t q.1) q.2:=h
  rw[if_pos rfl]at h
  split at h
  .rename_i d
   obtain⟨v,e⟩:=I.val d;exact Dv n I e ⟨F,p,.s i,.refl F,I,e,(fun z=>nomatch z),h⟩
  .exact h.elim
 .have h:if done p i=true then K (.s i) p else False:=h
  split at h
  .rename_i d
   obtain⟨v,e⟩:=I.val d;exact Dv n I e ⟨F,p,.s i,.refl F,I,e,(fun z=>by rw[show i6 (.io i)=true from rfl,Bool.or_true]at z;cases z),h⟩
  .exact h.elim
theorem EP.t{v:Value}{s':Shared}{K:T->P->Prop}(h:EP X F V (fun r q=>Cy r fun t=>K t q) v s'):∃F' p' t,Le F F'/\Inv X F' p' V s'/\IsT X.toMd F' t v/\K t p':=by
 obtain⟨F1,p1,r,l1,I1,rs,q⟩:=h;cases r with
 | no=>exact q.elim
 | f t=>exact⟨F1,p1,t,l1,I1,rs,q⟩
 | o t=>obtain⟨F2,l2,I2,i⟩:=I1.thaw rfl rs;exact⟨F2,p1,t,l1.trans l2,I2,i,q⟩
theorem yt{a:E}{x:Expr}{m:Bool}(h:SE w a X x)(e:∀p K,wH m a p (wE w a p) K->wE w a p fun r q=>Cy r fun t=>K (.t t) q):SH w m a X x:=fun F p V s K I hw =>
 Vz (h F p V s _ I (e p K hw)) fun v s1 q=>let ⟨F1,p1,t,l,I1,i,k⟩:=q.t;⟨F1,p1,.t t,l,I1,i,fun _=>⟨t,rfl⟩,k⟩
theorem sh_v{i:Nat}{x:Expr}(h:SE w (.v i) X x):SH w false (.v i) X x:=yt h fun p K hw=>by
 have hw:on (read p i) fun q=>K (.t q.1) q.2:=hw;obtain⟨q,e,hw⟩:=Z9 hw;exact Z1 e hw
theorem sh_of{a:E}{x:Expr}{m:Bool}(h1:∀i,a≠.io i)(h2:∀i,a≠.v i)(h:SE w a X x):SH w m a X x:=yt h fun p K hw=>by
 cases a<;>first | exact hw | exact absurd rfl (h1 _) | exact absurd rfl (h2 _)
theorem se_v{i:Nat}{y:Str}{pos:Pos}(n:Nm X i y):SE w (.v i) X (.Name y pos):=fun F p V s Q I h=>by
 obtain⟨⟨t,p'⟩,e,h⟩:=Z9 (show on (read p i) fun q=>Q (.f q.1) q.2 from h);obtain⟨F',v,l,I',e1,i1⟩:=I.readAt e;exact Dv n I e1 ⟨F',p',.f t,l,I',i1,h⟩
theorem se_mv{i:Nat}{y:Str}{pos:Pos}(n:Nm X i y):SE w (.mv i) X (.Name y pos):=fun F p V s Q I h=>by
 unfold wE at h
 split at h
 .rename_i t e
  obtain⟨a,h1,h2⟩:=I.r.ow i t e;refine Dv n I h1 ⟨F,_,.o t,.refl F,I.drop i,⟨a,rfl,h2,fun j u e1 e2=>?_⟩,h⟩;rcases Vq e1 with ⟨_,z⟩ | ⟨ne,e1⟩
  .cases z
  .exact ne (I.r.ap j i u t a e1 e e2 h1)
 .rename_i t e
  obtain⟨v,h1,h2⟩:=I.r.fz i t e;exact Dv n I h1 ⟨F,p,.f t,.refl F,I,h2,h⟩
 .exact h.elim
theorem se_k{t:T}{k:Const}{j:Nat}{pos:Pos}(h:(t=.non/\k=.none)\/(∃b,t=.bl b/\k=.bool b)\/(∃i,t=.int i/\k=.int i)\/∃x,t=.str x/\k=.str x):SE w (.k t) X (.Constant k j pos):=fun F p V s Q I q=>by
 have q:Q (.f t) p:=q;rcases h with ⟨rfl,rfl⟩ | ⟨b,rfl,rfl⟩ | ⟨i,rfl,rfl⟩ | ⟨x,rfl,rfl⟩
 .exact Constant_none ⟨F,p,.f _,.refl F,I,Top.non,q⟩
 .exact Constant_bool ⟨F,p,.f _,.refl F,I,Top.bl,q⟩
 .exact wpAny_Constant_int ⟨F,p,.f _,.refl F,I.tok _,Top.int,q⟩
 .exact Calls.Constant_str ⟨F,p,.f _,.refl F,I.tok _,Top.str,q⟩
variable{a b c:E}{x y z:Expr}{r:ZM}{pos:Pos}
theorem onB_is{q:Sl}{Q:Bool->Prop}(h:Q5 q Q):∃b,q=.f (.bl b)/\Q b:=by
 unfold Q5 at h
 split at h
 .exact⟨_,rfl,h⟩
 .exact h.elim
theorem EP.bo{v:Value}{s':Shared}{K:Bool->P->Prop}(h:EP X F V (fun r q=>Q5 r fun t=>K t q) v s'):∃F' p' b,Le F F'/\Inv X F' p' V s'/\v=.bool b/\K b p':=by
 obtain⟨F1,p1,r,l1,I1,rs,q⟩:=h;obtain⟨b,rfl,q⟩:=onB_is q;cases(show IsT X.toMd F1 (.bl b) v from rs);exact⟨F1,p1,b,l1,I1,rfl,q⟩
theorem se_and(ha:SE w a X x)(hb:SE w b X (.BoolOp .And (y::r) pos)):SE w (.and a b) X (.BoolOp .And (x::y::r) pos):=fun F p V s Q I h=>by
 refine BoolOp_and (Vz (ha F p V s _ I h) fun v s1 q=>?_);obtain⟨F1,p1,c,l,I1,rfl,k⟩:=q.bo;refine wpAny_truthy_bool ?_;cases c with
 | true=>exact Vz (hb F1 p1 V s1 Q I1 k) fun v s2 q=>q.le l
 | false=>exact⟨F1,p1,.f _,l,I1,Top.bl,k⟩
theorem se_or(ha:SE w a X x)(hb:SE w b X (.BoolOp .Or (y::r) pos)):SE w (.or a b) X (.BoolOp .Or (x::y::r) pos):=fun F p V s Q I h=>by
 refine BoolOp_or (Vz (ha F p V s _ I h) fun v s1 q=>?_);obtain⟨F1,p1,c,l,I1,rfl,k⟩:=q.bo;refine wpAny_truthy_bool ?_;cases c with
 | false=>exact Vz (hb F1 p1 V s1 Q I1 k) fun v s2 q=>q.le l
 | true=>exact⟨F1,p1,.f _,l,I1,Top.bl,k⟩
theorem yl{op:BoolOp}(h:SE w a X x):SE w a X (.BoolOp op [x] pos):=fun F p V s Q I hw=>BoolOp_one (h F p V s Q I hw)
theorem se_not(ha:SE w a X x):SE w (.not a) X (.UnaryOp .Not x pos):=fun F p V s Q I h=>by
 refine UnaryOp_ (Vz (ha F p V s _ I h) fun v s1 q=>?_);obtain⟨F1,p1,c,l,I1,rfl,k⟩:=q.bo;exact not_of (wpAny_truthy_bool ⟨F1,p1,.f _,l,I1,Top.bl,k⟩)
theorem se_ite(hc:ST w c X z (eval z X.env))(ha:SE w a X x)(hb:SE w b X y):SE w (.ite c a b) X (.IfExp z x y pos):=fun F p V s Q I h=>by
 refine wpAny_IfExp (Vz (hc F p V s _ I h) fun d s1 ⟨F1,p1,l,I1,k⟩=>?_);cases d with
 | true=>exact Vz (ha F1 p1 V s1 Q I1 k) fun v s2 q=>q.le l
 | false=>exact Vz (hb F1 p1 V s1 Q I1 k) fun v s2 q=>q.le l
theorem yq(h:SE w a X x)(he:∀whole,isTrue x X.env whole=(do let v <-whole;standAt x.pos;holding [v] (truthy v))):ST w a X x (eval x X.env):=fun F p V s Q I hw=>by
 refine isTrue_plain (Vz (h F p V s _ I hw) fun v s1 q=>?_) (he _);obtain⟨F1,p1,c,l,I1,rfl,k⟩:=q.bo;exact wpAny_truthy_bool ⟨F1,p1,l,I1,k⟩
theorem sf{wh wh':Sem Value}(ha:ST w a X x wh)(e:wh=eval x X.env):ST w a X (.BoolOp .And [x] pos) wh':=fun F p V s Q I h=>by
 subst e;refine isTrue_and (Vz (ha F p V s Q I h) fun c s1 e=>?_);cases c with
 | true=>exact isTrue_and_nil e
 | false=>exact e
theorem st_or1{wh wh':Sem Value}(ha:ST w a X x wh)(e:wh=eval x X.env):ST w a X (.BoolOp .Or [x] pos) wh':=fun F p V s Q I h=>by
 subst e;refine isTrue_or (Vz (ha F p V s Q I h) fun c s1 e=>?_);cases c with
 | false=>exact isTrue_or_nil e
 | true=>exact e
theorem st_and{wh:Sem Value}(ha:ST w a X x (eval x X.env))(hb:∀wh,ST w b X (.BoolOp .And (y::r) pos) wh):ST w (.and a b) X (.BoolOp .And (x::y::r) pos) wh:=fun F p V s Q I h=>by
 refine isTrue_and (Vz (ha F p V s _ I h) fun c s1 ⟨F1,p1,l,I1,k⟩=>?_);cases c with
 | true=>exact Vz (hb wh F1 p1 V s1 Q I1 k) fun v s2 q=>q.le l
 | false=>exact⟨F1,p1,l,I1,k⟩
theorem st_or{wh:Sem Value}(ha:ST w a X x (eval x X.env))(hb:∀wh,ST w b X (.BoolOp .Or (y::r) pos) wh):ST w (.or a b) X (.BoolOp .Or (x::y::r) pos) wh:=fun F p V s Q I h=>by
 refine isTrue_or (Vz (ha F p V s _ I h) fun c s1 ⟨F1,p1,l,I1,k⟩=>?_);cases c with
 | true=>exact⟨F1,p1,l,I1,k⟩
 | false=>exact Vz (hb wh F1 p1 V s1 Q I1 k) fun v s2 q=>q.le l
theorem st_not{wh:Sem Value}(ha:ST w a X x (eval x X.env)):ST w (.not a) X (.UnaryOp .Not x pos) wh:=fun F p V s Q I h=>isTrue_not (Vz (ha F p V s (fun c q=>Q (!c) q) I h) fun c s1 e=>e)
variable{es:E}{xs:ZM}
theorem se_tup{j:Nat}(hs:Hs X w false es xs)(n:Uz es=true):SE w (.tup es) X (.Tuple xs j pos):=fun F p V s Q I h=>by
 refine wpAny_Tuple_spliced (Vh hs.star (evs hs I h fun F1 p1 as us s1 l I1 ar nt q=>?_));obtain⟨ts,e,q⟩:=Z9 q;have r:=B2 (nt rfl n) ar e
 split at q
 .rename_i z
  have z:us.length<=sizeLine:=by rw[<-r.length];exact z
  exact⟨z,(I1.ep (tk:=s1.toks) (.tup I1.fh r z) q).le l⟩
 .exact q.elim
theorem se_lst(hs:Hs X w false es xs)(n:Uz es=true):SE w (.lst es) X (.List xs pos):=fun F p V s Q I h=>by
 refine wpAny_List_spliced (Vh hs.star (evs hs I h fun F1 p1 as us s1 l I1 ar nt q=>?_));obtain⟨ts,e,q⟩:=Z9 q;have r:=B2 (nt rfl n) ar e
 split at q
 .rename_i z
  have z:us.length<=sizeLine:=by rw[<-r.length];exact z
  exact⟨z,(I1.ep (tk:=s1.toks) (.lst r z) q).le l⟩
 .exact q.elim
theorem Sa{q:Pr}{Q:Sl->P->Prop}{K:ZK->Shared->Prop}(hs:Hs X w true es xs)(I:Inv X F p V s)(h:wE w (.pr q es) p Q)(k:∀F' p' ts us s' r,Le F F'->Inv X F' p' V s'->Paired (V6 X.toMd F' s'.heap) ts us->Ww q ts=some r->Q r p'->K us s'):Tx X xs K s :=
 evs hs I h fun F1 p1 as us s1 l I1 ar _ q=>by
  obtain⟨ts,e,q⟩:=Z9 q;obtain⟨r,e2,q⟩:=Z9 q;exact k F1 p1 ts us s1 r l I1 (I1.looks ar e) e2 q
end
noncomputable def opOf:Op->Operator
 | .add=>.Add
 | .sub=>.Sub
 | .mul=>.Mult
 | .fdiv=>.FloorDiv
 | .mod=>.Mod
 | .pow=>.Pow
noncomputable def W4:Cm->CmpOp
 | .eq=>.Eq
 | .ne=>.NotEq
 | .lt=>.Lt
 | .le=>.LtE
 | .gt=>.Gt
 | .ge=>.GtE
 | .isin=>.In
 | .notin=>.NotIn
 | .is=>.Is
 | .isnt=>.IsNot
section
variable{g:Md}{F:OM}{D:OM}{A:Around}{R:ZQ}{E:ZQ}{s:Shared}{h:Heap}{t t':T}{u v:Value}{r:Sl}{a L:Addr}{o:Obj}{us:ZK}
theorem Rf.is{us:ZK}(k:Rf o us)(e:h.get? a=some o):IsTup h a us.toArray:=⟨o,e,k.c,k.s⟩
theorem Fm.at{us:ZK}(k:Fm o us)(e:h.get? a=some o):∃n,h.get? a=some { cls:=.type "list",data:=.seq us.toArray n }:=let ⟨_,n,q⟩:=k;⟨n,q ▸ e⟩
theorem Fm.is{us:ZK}(k:Fm o us)(e:h.get? a=some o):h.IsList a us.toArray:=by
 obtain⟨n,q⟩:=k.at e;exact⟨_,q,rfl,⟨n,rfl⟩⟩
theorem Ft.is{vs:List (Key×Value)}(k:Ft g a o vs)(e:h.get? a=some o):h.DictOf (Zp g.prog g.w) a vs:=let ⟨es,ep,d,c,q⟩:=k.es;⟨o,es,ep,e,k.ex,d,c,q,k.nd⟩
abbrev Ok(g:Md)(F:OM)(L:Addr)(s:Shared)(r:Sl)(R:ZQ):Prop:=∀h' v t,Got g F L s.heap h' r v->R v { s with heap:=h',toks:=t }
theorem V3(fF:∀a o,F a=some o->s.heap.get? a=some o){ts:ZZ}(h:IsT g F (.tup ts) v):∃a us,v=.ref a/\us.length<=sizeLine/\IsTup s.heap a us.toArray/\Zo g F ts us :=
 let ⟨a,o,us,e,h1,k,r⟩:=h.unT
 ⟨a,us,e,k.z,k.is (fF a o h1),r⟩
theorem U3{ts:ZZ}(h:V6 g F s.heap (.lst ts) v):∃a us n,v=.ref a/\us.length<=sizeLine/\s.heap.get? a=some { cls:=.type "list",data:=.seq us.toArray n }/\Zo g F ts us :=
 let ⟨a,o,us,e,h1,k,r⟩:=Top.unL h
 let ⟨n,q⟩:=k.at h1
 ⟨a,us,n,e,k.1,q,r⟩
theorem Bp{XY:ZX}(h:V6 g F s.heap (.dct XY) v):∃a vs,v=.ref a/\vs.length<=sizeLine/\(a == sysModules)=false/\s.heap.DictOf (Zp g.prog g.w) a vs/\Yo g F XY vs :=
 let ⟨a,o,vs,e,h1,k,r⟩:=Top.unD h
 ⟨a,vs,e,k.z,k.ns,k.is h1,r⟩
theorem bc{i:Str}{n:Int}{w w':Tok}(n0:0<=n)(n1:n<=1000)(i1:i.length<=1000)(q:∀t k,R (.str (repS i n.toNat) t) { s with toks:=k }):wpAny (model g.prog g.w) A (binaryOp .Mult (.str i w) (.int n w')) R E s:=by
 have hm:i.length * n.toNat<=1000000:=U8 (Nat.mul_le_mul i1 (show n.toNat<=1000 by omega)) (by decide);by_cases c1:n<1
 .have:n=0:=by omega
  subst this;exact PySem.P.mul_str_none (by decide) (by decide) (q _ _)
 by_cases c2:(n == 1 || i.length == 0)=true
 .have e:repS i n.toNat=i:=by
   rw[Bool.or_eq_true,beq_iff_eq,beq_iff_eq]at c2
   have:(repS i n.toNat).cps.toList=i.cps.toList:=by
    rw[Nc];rcases c2 with rfl | c2
    .simp
    .have:i.cps.toList=[]:=List.eq_nil_of_length_eq_zero (by have:i.cps.size=0:=c2;simpa using this);rw[this];simp
   cases i;cases hr:repS _ n.toNat;rw[hr]at this;simp at this;simp[this]
  rw[e]at q;refine PySem.P.mul_str ?_ (fun _ z=>?_) (fun _ z=>?_) ?_
  .rw[Bool.or_eq_false_iff];exact⟨Mr (by omega),Mr (by omega)⟩
  .rw[c2]at z;cases z
  .rw[c2]at z;cases z
  .rw[if_neg c1,if_pos c2];exact q _ s.toks
 .have c2':=c2;rw[Bool.or_eq_true,beq_iff_eq,beq_iff_eq]at c2';refine PySem.P.mul_str ?_ (fun _ _=>?_) (fun _ _=>?_) ?_
  .rw[Bool.or_eq_false_iff];exact⟨Mr (by omega),Mr (by omega)⟩
  .intro z;have h2:=(Int.le_ediv_iff_mul_le (show (0:Int)<n by omega)).mpr (show (1000:Int) * n<=2 ^ 63 - 1 by omega);omega
  .exact Mr (Nat.not_lt_of_le (U8 hm (by decide)))
  .rw[if_neg c1,if_neg c2];exact⟨by show (repS i n.toNat).length<=_;rw[Bj,Nat.mul_comm];exact U8 hm (by decide),q _ _⟩
theorem oq{l:Addr}{b:Value}{x:T}{k:Int}{t:Tok}(fF:∀a o,F a=some o->s.heap.get? a=some o)(tp:IsTup s.heap l #[b])(it:IsT g F x b)(il:IsT g F (.tup [x]) (.ref l))(k0:0<=k)(k9:k<=1000)
  (q:Ok g F L s (.f (.tup (List.replicate k.toNat x))) R):wpAny (model g.prog g.w) A (binaryOp .Mult (.ref l) (.int k t)) R E s:=by
 obtain⟨⟨c1,d1,t1,s1⟩,o1,k1,n1,m1⟩:=id tp;simp only at k1 m1;subst k1 m1;have hT:s.TypeIs (.ref l) "tuple" := ⟨_,o1,rfl⟩
 have rep:∀n:Nat,Zo g F (List.replicate n x) (List.replicate n b):=fun n=>by
  induction n with
  | zero=>exact .nil
  | succ n ih=>rw[List.replicate_succ,List.replicate_succ];exact .cons it ih
 have sz:=sizeLine_eq
 refine wpAny_binaryOp_repeat_ref (T:="tuple") (U:="int") (by decide) hT (fun s'=>typeIs_int s' k t) TupR.noFill PySem.F.fills_int_mul PySem.F.slot_int_rmul TupR.rep PySem.F.slot_int_index.lookup
  (call_meets PySem.F.slot_int_rmul (typeIs_int s k t) PySem.F.entry_int_rmul (PySem.F.args_int_rmul_2 _ _) (TupR.declines k t l _ n1 d1 s1) ⟨o1,rfl,hT, ?_⟩)
 by_cases e0:k=0
 .subst e0;exact call_meets PySem.F.slot_tuple_mul hT PySem.F.entry_tuple_mul (PySem.F.args_tuple_mul_2 _ _) (TupR.rep0 l b n1 t d1 s1) ⟨o1,q _ _ s.toks (.tup (us:=[]) fF .nil (Mj _))⟩
 by_cases e1:k=1
 .subst e1;exact call_meets PySem.F.slot_tuple_mul hT PySem.F.entry_tuple_mul (PySem.F.args_tuple_mul_2 _ _) (TupR.rep1 l b n1 t d1 s1) ⟨o1,q s.heap _ s.toks (.sc il)⟩
 .exact call_meets PySem.F.slot_tuple_mul hT PySem.F.entry_tuple_mul (PySem.F.args_tuple_mul_2 _ _) (TupR.repG l b n1 t d1 s1 (k:=k) (by omega) k9) ⟨o1,q _ _ s.toks (.tup (us:=List.replicate k.toNat b) fF (rep _) (by rw[List.length_replicate];omega))⟩
theorem Ri{f:Int->Int->Option Sl}(h:de f t t'=some r):∃a b,t=.int a/\t'=.int b/\f a b=some r:=by
 cases t<;>first | cases h | skip
 cases t'<;>first | cases h | skip
 exact⟨_,_,rfl,rfl,h⟩
theorem op_run(o:Op)(fF:∀a o,F a=some o->s.heap.get? a=some o)(s1:V6 g F s.heap t u)(s2:V6 g F s.heap t' v)(e:ao o t t'=some r)(k:Ok g F L s r R):wpAny (model g.prog g.w) A (binaryOp (opOf o) u v) R E s:=by
 have fi:∀{i tk},r=.f (.int i)->R (.int i s.toks) { s with toks:=tk }:=fun {i tk} q=>k s.heap _ tk (by rw[q];exact .sc .int);cases o with
 | add =>
  have e:addT t t'=some r:=e;cases t with
  | int a=>cases t'<;>cases e;cases s1;cases s2;exact add_int (fi rfl)
  | bl a=>cases t'<;>cases e;cases s1;cases s2;exact IntBool.add_bool_int (fi rfl)
  | str a =>
   cases t'<;>first | cases e | skip
   cases s1;cases s2;obtain⟨hz,e⟩:=Option.ite_none_right_eq_some.mp e;cases e;exact add_str (fun t tk=>k s.heap _ tk (.sc .str)) hz
  | lst a =>
   cases t'<;>first | cases e | skip
   obtain⟨hz,e⟩:=Option.ite_none_right_eq_some.mp e;cases e;obtain⟨p,us,n,rfl,z1,h1,r1⟩:=U3 s1;obtain⟨q,ws,m,rfl,z2,h2,r2⟩:=U3 s2;have l1:=r1.length;have l2:=r2.length;refine PySem.P.add_list h1 h2 ?_ (by rw[Ul,Ul];omega);rw[show us.toArray++ws.toArray=(us++ws).toArray by simp];exact k _ _ s.toks (.lst (Gn r1 r2) (by rw[Nb];omega))
  | tup a =>
   cases t'<;>first | cases e | skip
   obtain⟨hz,e⟩:=Option.ite_none_right_eq_some.mp e;cases e;obtain⟨p,us,rfl,z1,h1,r1⟩:=V3 fF s1;obtain⟨q,ws,rfl,z2,h2,r2⟩:=V3 fF s2;have l1:=r1.length;have l2:=r2.length;by_cases eu:us=[]
   .subst eu;cases r1;obtain⟨⟨c1,d1,t1,Qp⟩,o1,k1,n1,m1⟩:=id h1;obtain⟨⟨c2,d2,t2,X6⟩,o2,k2,n2,m2⟩:=id h2;simp only at k1 m1 k2 m2;subst k1 m1 k2 m2;exact concat_meets ⟨_,o1,rfl⟩ ⟨_,o2,rfl⟩ noFill_tuple_add seq_tuple_add PySem.F.slot_tuple_add PySem.F.entry_tuple_add (PySem.F.args_tuple_add_2 _ _) (tuple_addW0 p q _ _ n1 n2 d1 d2 Qp X6 rfl) ⟨o1,o2,k s.heap _ s.toks (.sc s2)⟩
   .refine HT.Zzc h1 h2 eu (fun ew=>?_) (fun ew=>k _ _ s.toks (.tup fF (Gn r1 r2) (by rw[Nb];omega))) (by omega);subst ew;cases r2;rw[ZE]at k;exact k s.heap _ s.toks (.sc s1)
  | _=>cases e
 | sub=>obtain⟨a,b,rfl,rfl,e⟩:=Ri e;cases e;cases s1;cases s2;exact sub_int (fi rfl)
 | mul =>
  have e:mulT t t'=some r:=e;cases t with
  | int a =>
   cases t'<;>first | cases e | skip
   cases s1;cases s2;obtain⟨hz,e⟩:=Option.ite_none_right_eq_some.mp e;cases e;exact mul_int (fi rfl) (hz.elim (fun⟨a,b⟩=>.of_left (intBits_le_64 a b)) fun⟨a,b⟩=>.of_right (intBits_le_64 a b))
  | str a =>
   cases t'<;>first | cases e | skip
   cases s1;cases s2;obtain⟨hz,e⟩:=Option.ite_none_right_eq_some.mp e;cases e;exact bc hz.1 hz.2.1 hz.2.2 fun t tk=>k s.heap _ tk (.sc .str)
  | tup a =>
   cases a with
   | nil=>cases e
   | cons x q=>cases q with
    | cons _ _=>cases e
    | nil =>
     cases t'<;>first | cases e | skip
     cases s2;obtain⟨hz,e⟩:=Option.ite_none_right_eq_some.mp e;cases e;have s3:IsT g F (.tup [x]) _:=s1;obtain⟨p,us,rfl,z1,tp,r1⟩:=V3 fF s3;cases r1 with
     | cons it r=>cases r;exact oq fF tp it s3 hz.1 hz.2 k
  | _=>cases e
 | fdiv =>
  obtain⟨a,b,rfl,rfl,e⟩:=Ri e;cases s1;cases s2;obtain⟨hz,e⟩:=Option.ite_none_right_eq_some.mp e;cases e;exact floordiv_int (by omega) (by rw[Int.fdiv_eq_ediv_of_nonneg a (by omega)];exact fi rfl) (.inl (PyProof.noPylong_small (by omega)))
 | mod =>
  obtain⟨a,b,rfl,rfl,e⟩:=Ri e;cases s1;cases s2;obtain⟨hz,e⟩:=Option.ite_none_right_eq_some.mp e;cases e;exact mod_int' (by omega) (by rw[Int.fmod_eq_emod_of_nonneg a (by omega)];exact fi rfl)
 | pow =>
  obtain⟨a,b,rfl,rfl,e⟩:=Ri e;cases s1;cases s2;obtain⟨hz,e⟩:=Option.ite_none_right_eq_some.mp e;cases e;exact pow_int_small hz.1 hz.2.1 hz.2.2 (fi rfl)
end
section
variable{g:Md}{F:OM}{A:Around}{R:ZQ}{E:ZQ}{s:Shared}{t t':T}{u v:Value}{r:Sl}{a:Addr}{us:ZK}
theorem t7{b:Bool}(hu:A.units<cLine)(fF:∀a o,F a=some o->s.heap.get? a=some o)(s1:IsT g F t u)(s2:IsT g F t' v)(fb:Gy t'=true)(h:eqF t t'=some b) :
  SeqAt.EqAt A s u v b/\SeqAt.RcAt A s u v b/\SeqAt.RcNeAt A s u v (!b)/\(u=v->b=true):=by
 cases t with
 | tup ts =>
  obtain⟨p,us,rfl,_,tp,_⟩:=V3 fF s1;cases t' with
  | non=>cases s2;cases h;exact⟨.tuple_none tp hu,.tuple_none tp hu,.tuple_none tp hu,fun z=>nomatch z⟩
  | bl c=>cases s2;cases h;exact⟨.tuple_bool _ tp hu,.tuple_bool _ tp hu,.tuple_bool _ tp hu,fun z=>nomatch z⟩
  | int c=>cases s2;cases h;exact⟨.tuple_int _ _ tp hu,.tuple_int _ _ tp hu,.tuple_int _ _ tp hu,fun z=>nomatch z⟩
  | str c=>cases s2;cases h;exact⟨.tuple_str _ _ tp hu,.tuple_str _ _ tp hu,.tuple_str _ _ tp hu,fun z=>nomatch z⟩
  | _=>cases fb
 | non =>
  cases s1;cases t' with
  | non=>cases s2;cases h;exact⟨.same _,.none_none,.none_none,fun _=>rfl⟩
  | bl c=>cases s2;cases h;exact⟨.none_bool _,.none_bool _,.none_bool _,fun z=>nomatch z⟩
  | int c=>cases s2;cases h;exact⟨.none_int _ _,.none_int _ _,.none_int _ _,fun z=>nomatch z⟩
  | str c=>cases s2;cases h;exact⟨.none_str _ _,.none_str _ _,.none_str _ _,fun z=>nomatch z⟩
  | _=>cases fb
 | bl a =>
  cases s1;cases t' with
  | non=>cases s2;cases h;exact⟨.bool_none _,.bool_none _,.bool_none _,fun z=>nomatch z⟩
  | bl c=>cases s2;cases h;exact⟨.bool_bool _ _,.bool_bool _ _,.bool_bool _ _,fun z=>by cases z;exact B0s _⟩
  | int c=>cases s2;cases h;exact⟨.bool_int _ _ _,.bool_int _ _ _,.bool_int _ _ _,fun z=>nomatch z⟩
  | str c=>cases s2;cases h;exact⟨.bool_str _ _ _,.bool_str _ _ _,.bool_str _ _ _,fun z=>nomatch z⟩
  | _=>cases fb
 | int a =>
  cases s1;cases t' with
  | non=>cases s2;cases h;exact⟨.int_none _ _,.int_none _ _,.int_none _ _,fun z=>nomatch z⟩
  | bl c=>cases s2;cases h;exact⟨.int_bool _ _ _,.int_bool _ _ _,.int_bool _ _ _,fun z=>nomatch z⟩
  | int c=>cases s2;cases h;exact⟨.int_int _ _ _ _,.int_int _ _ _ _,.int_int _ _ _ _,fun z=>by cases z;exact B0s _⟩
  | str c=>cases s2;cases h;exact⟨.int_str _ _ _ _,.int_str _ _ _ _,.int_str _ _ _ _,fun z=>nomatch z⟩
  | _=>cases fb
 | str a =>
  cases s1;cases t' with
  | non=>cases s2;cases h;exact⟨.str_none _ _,.str_none _ _,.str_none _ _,fun z=>nomatch z⟩
  | bl c=>cases s2;cases h;exact⟨.str_bool _ _ _,.str_bool _ _ _,.str_bool _ _ _,fun z=>nomatch z⟩
  | int c=>cases s2;cases h;exact⟨.str_int _ _ _ _,.str_int _ _ _ _,.str_int _ _ _ _,fun z=>nomatch z⟩
  | str c=>cases s2;cases h;exact⟨.str_str _ _ _ _,.str_str _ _ _ _,.str_str _ _ _ _,fun z=>by cases z;exact B0s _⟩
  | _=>cases fb
 | _=>cases h
theorem Kz{b:Bool}(h:eqT t t'=some b):Gy t'=true/\eqF t t'=some b:=by
 unfold eqT at h
 split at h
 .cases h;exact⟨rfl,congrArg some (Bool.beq_eq_decide_eq _ _)⟩
 .cases h;exact⟨rfl,congrArg some (Bool.beq_eq_decide_eq _ _)⟩
 .split at h
  .exact⟨‹_›,h⟩
  .cases h
theorem eqF_c{b:Bool}(h:eqF t t'=some b):B5 t=false:=by cases t<;>first | rfl | cases h
theorem Gd(c:B5 t=false)(h:V6 g F s.heap t u):IsT g F t u:=by unfold V6 at h;rw[c]at h;exact h
theorem th(h:Gy t=true):B5 t=false:=by cases t<;>first | rfl | cases h
theorem Uq{as:ZZ}(h:Sw t=some as):t=.tup as:=by cases t<;>cases h;rfl
theorem Sj{h:Heap}{p:Addr}{a b:ZK}(x:IsTup h p a.toArray)(y:IsTup h p b.toArray):a=b:=by
 obtain⟨o,e,_,n,d⟩:=x;obtain⟨o',e',_,n',d'⟩:=y;rw[e]at e';cases e';rw[d]at d';cases d';rfl
theorem Sq{p q:Addr}(hu:A.units<cLine)(tp:IsTup s.heap p us.toArray)(tq:IsTup s.heap q #[]):SeqAt.RcAt A s (.ref p) (.ref q) us.isEmpty/\SeqAt.RcNeAt A s (.ref p) (.ref q) (!us.isEmpty):=by
 have ev:((List.range (min us.toArray.size (#[]:ZD).size)).all (fun _=>true) && us.toArray.size == (#[]:ZD).size)=us.isEmpty:=by cases us<;>simp
 rw[<-ev];exact⟨.tuples (e:=fun _=>true) tp tq hu fun j _ h2=>absurd h2 (by simp),.tuples (e:=fun _=>true) tp tq hu fun j _ h2=>absurd h2 (by simp)⟩
theorem mw{p q:Addr}(hu:A.units<cLine)(tp:s.heap.IsList p us.toArray)(tq:s.heap.IsList q #[]):SeqAt.RcAt A s (.ref p) (.ref q) us.isEmpty/\SeqAt.RcNeAt A s (.ref p) (.ref q) (!us.isEmpty):=by
 cases us with
 | nil=>exact⟨.lists (e:=fun _=>true) tp tq rfl hu fun j _ h2=>absurd h2 (by simp),.lists (e:=fun _=>true) tp tq rfl hu fun j _ h2=>absurd h2 (by simp)⟩
 | cons u us=>exact⟨.lists_lengths tp tq (by simp) hu,.lists_lengths tp tq (by simp) hu⟩
theorem t9{b:Bool}(hu:A.units<cLine)(fF:∀a o,F a=some o->s.heap.get? a=some o)(s1:IsT g F t u)(s2:IsT g F t' v)(h:eq1 t t'=some b):SeqAt.EqAt A s u v b/\(u=v->b=true):=by
 unfold eq1 at h
 split at h
 .obtain⟨h1,h2⟩:=Kz h;obtain⟨q1,_,_,q2⟩:=t7 hu fF s1 s2 h1 h2;exact⟨q1,q2⟩
 .rename_i bs hb
  cases Uq hb
  split at h
  .rename_i he
   obtain rfl:=List.isEmpty_iff.mp he;obtain⟨q,ws,rfl,_,tq,rw'⟩:=V3 fF s2;cases rw'
   split at h
   .rename_i as ha
    cases Uq ha;cases h;obtain⟨p,vs,rfl,_,tp,rv⟩:=V3 fF s1;have l:as.isEmpty=vs.isEmpty:=by cases rv<;>rfl
    rw[l];by_cases z:p=q
    .subst z;rw[Sj tp tq];exact⟨.same _,fun _=>rfl⟩
    .exact⟨.of_refs z (Sq hu tp tq).1,fun e=>by cases e;exact absurd rfl z⟩
   .split at h
    .rename_i hf
     cases h;cases t with
     | non=>cases s1;exact⟨.none_tuple tq hu,fun z=>nomatch z⟩
     | bl _=>cases s1;exact⟨.bool_tuple _ tq hu,fun z=>nomatch z⟩
     | int _=>cases s1;exact⟨.int_tuple _ _ tq hu,fun z=>nomatch z⟩
     | str _=>cases s1;exact⟨.str_tuple _ _ tq hu,fun z=>nomatch z⟩
     | _=>cases hf
    .cases h
  .cases h
theorem ur(e:Nat->Bool)(n m:Nat):((List.range (min (n+1) (m+1))).all e && n+1 == m+1)=(e 0 && ((List.range (min n m)).all (fun j=>e (j+1)) && n == m)):=by
 rw[show min (n+1) (m+1)=min n m+1 by omega,List.range_succ_eq_map,List.all_cons,List.all_map,Bool.and_assoc,show (n+1 == m+1)=(n == m) by rw[Bool.eq_iff_iff];simp]
 rfl
theorem xk(hu:A.units<cLine)(fF:∀a o,F a=some o->s.heap.get? a=some o):∀{as bs:ZZ} {us zs:ZK} {b:Bool},Iq as bs=some b->Zo g F as us->Zo g F bs zs ->
  ∃e:Nat->Bool,(∀(j:Nat) (h1:j<us.length) (h2:j<zs.length),SeqAt.EqAt A s us[j] zs[j] (e j))/\((List.range (min us.length zs.length)).all e && us.length == zs.length)=b/\(us=zs->b=true)
 | _,_,_,_,b,h,.nil,.nil=>by cases h;exact⟨fun _=>true,fun j h1=>absurd h1 (Nat.not_lt_zero j),rfl,fun _=>rfl⟩
 | _,_,_,_,b,h,.nil,.cons _ _=>by cases h;exact⟨fun _=>true,fun j h1=>absurd h1 (Nat.not_lt_zero j),rfl,fun z=>nomatch z⟩
 | _,_,_,_,b,h,.cons _ _,.nil=>by cases h;exact⟨fun _=>true,fun j _ h2=>absurd h2 (Nat.not_lt_zero j),rfl,fun z=>nomatch z⟩
 | _,_,u::us,z::zs,b,h,.cons r1 t1,.cons r2 t2=>by
  obtain⟨x,e1,h⟩:=ZP.mp h;obtain⟨b',e2,rfl⟩:=Y7.mp h;obtain⟨e,g1,g2,g3⟩:=xk hu fF e2 t1 t2;obtain⟨k1,k2⟩:=t9 hu fF r1 r2 e1;refine⟨fun j=>match j with | 0=>x | j+1=>e j,fun j h1 h2=>?_, ?_,fun ev=>?_⟩
  .cases j with
   | zero=>exact k1
   | succ j=>exact g1 j (Nat.lt_of_succ_lt_succ h1) (Nat.lt_of_succ_lt_succ h2)
  .show ((List.range (min (us.length+1) (zs.length+1))).all _ && us.length+1 == zs.length+1)=_;rw[ur, <-g2]
  .cases ev;rw[k2 rfl,g3 rfl];rfl
theorem rcTs{b:Bool}{as bs:ZZ}(hu:A.in1.units<cLine)(fF:∀a o,F a=some o->s.heap.get? a=some o)(s1:IsT g F (.tup as) u)(s2:IsT g F (.tup bs) v)(h:Iq as bs=some b):SeqAt.RcAt A s u v b/\SeqAt.RcNeAt A s u v (!b)/\(u=v->b=true):=by
 obtain⟨p,us,rfl,_,tp,r1⟩:=V3 fF s1;obtain⟨q,zs,rfl,_,tq,r2⟩:=V3 fF s2;obtain⟨e,g1,g2,g3⟩:=xk (A:=A.in1) hu fF h r1 r2;have h1:=SeqAt.RcAt.tuples (A:=A) (e:=e) tp tq (Nat.lt_of_succ_lt hu) fun j h1 h2=>g1 j (by simpa using h1) (by simpa using h2);have h2:=SeqAt.RcNeAt.tuples (A:=A) (e:=e) tp tq (Nat.lt_of_succ_lt hu) fun j h1 h2=>g1 j (by simpa using h1) (by simpa using h2);rw[Ul,Ul,g2]at h1 h2;exact⟨h1,h2,fun z=>by cases z;exact g3 (Sj tp tq)⟩
theorem t8{b:Bool}(hu:A.in1.units<cLine)(fF:∀a o,F a=some o->s.heap.get? a=some o)(s1:IsT g F t u)(s2:IsT g F t' v)(h:Hy t t'=some b):SeqAt.EqAt A s u v b:=by
 unfold Hy at h
 split at h
 .rename_i hb
  exact(t9 (Nat.lt_of_succ_lt hu) fF s1 s2 (by unfold eq1;rw[hb];exact h)).1
 .rename_i bs hb
  cases Uq hb;obtain⟨as,ha,h⟩:=ZP.mp h;cases Uq ha;obtain⟨k1,_,k2⟩:=rcTs hu fF s1 s2 h;obtain⟨p,us,rfl,_⟩:=V3 fF s1;obtain⟨q,zs,rfl,_⟩:=V3 fF s2;by_cases z:p=q
  .subst z;rw[k2 rfl];exact .same _
  .exact .of_refs z k1
theorem t6{b:Bool}(hu:A.in1.units<cLine)(fF:∀a o,F a=some o->s.heap.get? a=some o)(s1:V6 g F s.heap t u)(s2:V6 g F s.heap t' v)(h:eqG t t'=some b):SeqAt.RcAt A s u v b/\SeqAt.RcNeAt A s u v (!b):=by
 unfold eqG at h
 split at h
 .let ⟨h1,h2,_⟩:=rcTs hu fF s1 s2 h;exact⟨h1,h2⟩
 .unfold eqC at h
  split at h
  .rename_i ts _
   cases h;obtain⟨p,us,rfl,_,tp,r1⟩:=V3 fF s1;obtain⟨q,ws,rfl,_,tq,r2⟩:=V3 fF s2;cases r2;have l:ts.isEmpty=us.isEmpty:=by cases r1<;>rfl
   rw[l];exact Sq (Nat.lt_of_succ_lt hu) tp tq
  .rename_i ts _
   cases h;obtain⟨p,us,m,rfl,_,tp,r1⟩:=U3 s1;obtain⟨q,ws,n,rfl,_,tq,r2⟩:=U3 s2;cases r2;have l:ts.isEmpty=us.isEmpty:=by cases r1<;>rfl
   rw[l];exact mw (Nat.lt_of_succ_lt hu) ⟨_,tp,rfl,m,rfl⟩ ⟨_,tq,rfl,n,rfl⟩
  .split at h
   .rename_i hf
    cases h;obtain⟨q,ws,rfl,_,tq,r2⟩:=V3 fF s2;have Cf:=Nat.lt_of_succ_lt hu;have s1:=Gd (th hf) s1;cases t with
    | non=>cases s1;exact⟨.none_tuple tq Cf,.none_tuple tq Cf⟩
    | bl _=>cases s1;exact⟨.bool_tuple _ tq Cf,.bool_tuple _ tq Cf⟩
    | int _=>cases s1;exact⟨.int_tuple _ _ tq Cf,.int_tuple _ _ tq Cf⟩
    | str _=>cases s1;exact⟨.str_tuple _ _ tq Cf,.str_tuple _ _ tq Cf⟩
    | _=>cases hf
   .cases h
  .obtain⟨h1,h2⟩:=Kz h
   let ⟨_,q1,q2,_⟩:=t7 (Nat.lt_of_succ_lt hu) fF (Gd (eqF_c h2) s1) (Gd (th h1) s2) h1 h2
   exact⟨q1,q2⟩
theorem tr{t t':T}{u:Value}(f:Gy t=true)(h:IsT g F t u)(h':IsT g F t' u):t'=t:=by
 cases t with
 | non=>cases h;cases h';rfl
 | bl _=>cases h;cases h';rfl
 | int _=>cases h;cases h';rfl
 | str _=>cases h;cases h';rfl
 | _=>cases f
theorem v8{ts Bz:ZZ}{u:Value}(h:IsT g F (.tup ts) u)(h':IsT g F (.tup Bz) u):∃us,Zo g F ts us/\Zo g F Bz us:=by
 obtain⟨a,o,us,e,h1,k,r⟩:=Top.unT h;obtain⟨a',o',us',e',h1',k',r'⟩:=Top.unT h';rw[e]at e';cases e';rw[h1]at h1';cases h1';obtain⟨n,d⟩:=k.s;obtain⟨n',d'⟩:=k'.s;rw[d]at d'
 injection d' with d' _
 cases(show us=us' from by simpa using d');exact⟨us,r,r'⟩
theorem Zx2{t t' c:T}{u:Value}{b b':Bool}(h:IsT g F t u)(h':IsT g F t' u)(e:eq1 t c=some b)(e':eq1 t' c=some b'):b=b':=by
 cases f:Gy t with
 | true =>
  obtain rfl:=tr f h h';rw[e]at e';cases e';rfl
 | false =>
  cases f':Gy t' with
  | true =>
   obtain rfl:=tr f' h' h;rw[f']at f;cases f
  | false =>
   have tp:∀{x:T} {b:Bool},Gy x=false->eq1 x c=some b->∃ts,x=.tup ts/\((Gy c=true/\b=false)\/c=.tup []/\b=ts.isEmpty):=fun {x b} f z=>by
    clear e e'
    unfold eq1 at z
    split at z
    .obtain⟨h1,h2⟩:=Kz z;cases x with
     | tup ts=>cases h2;exact⟨ts,rfl,.inl ⟨h1,rfl⟩⟩
     | non=>cases f
     | bl _=>cases f
     | int _=>cases f
     | str _=>cases f
     | _=>cases h2
    .rename_i bs hb
     cases Uq hb
     split at z
     .rename_i he
      obtain rfl:=List.isEmpty_iff.mp he
      split at z
      .rename_i as ha
       cases Uq ha;cases z;exact⟨as,rfl,.inr ⟨rfl,rfl⟩⟩
      .rw[f]at z;cases z
     .cases z
   obtain⟨ts,rfl,p⟩:=tp f e;obtain⟨Bz,rfl,p'⟩:=tp f' e';obtain⟨us,r,r'⟩:=v8 h h';rcases p with ⟨c1,rfl⟩ | ⟨rfl,rfl⟩
   .rcases p' with ⟨_,rfl⟩ | ⟨rfl,_⟩
    .rfl
    .cases c1
   .rcases p' with ⟨c1,_⟩ | ⟨_,rfl⟩
    .cases c1
    .cases r<;>cases r'<;>rfl
theorem t4:∀{ts Bz cs:ZZ} {us:ZK} {b b':Bool},Zo g F ts us->Zo g F Bz us->Iq ts cs=some b->Iq Bz cs=some b'->b=b'
 | _,_,[],_,_,_,.nil,.nil,e,e'=>by rw[e]at e';cases e';rfl
 | _,_,_::_,_,_,_,.nil,.nil,e,e'=>by rw[e]at e';cases e';rfl
 | _,_,[],_,_,_,.cons _ _,.cons _ _,e,e'=>by cases e;cases e';rfl
 | _,_,c::cs,_,_,_,.cons r1 t1,.cons r2 t2,e,e'=>by
  obtain⟨x,e1,e⟩:=ZP.mp e;obtain⟨b,e2,rfl⟩:=Y7.mp e;obtain⟨x',Fx,e'⟩:=ZP.mp e';obtain⟨b',e2',rfl⟩:=Y7.mp e';rw[Zx2 r1 r2 e1 Fx,t4 t1 t2 e2 e2']
theorem eqE_u{t t' c:T}{u:Value}{b b':Bool}(h:IsT g F t u)(h':IsT g F t' u)(e:Hy t c=some b)(e':Hy t' c=some b'):b=b':=by
 unfold Hy at e e'
 split at e
 .rename_i hb
  rw[hb]at e';exact Zx2 h h' (by unfold eq1;rw[hb];exact e) (by unfold eq1;rw[hb];exact e')
 .rename_i bs hb
  rw[hb]at e';obtain⟨as,ha,e⟩:=ZP.mp e;obtain⟨as',ha',e'⟩:=ZP.mp e';cases Uq ha;cases Uq ha';obtain⟨us,r,r'⟩:=v8 h h';exact t4 r r' e e'
theorem tz{A:Around}(hu:A.in1.units<cLine)(fF:∀a o,F a=some o->s.heap.get? a=some o)(s1:IsT g F t v){ts:ZZ}{us:ZK}{b:Bool}(r:Zo g F ts us)(h:Ja t ts=some b) :
  ∃e:Value->Bool,(∀u∈us,SeqAt.EqAt A s u v (e u))/\us.any e=b:=by
 classical
 refine⟨fun u=>decide (∃x,IsT g F x u/\Hy x t=some true), ?_⟩
 induction r generalizing b with
 | nil=>cases h;exact⟨fun u m=>absurd m J5,rfl⟩
 | cons r1 r2 ih =>
  rename_i t1 u1 ts us
  obtain⟨c,e1,h⟩:=ZP.mp h;obtain⟨b',e2,rfl⟩:=Y7.mp h;obtain⟨g1,g2⟩:=ih e2
  have key:decide (∃x,IsT g F x u1/\Hy x t=some true)=c:=by
   cases c with
   | true=>exact Jo ⟨t1,r1,e1⟩
   | false=>exact Mr fun⟨x,hx,ex⟩=>nomatch eqE_u hx r1 ex e1
  refine⟨fun u m=>?_,by rw[List.any_cons,g2];exact congrArg (· || b') key⟩;rcases Ya.mp m with rfl | m
  .show SeqAt.EqAt A s u v (decide _);rw[key];exact t8 hu fF r1 s1 e1
  .exact g1 u m
theorem Bf{XY:ZX}{vs:List (Key×Value)}(k:Key)(h:Yo g F XY vs):(∀t,Zj XY k=some t->∃v,valueAt vs k=some v/\IsT g F t v)/\(Zj XY k=none->valueAt vs k=none):=by
 induction h with
 | nil=>exact⟨(fun t e=>by cases e),fun _=>rfl⟩
 | cons r t ih =>
  rename_i p q ps qs
  unfold Zj valueAt at *;rw[List.find?_cons,List.find?_cons, <-r.1];by_cases z:p.1=k
  .rw[Jo z];exact⟨fun t e=>by cases e;exact⟨_,rfl,r.2⟩,fun e=>nomatch e⟩
  .rw[Mr z];exact ih
theorem Zzq{XY:ZX}{vs:List (Key×Value)}{k:Key}(h:Yo g F XY vs):(valueAt vs k).isSome=(Zj XY k).isSome:=by
 obtain⟨h1,h2⟩:=Bf k h;cases e:Zj XY k with
 | none=>rw[h2 e];rfl
 | some t=>obtain⟨v,q,_⟩:=h1 t e;rw[q];rfl
theorem key_is{k:Key}(e:Tn t=some k)(h:V6 g F s.heap t v):(Zp g.prog g.w).is k v=true:=by
 cases t with
 | int i=>cases e;cases h;exact S8 _ _ i _
 | str i=>cases e;cases h;exact Ck _ _ i _
 | _=>cases e
theorem d0{b:Bool}(un:A.units+150<cLine)(fF:∀a o,F a=some o->s.heap.get? a=some o)(s1:V6 g F s.heap t u)(s2:V6 g F s.heap t' v)(e:inT t t'=some b) :
  ((∀k,R (.bool b) { s with toks:=k })->wpAny (model g.prog g.w) A (compareOp .In u v) R E s)/\((∀k,R (.bool (!b)) { s with toks:=k })->wpAny (model g.prog g.w) A (compareOp .NotIn u v) R E s):=by
 have h1:A.in1.in1.units<cLine:=by show A.units+1+1<cLine;omega
 cases t' with
 | lst ts =>
  obtain⟨f,e⟩:=Option.ite_none_right_eq_some.mp (show inF t ts=some b from e);obtain⟨a,us,n,rfl,_,hl,r⟩:=U3 s2;obtain⟨e,g1,g2⟩:=tz h1 fF (Gd f s1) r e;have l:s.heap.IsList a us.toArray:=⟨_,hl,rfl,⟨n,rfl⟩⟩;exact⟨fun q=>SeqAt.in_listAt e l (fun y m=>g1 y (by simpa using m)) (by rw[List.any_toArray,g2];exact q s.toks),fun q=>SeqAt.notIn_listAt e l (fun y m=>g1 y (by simpa using m)) (by rw[List.any_toArray,g2];exact q s.toks)⟩
 | tup ts =>
  obtain⟨f,e⟩:=Option.ite_none_right_eq_some.mp (show inF t ts=some b from e);obtain⟨a,us,rfl,_,l,r⟩:=V3 fF s2;obtain⟨e,g1,g2⟩:=tz h1 fF (Gd f s1) r e;exact⟨fun q=>SeqAt.in_tupleAt e l (fun y m=>g1 y (by simpa using m)) (by rw[List.any_toArray,g2];exact q s.toks),fun q=>SeqAt.notIn_tupleAt e l (fun y m=>g1 y (by simpa using m)) (by rw[List.any_toArray,g2];exact q s.toks)⟩
 | dct XY =>
  obtain⟨k,e1,rfl⟩:=Y7.mp (show (Tn t).map _=some b from e);obtain⟨a,vs,rfl,_,hd,dd,r⟩:=Bp s2;rw[<-Zzq r];exact⟨fun q=>wpAny_in_of (key_is e1 s1) hd dd.mapOf (q _),fun q=>wpAny_notIn_of (key_is e1 s1) hd dd.mapOf (q _)⟩
 | str y =>
  have e:tx t y=some b:=e;unfold tx at e
  split at e
  .cases e;cases s1;cases s2;exact⟨fun q=>in_str (q s.toks),fun q=>notIn_str (q s.toks)⟩
  .cases e
 | _=>cases e
theorem le_not(i j:Int):decide (i<=j)=!decide (j<i):=by rw[<-decide_not];exact decide_eq_decide.mpr Int.not_lt.symm
theorem Ac{b:Bool}(h:ltT t t'=some b):∃i j,t=.int i/\t'=.int j/\b=decide (i<j):=by
 unfold ltT at h
 split at h
 .cases h;exact⟨_,_,rfl,rfl,rfl⟩
 .cases h
theorem dm{b:Bool}(s1:V6 g F s.heap t u)(s2:V6 g F s.heap t' v)(e:ie t t'=some b) :
  (R (.bool b) s->wpAny (model g.prog g.w) A (compareOp .Is u v) R E s)/\(R (.bool (!b)) s->wpAny (model g.prog g.w) A (compareOp .IsNot u v) R E s):=by
 unfold ie at e
 split at e
 .cases e;cases s1;cases s2;exact⟨fun q=>is_none_gen q,fun q=>isnot_none_gen q⟩
 .cases e;cases s1;cases s2;exact⟨fun q=>is_bool q,fun q=>isnot_bool q⟩
 .rename_i n1
  cases e;cases s2
  have:(u == Value.none)=false:=by
   cases t with
   | non=>exact(n1 rfl).elim
   | _=>cases s1;rfl
  exact⟨fun q=>is_none_gen (by rw[this];exact q),fun q=>isnot_none_gen (by rw[this];exact q)⟩
 .cases e
theorem Ib{b:Bool}(c:Cm)(un:A.units+150<cLine)(fF:∀a o,F a=some o->s.heap.get? a=some o)(s1:V6 g F s.heap t u)(s2:V6 g F s.heap t' v)(e:Dn c t t'=some b)(q:∀k,R (.bool b) { s with toks:=k }) :
  wpAny (model g.prog g.w) A (compareOp (W4 c) u v) R E s:=by
 have hu:A.in1.units<cLine:=by show A.units+1<cLine;omega
 cases c with
 | eq=>exact(t6 hu fF s1 s2 e).1 _ _ _ _ (q s.toks)
 | ne =>
  obtain⟨r,e1,rfl⟩:=Y7.mp (show (eqG t t').map not=some b from e);exact(t6 hu fF s1 s2 e1).2 _ _ _ _ (q s.toks)
 | lt=>obtain⟨i,j,rfl,rfl,rfl⟩:=Ac e;cases s1;cases s2;exact lt_int (q s.toks)
 | gt=>obtain⟨i,j,rfl,rfl,rfl⟩:=Ac e;cases s1;cases s2;exact gt_int (q s.toks)
 | le =>
  obtain⟨r,e1,rfl⟩:=Y7.mp (show (ltT t' t).map not=some b from e);obtain⟨i,j,rfl,rfl,rfl⟩:=Ac e1;cases s1;cases s2;exact le_int (by rw[le_not];exact q s.toks)
 | ge =>
  have e:geT t t'=some b:=e;unfold geT at e
  split at e
  .cases e;cases s1;cases s2;exact ge_int (q s.toks)
  .cases e
 | isin=>exact(d0 un fF s1 s2 e).1 q
 | notin =>
  obtain⟨r,e1,rfl⟩:=Y7.mp (show (inT t t').map not=some b from e);exact(d0 un fF s1 s2 e1).2 q
 | is=>exact(dm s1 s2 e).1 (q s.toks)
 | isnt =>
  obtain⟨r,e1,rfl⟩:=Y7.mp (show (ie t t').map not=some b from e);exact(dm s1 s2 e1).2 (q s.toks)
end
section
variable{g:Md}{F:OM}{A:Around}{R:ZQ}{E:ZQ}{s:Shared}{h:Heap}{t:T}{u v:Value}{r:Sl}{a L:Addr}{ts ws:ZZ}{us:ZK}
theorem T9:∀{ts:ZZ} {us:ZK} {bs:List Bool},Zo g F ts us->allB ts=some bs->us=bs.map Value.bool
 | _,_,_,.nil,e=>by cases e;rfl
 | t::_,_,_,.cons r q,e=>by
  cases t with
  | bl b =>
   obtain⟨bs',e1,rfl⟩:=Y7.mp (show (allB _).map (b::·)=_ from e);cases r;rw[T9 q e1];rfl
  | _=>cases e
theorem Gg:∀{ts:ZZ} {us:ZK} {zs:ZT},Zo g F ts us->Gw ts=some zs->ts=zs.map .int/\IntsAre us zs
 | _,_,_,.nil,e=>by cases e;exact⟨rfl,.nil⟩
 | t::_,_,_,.cons r q,e=>by
  cases t with
  | int b =>
   obtain⟨bs',e1,rfl⟩:=Y7.mp (show (Gw _).map (b::·)=_ from e);obtain⟨h1,h2⟩:=Gg q e1;cases r;exact⟨by rw[h1];rfl,.cons _ _ h2⟩
  | _=>cases e
theorem T8:∀{ts:ZZ} {us:ZK} {zs:ZG},Zo g F ts us->M7 ts=some zs->ts=zs.map .str/\StrsAre us zs
 | _,_,_,.nil,e=>by cases e;exact⟨rfl,.nil⟩
 | t::_,_,_,.cons r q,e=>by
  cases t with
  | str b =>
   obtain⟨bs',e1,rfl⟩:=Y7.mp (show (M7 _).map (b::·)=_ from e);obtain⟨h1,h2⟩:=T8 q e1;cases r;exact⟨by rw[h1];rfl,.cons _ _ h2⟩
  | _=>cases e
theorem Q9:∀{us:ZK} {zs:ZT},IntsAre us zs->Zo g F (zs.map .int) us
 | _,_,.nil=>.nil
 | _,_,.cons _ _ h=>.cons .int (Q9 h)
theorem Q8:∀{us:ZK} {zs:ZG},StrsAre us zs->Zo g F (zs.map .str) us
 | _,_,.nil=>.nil
 | _,_,.cons _ _ h=>.cons .str (Q8 h)
theorem z7{k:Key}(h:(Zp g.prog g.w).is k v=true):IsT g F (Ms k) v:=by
 rcases Z6 h with ⟨i,t,rfl,rfl⟩ | ⟨x,t,rfl,rfl⟩
 .exact .int
 .exact .str
theorem Ey{XY:ZX}{vs:List (Key×Value)}(rk:Yo g F XY vs)(hl:us.length=vs.length)(hk:∀(j:Nat) (v:Value),us[j]?=some v->∃k x,vs[j]?=some (k,x)/\(Zp g.prog g.w).is k v=true):Zo g F (XY.map fun p=>Ms p.1) us:=by
 induction rk generalizing us with
 | nil=>obtain rfl:=List.eq_nil_of_length_eq_zero hl;exact .nil
 | cons r t ih =>
  cases us with
  | nil=>cases hl
  | cons u us =>
   obtain⟨k,x,e,q⟩:=hk 0 u rfl;cases e;refine .cons ?_ (ih (Nat.succ.inj hl) fun j v e=>hk (j+1) v e);show IsT g F (Ms _) u;rw[r.1];exact z7 q
theorem X2(r:Zo g F ts us)(e:Ql ts=some ws):SRT.Srt g.prog g.w (fun _=>True) us fun out=>Zo g F ws out/\out.length=us.length:=by
 obtain⟨h64,e⟩:=Option.ite_none_right_eq_some.mp e;have l:=r.length
 split at e
 .rename_i zs ez
  cases e;obtain⟨h1,h2⟩:=Gg r ez;intro A E s D Q o e q;refine SRT.yw (Ok:=fun _=>True) h2 (by omega) A E s D Q o e fun h1' out n k e1 r1=>q h1' out n k e1 ⟨Q9 r1, ?_⟩;rw[<-(Q9 (g:=g) (F:=F) r1).length,Y9,(SRT.B7 _).length_eq, <-l,h1,Y9]
 .obtain⟨zs,ez,rfl⟩:=Y7.mp e;obtain⟨h1,h2⟩:=T8 r ez;intro A E s D Q o e q;refine SRT.srt_strs (Ok:=fun _=>True) h2 (by omega) A E s D Q o e fun h1' out n k e1 r1=>q h1' out n k e1 ⟨Q8 r1, ?_⟩;rw[<-(Q8 (g:=g) (F:=F) r1).length,Y9,(SRT.Z2 _).length_eq, <-l,h1,Y9]
theorem Pj{D:Addr}{out:ZD}{n:Nat}(e:h.get? D=some (seqObj "list" out n))(r:Zo g F ts out.toList)(z:out.size<=sizeLine):Top g F h.get? (.lst ts) (.ref D) :=
 .mkL (us:=out.toList) e ⟨by rw[x3];exact z,n,by rw[Array.toArray_toList]⟩ r
theorem R9{o:Obj}{n:Nat}{T:String}(ho:s.heap.get? a=some o)(hc:o.cls=.type T)(hT:T = "list" \/ T = "tuple")(hd:o.data=.seq us.toArray n)(z:us.length<=sizeLine)
  (st:SRT.Srt g.prog g.w (fun _=>True) us fun out=>Zo g F ws out/\out.length=us.length) (k:Ok g F L s (.o (.lst ws)) R):wpAny (model g.prog g.w) A (call (.builtin "sorted") [.ref a]) R E s:=by
 refine SRT.Cj ho hc hT hd z fun h1 D k1 sz Cp=>?_;refine st _ _ { s with heap:=h1 } D _ trivial Cp fun h2 out n k2 at2 r2=>?_;have kp:∀b o,s.heap.get? b=some o->h2.get? b=some o:=fun b o e=>k2 b o (Fb (N0l (Mv e) sz)) (k1 b o e);exact k h2 _ s.toks (.own (fun b o _=>kp b o) (fun _ hn=>hn.keeps kp) rfl (Heap.get?_none_of_le sz) (Pj at2 r2.1 (by have:=r2.2;rw[x3]at this;omega)))
theorem Ha{vs:List (Key×Value)}(hh:A.handled=none)(hn:∃m,s.heap.Ns L m)(nm:(a == sysModules)=false)(dd:s.heap.DictOf (Zp g.prog g.w) a vs)(z:vs.length<=sizeLine){XY:List (Key×PV.T)}(rk:Yo g F XY vs)(e:Ql (XY.map fun p=>Ms p.1)=some ws)(k:Ok g F L s (.o (.lst ws)) R) :
  wpAny (model g.prog g.w) A (call (.builtin "sorted") [.ref a]) R E s:=by
 obtain⟨m,hn⟩:=hn;obtain⟨fr,nw⟩:=Ep hn;obtain⟨ep,da⟩:=dd.dictAt;refine W.kdu_sorted (W.kdl_dict (knd:=Zp g.prog g.w) (ep:=ep) nm) hh fr nw da z fun D h' tk us f' n' hD vl hv'=>?_;have r:=Ey (us:=us) rk vl hv';have ka:=Pc f' n' fun p hp=>Y5 _ hp;have nD:=newAt n' hD;obtain⟨eD,nDL,_⟩:=n' _ Yb;refine X2 r e _ _ { s with heap:=h',toks:=tk } D _ trivial eD fun h2 out n k2 at2 r2=>?_;have neD:∀{b:Addr} {o:Obj},s.heap.get? b=some o->b≠D:=fun {b o} e z=>by rw[z,nD]at e;cases e
 refine k h2 _ tk (.own (fun b o nb eb=>k2 b o (neD eb) (ka b o nb eb)) (fun m' hm=>?_) rfl nD (Pj at2 r2.1 ?_))
 .obtain⟨o,es,ep,e1,d,q1,q2⟩:=f'.ns;obtain⟨o',R0,ep',Fx,d',q1',q2'⟩:=hm;exact⟨o,es,ep,k2 _ o (fun z=>nDL z.symm) e1,d,q1,fun x=>(q2 x).trans (Heap.Ns.agree hn ⟨o',R0,ep',Fx,d',q1',q2'⟩ x)⟩
 .have:=r2.2;rw[x3]at this;omega
theorem Zz3{bs:List Bool}{n:Nat}(hh:A.handled=none)(ho:s.heap.get? a=some { cls:=.type "list",data:=.seq (bs.map Value.bool).toArray n })(k:Ok g F L s (.f (.bl (bs.all id))) R):wpAny (model g.prog g.w) A (call (.builtin "all") [.ref a]) R E s:=by
 have hl:s.heap.IsList a (bs.map Value.bool).toArray:=⟨_,ho,rfl,⟨n,rfl⟩⟩;have hlen:(bs.map Value.bool).toArray.size=bs.length:=by simp
 refine call_all_walk (wpAny_pyIter_list hl ?_)
 refine⟨s.heap.objs.size,[s.heap.objs.size,a],[s.heap.objs.size],(bs.map Value.bool).toArray.size,_,_,fun i=>(bs[i]?).getD true,rfl,Walks.list (A:=A.in1) hh _ a (Fb (Mv ho)) (bs.map Value.bool).toArray,
  ⟨⟨_,Mw _ rfl,rfl,rfl⟩,hl.push _⟩,fun i v s' Q' E' hP hQ=>?_,fun h' tk hk=>?_⟩
 .have e0:(bs.map Value.bool)[i]?=some v:=by simpa using hP
  rw[lg]at e0;obtain⟨b,e1,rfl⟩:=Y7.mp e0;dsimp only at hQ;rw[e1]at hQ;exact wpAny_truthy_bool hQ
 .rw[hlen,L2.all_range];exact k h' _ tk (.kept (fun b x e=>hk b x (fun hm=>by rw[Dl.mp hm]at e;exact Nat.lt_irrefl _ (Mv e)) (Vn _ e)) .bl)
theorem Zz2{bs:List Bool}{n:Nat}(hh:A.handled=none)(ho:s.heap.get? a=some { cls:=.type "list",data:=.seq (bs.map Value.bool).toArray n })(k:Ok g F L s (.f (.bl (bs.any id))) R):wpAny (model g.prog g.w) A (call (.builtin "any") [.ref a]) R E s:=by
 have hl:s.heap.IsList a (bs.map Value.bool).toArray:=⟨_,ho,rfl,⟨n,rfl⟩⟩;have hlen:(bs.map Value.bool).toArray.size=bs.length:=by simp
 refine call_any_walk (wpAny_pyIter_list hl ?_)
 refine⟨s.heap.objs.size,[s.heap.objs.size,a],[s.heap.objs.size],(bs.map Value.bool).toArray.size,_,_,fun i=>(bs[i]?).getD true,rfl,Walks.list (A:=A.in1) hh _ a (Fb (Mv ho)) (bs.map Value.bool).toArray,
  ⟨⟨_,Mw _ rfl,rfl,rfl⟩,hl.push _⟩,fun i v s' Q' E' hP hQ=>?_,fun h' tk hk=>?_⟩
 .have e0:(bs.map Value.bool)[i]?=some v:=by simpa using hP
  rw[lg]at e0;obtain⟨b,e1,rfl⟩:=Y7.mp e0;dsimp only at hQ;rw[e1]at hQ;exact wpAny_truthy_bool hQ
 .rw[hlen,L2.any_range];exact k h' _ tk (.kept (fun b x e=>hk b x (fun hm=>by rw[Dl.mp hm]at e;exact Nat.lt_irrefl _ (Mv e)) (Vn _ e)) .bl)
theorem iq{n:Nat}(s1:V6 g F s.heap t u)(fF:∀a o,F a=some o->s.heap.get? a=some o)(e:m4 t=some n)(k:Ok g F L s (.f (.int n)) R):wpAny (model g.prog g.w) A (call (.builtin "len") [u]) R E s:=by
 have hn:=An;have z:=sizeLine_eq;have fi:∀tk t',R (.int (n:Int) t') { s with toks:=tk }:=fun tk t'=>k s.heap _ tk (.sc .int);cases t with
 | tup ts =>
  cases e;obtain⟨a,us,rfl,z1,h1,r⟩:=V3 fF s1;exact len_tuple h1 (by simp only[Ul];omega) (by simp only[Ul];rw[<-r.length];exact fi _ _)
 | lst ts =>
  cases e;obtain⟨a,us,n,rfl,z1,h1,r⟩:=U3 s1;exact Calls.call_len_list ⟨_,h1,rfl,⟨n,rfl⟩⟩ (by simp only[Ul];omega) (by simp only[Ul];rw[<-r.length];exact fi _ _)
 | dct XY =>
  cases e;obtain⟨a,vs,rfl,z1,nm,dd,r⟩:=Bp s1;exact call_len_dict nm dd (by omega) (by rw[<-r.length];exact fi _ _)
 | str x =>
  obtain⟨hz,e⟩:=Option.ite_none_right_eq_some.mp (show (if x.length<=sizeLine then some x.length else none)=some n from e);cases e;cases s1;exact len_str (by omega) (fi _ _)
 | _=>cases e
theorem mr{o:Obj}{n:Nat}{T:String}(ho:s.heap.get? a=some o)(hc:o.cls=.type T)(hT:T = "list" \/ T = "tuple")(hd:o.data=.seq us.toArray n)(z:us.length<=sizeLine)(r:Zo g F ts us)(k:Ok g F L s (.o (.lst ts)) R):wpAny (model g.prog g.w) A (call (.type "list") [.ref a]) R E s :=
 call_list_seq a hT ho hc hd (fun h' c' kp e=>k h' _ s.toks (.own (fun b o _=>kp b o) (fun _ hn=>hn.keeps kp) rfl (Heap.get?_none_of_le (N4 _)) (.mkL e ⟨z,c',rfl⟩ r))) (by rw[Ul];exact z)
theorem mh{vs:List (Key×Value)}(hh:A.handled=none)(nm:(a == sysModules)=false)(dd:s.heap.DictOf (Zp g.prog g.w) a vs)(z:vs.length<=sizeLine){XY:List (Key×PV.T)}(rk:Yo g F XY vs)(k:Ok g F L s (.o (.lst (XY.map fun p=>Ms p.1))) R):wpAny (model g.prog g.w) A (call (.type "list") [.ref a]) R E s:=by
 obtain⟨ep,da⟩:=dd.dictAt;refine W.kdl_call (W.kdl_dict (knd:=Zp g.prog g.w) (ep:=ep) nm) hh da z fun h' tk acc c k1 Cp A2=>?_;have r:=Ey (us:=acc.toList) rk (by rw[x3];exact A2.1) fun j v e=>A2.2 j v (by rw[<-Array.getElem?_toList];exact e);exact k h' _ tk (.own (fun b o _=>k1 b o) (fun _ hn=>hn.keeps k1) rfl (Heap.get?_none_of_le (N4 _)) (Pj (n:=c) Cp r (by rw[A2.1];exact z)))
theorem qq{n:Nat}(fF:∀a o,F a=some o->s.heap.get? a=some o)(ho:s.heap.get? a=some { cls:=.type "list",data:=.seq us.toArray n })(z:us.length<=sizeLine)(r:Zo g F ts us)(k:Ok g F L s (.f (.tup ts)) R):wpAny (model g.prog g.w) A (call (.type "tuple") [.ref a]) R E s:=by
 refine call_tuple_list ⟨_,ho,rfl,⟨n,rfl⟩⟩ (fun h' kp=>?_) (by rw[Ul];exact z);refine k _ _ s.toks (.tupN (us:=us) fF (fun b o e=>Vn _ (kp b o e)) ?_ (Mw _ rfl) ⟨rfl,rfl,⟨_,rfl⟩,z⟩ r);cases e:s.heap.get? h'.objs.size with
 | none=>rfl
 | some o=>exact absurd (Mv (kp _ _ e)) (Nat.lt_irrefl _)
theorem ov{i j:Int}{t t':Tok}(hh:A.handled=none)(k:Ok g F L s (.f (.int (if j<i then j else i))) R):wpAny (model g.prog g.w) A (call (.builtin "min") [.int i t,.int j t']) R E s:=by
 refine min_two_ints hh fun h' tk kp=>k h' _ tk (.kept kp ?_);by_cases hj:j<i
 .rw[if_pos hj,if_pos hj];exact .int
 .rw[if_neg hj,if_neg hj];exact .int
theorem oh{i j:Int}{t t':Tok}(hh:A.handled=none)(k:Ok g F L s (.f (.int (if j>i then j else i))) R):wpAny (model g.prog g.w) A (call (.builtin "max") [.int i t,.int j t']) R E s:=by
 refine max_two_ints hh fun h' tk kp=>k h' _ tk (.kept kp ?_);by_cases hj:j>i
 .rw[if_pos hj,if_pos hj];exact .int
 .rw[if_neg hj,if_neg hj];exact .int
end
end PV
namespace HT
open PySem PyProof.Rows
section
variable{prog:Program}{w:World}{A:Around}{E:ZQ}{s:Shared}
theorem Ma{t sl:Addr}{items:ZD}{vl vu:Value}{lo hi:ZC}{Q:ZQ}(ht:IsTup s.heap t items)(hs:s.heap.IsSliceOf sl vl vu .none)(pl:IsPart vl lo)(pu:IsPart vu hi)
  (hw:Vc items.size 0 lo=0/\Vc items.size items.size hi=items.size) (h:Q (.ref t) s):wpAny (model prog w) A (getItem (.ref t) (.ref sl)) Q E s:=by
 obtain⟨os,Pp,l6,A1⟩:=id hs;have hTs:s.TypeIs (.ref sl) "slice" := ⟨os,Pp,l6⟩;unfold getItem
 try with_reducible refine wpAny_holding ?_
 first | refine Zy (Z8 ?_) | skip
 refine Zy (wpAny_sequenceKey ht.typeIs (by decide) ?_)
 refine Zy (wpAny_callSpecial?_slot (name:=Str.ofString "__getitem__") ht.typeIs slot_tuple_getitem
  (wpAny_call_entry slot_tuple_getitem ht.typeIs entry_tuple_getitem ?_ (args_tuple_getitem _ _)))
 show wpAny _ _ (Builtin.Tuple.tupleItemsOf (.ref t) >>= _) _ _ s;refine Zy (tupleItemsOf_ ht ?_);refine Zy (wpAny_typeOf hTs ?_);rw[if_pos (by decide)];refine Zy (J8 hs pl pu ?_)
 have hyes:(((Vc items.size 0 lo:Nat):Int) == 0 && (1:Int) == 1 && (Vc items.size items.size hi - Vc items.size 0 lo) == items.size)=true:=by
  rw[hw.1,hw.2];simp
 show wpAny _ _ (if (((Vc items.size 0 lo:Nat):Int) == 0 && (1:Int) == 1 && (Vc items.size items.size hi - Vc items.size 0 lo) == items.size)=true then _ else _) _ _ s;rw[if_pos hyes];refine Zy (m:=Builtin.Tuple.tupleIsExact (.ref t)) (Zy (wpAny_typeOf ht.typeIs (Z8 ?_)));rw[if_pos (by decide)];exact Zy (wpAny_rule (Z8 ⟨_,rfl,Z8 h⟩))
end
end HT
namespace PV
open PySem PySem.Spec PyProof.Rows L2
noncomputable def la:Kd->String
 | .int => "int"
 | .bool => "bool"
 | .str => "str"
 | .tuple => "tuple"
 | .list => "list"
 | .dict => "dict"
section
variable{g:Md}{F:OM}{A:Around}{R:ZQ}{E:ZQ}{s:Shared}{t t':T}{u v:Value}{r:Sl}{a L:Addr}{ts ws:ZZ}{us:ZK}
abbrev FH(F:OM)(h:Heap):Prop:=∀a o,F a=some o->h.get? a=some o
theorem ia{n:Kd}{b:Bool}(kin:g.K.In s.heap)(fF:FH F s.heap)(s1:V6 g F s.heap t v)(e:Ap n t=some b)(k:Ok g F L s (.f (.bl b)) R):wpAny (model g.prog g.w) A (call (.builtin "isinstance") [v,.type (la n)]) R E s:=by
 have fin:∀tk,R (.bool b) { s with toks:=tk }:=fun tk=>k s.heap _ tk (.sc .bl);cases t with
 | non=>cases s1;exact W.kia_one W.kitx_none kin True.intro (by cases n<;>cases e<;>rfl) (fun z=>nomatch z) fin
 | bl x=>cases s1;exact W.kia_one W.kitx_bool kin True.intro (by cases n<;>cases e<;>rfl) (fun z=>nomatch z) fin
 | int x=>cases s1;exact W.kia_one W.kitx_int kin True.intro (by cases n<;>cases e<;>rfl) (fun z=>nomatch z) fin
 | str x=>cases s1;exact W.kia_one W.kitx_str kin True.intro (by cases n<;>cases e<;>rfl) (fun z=>nomatch z) fin
 | tup ts =>
  obtain⟨a,us,rfl,_,⟨o,h1,h2,_⟩,_⟩:=V3 fF s1;exact W.kia_one W.kitx_tuple kin ⟨o,h1,h2⟩ (by cases n<;>cases e<;>rfl) (fun z=>nomatch z) fin
 | lst ts =>
  obtain⟨a,us,m,rfl,_,h1,_⟩:=U3 s1;exact W.kia_one W.kitx_list kin ⟨_,h1,rfl⟩ (by cases n<;>cases e<;>rfl) (fun z=>nomatch z) fin
 | dct ts =>
  obtain⟨a,us,rfl,_,_,⟨o,es,ep,h1,h2,_⟩,_⟩:=Bp s1;exact W.kia_one W.kitx_dict kin ⟨o,h1,h2.1⟩ (by cases n<;>cases e<;>rfl) (fun z=>nomatch z) fin
 | fn _=>cases n<;>cases e
 | exn _ _=>cases n<;>cases e
theorem dw{z:T}{value slice:Expr}(fF:FH F s.heap)(s1:V6 g F s.heap t v)(s2:V6 g F s.heap t' u)(e:Ek t t'=some z)(k:Ok g F L s (.f z) R)(hs:subscripted slice false v u=operate [v,u] (getItem v u)):wpAny (model g.prog g.w) A (subscriptTail value slice v u) R E s:=by
 have ln:=An;cases t with
 | tup ts =>
  cases t'<;>first | (cases e;done) | skip
  rename_i i
  cases s2;obtain⟨p,us,rfl,hz,pl,r⟩:=V3 fF s1;obtain⟨j,h1,h2,h3,h4,h5⟩:=R4 (show Ls ts i=some z from e);obtain⟨w,ew,rw'⟩:=V8 r h2;have hl:=r.length
  exact subscriptTail_builtinR (x:=w) pl.typeIs slot_tuple_getitem.lookup
   (getItem_tuple (j:=j) (Q:=fun r s'=>r=w/\R r s') pl (by omega) (by omega) (by rw[Ul, <-hl];exact h1) (by simpa using ew) ⟨rfl,k s.heap _ s.toks (.sc rw')⟩) hs
 | lst ts =>
  cases t'<;>first | (cases e;done) | skip
  rename_i i
  cases s2;obtain⟨p,us,m,rfl,hz,ho,r⟩:=U3 s1;have pl:s.heap.IsList p us.toArray:=⟨_,ho,rfl,⟨m,rfl⟩⟩;obtain⟨j,h1,h2,h3,h4,h5⟩:=R4 (show Ls ts i=some z from e);obtain⟨w,ew,rw'⟩:=V8 r h2;have hl:=r.length;have fin:R w s:=k s.heap _ s.toks (.sc rw');by_cases h0:0<=i
  .have hj:i.toNat=j:=by
    rw[seqIndex_of h0 h5]at h1;exact Nf h1
   exact item_listR pl h0 (by omega) (by rw[hj];simpa using ew) fin hs
  .have hj:(i+(us.toArray.size:Int)).toNat=j:=by
    rw[seqIndex_neg (by omega) h4]at h1;rw[Ul, <-hl];exact Nf h1
   exact subscriptTail_builtinR (x:=w) pl.typeIs slot_list_getitem.lookup
    (wpAny_getItem_list_neg (Q:=fun r s'=>r=w/\R r s') pl (by omega) (by rw[Ul]<;>omega) (by omega) (by rw[hj];simpa using ew) ⟨rfl,fin⟩) hs
 | str x =>
  cases t'<;>first | (cases e;done) | skip
  rename_i i
  obtain⟨hz,e⟩:=Option.ite_none_right_eq_some.mp (show (if x.length<=sizeLine then (Ls x.cps.toList i).map fun c=>T.str ⟨#[c]⟩ else none)=some z from e);obtain⟨c,he,rfl⟩:=Y7.mp e;cases s1;cases s2;obtain⟨j,h1,h2,h3,h4,h5⟩:=R4 he;have hl:x.cps.toList.length=x.length:=by simp[Str.length]
  rw[hl]at h1 h4 h5
  exact tail_any (typeIs_str s x _) slot_str_getitem.lookup (getItem_str (c:=c) (by
   have e1:decide (i < -(2 ^ 63:Int))=false:=Mr (by omega);have e2:decide (i ≥ 2 ^ 63)=false:=Mr (by omega);rw[e1,e2,Bool.or_false]) (by rw[h1];simpa using h2) (k s.heap _ _ (.sc .str))) hs
 | dct XY =>
  obtain⟨key,e1,e2⟩:=ZP.mp (show (Tn t').bind (Zj XY)=some z from e);obtain⟨p,vs,rfl,hz,ns,dd,r⟩:=Bp s1;obtain⟨w,ew,rw'⟩:=(Bf key r).1 z e2;exact tail_any dd.typeIs PySem.F.slot_dict_getitem.lookup (wpAny_getItem_of (key_is e1 s2) dd.mapOf ew (k s.heap _ _ (.sc rw'))) hs
 | _=>cases e
theorem Zo.cut(h:Zo g F ts us)(lo hi:ZC):Zo g F (Yx ts lo hi) ((us.drop (HT.Vc us.length 0 lo)).take (HT.Vc us.length us.length hi - HT.Vc us.length 0 lo)):=by
 unfold Yx;rw[h.length];exact zq _ (zy _ h)
theorem sl_run{lo hi:ZC}{vl vu:Value}{sl:Addr}(fF:FH F s.heap)(s1:V6 g F s.heap t v)(hs:s.heap.IsSliceOf sl vl vu .none)(pl:IsPart vl lo)(pu:IsPart vu hi)(e:slT t lo hi=some r)(k:Ok g F L s r R) :
  ∃T id,typeLookup (.type T) "__getitem__" = pure (some (.builtin id))/\s.TypeIs v T/\wpAny (model g.prog g.w) A (getItem v (.ref sl)) R E s:=by
 cases t with
 | tup ts =>
  cases e;obtain⟨p,us,rfl,hz,tp,r⟩:=V3 fF s1;refine⟨"tuple",_,slot_tuple_getitem.lookup,tp.typeIs, ?_⟩;have rc:=r.cut lo hi;by_cases hw:HT.Vc us.length 0 lo=0/\HT.Vc us.length us.length hi=us.length
  .refine HT.Ma tp hs pl pu (by rw[Ul];exact hw) (k s.heap _ s.toks (.sc ?_));rw[hw.1,hw.2,List.drop_zero,Nat.sub_zero,T0g]at rc;have:=s1.unT
   have e2:Yx ts lo hi=ts:=by
    unfold Yx;rw[r.length,hw.1,hw.2,List.drop_zero,Nat.sub_zero, <-r.length,T0g]
   rw[e2];exact s1
  .refine HT.Bd tp hs pl pu (by rw[Ul];exact hw) ?_ (by rw[Ul];exact hz);rw[show us.toArray.size=us.length by simp,show us.toArray.toList=us by simp];exact k _ _ s.toks (.tup fF rc (by rw[j7,List.length_drop];omega))
 | lst ts =>
  cases e;obtain⟨p,us,m,rfl,hz,ho,r⟩:=U3 s1;have hl:s.heap.IsList p us.toArray:=⟨_,ho,rfl,⟨m,rfl⟩⟩;refine⟨"list",_,slot_list_getitem.lookup,hl.typeIs, ?_⟩;refine wpAny_getItem_list_slice hl hs pl pu .none (by simp) ?_ (by rw[Ul];exact hz);rw[Lo];exact k _ _ s.toks (.lst (r.cut lo hi) (by rw[j7,List.length_drop];omega))
 | str z =>
  obtain⟨hz,e⟩:=Option.ite_none_right_eq_some.mp (show (if z.length<=sizeLine then some (.f (.str (Txt.slice z lo hi))) else none)=some r from e);cases e;cases s1;have q':∀(t':Tok) (tk:Nat),R (.str (Txt.slice z lo hi) t') { s with toks:=tk }:=fun t' tk=>k s.heap _ tk (.sc .str);refine⟨"str",_,PySem.F.slot_str_getitem.lookup,typeIs_str _ _ _, ?_⟩;cases pl with
  | none=>cases pu with
   | none=>exact wpAny_getItem_str_slice (l:=none) (u:=none) (st:=none) hs rfl (post_val_or_str ⟨U8 (Txt.slice_le z _ _) hz,fun t' k=>q' t' k⟩)
   | int j uj=>exact wpAny_getItem_str_slice (l:=none) (u:=some (j,uj)) (st:=none) hs rfl (post_val_or_str ⟨U8 (Txt.slice_le z _ _) hz,fun t' k=>q' t' k⟩)
  | int i ui=>cases pu with
   | none=>exact wpAny_getItem_str_slice (l:=some (i,ui)) (u:=none) (st:=none) hs rfl (post_val_or_str ⟨U8 (Txt.slice_le z _ _) hz,fun t' k=>q' t' k⟩)
   | int j uj=>exact wpAny_getItem_str_slice (l:=some (i,ui)) (u:=some (j,uj)) (st:=none) hs rfl (post_val_or_str ⟨U8 (Txt.slice_le z _ _) hz,fun t' k=>q' t' k⟩)
 | _=>cases e
theorem Av{h:Heap}(hb:sysModules<h.objs.size):(h.objs.size == sysModules)=false:=B0n.mpr (Ne.symm (Fb hb))
theorem Got.dctN{h h':Heap}{a:Addr}{vs:List (Key×Value)}{XY:ZX}(kp:∀b o,h.get? b=some o->h'.get? b=some o)(n:h.get? a=none)(dd:h'.DictOf (Zp g.prog g.w) a vs)(z:vs.length<=sizeLine)(ns:(a == sysModules)=false)(r:Yo g F XY vs):Got g F L h h' (.o (.dct XY)) (.ref a):=by
 obtain⟨o,es,ep,e,ex,d,c,pr,nd⟩:=dd;exact .own (fun b o _=>kp b o) (fun _ hn=>hn.keeps kp) rfl n (.mkD e ⟨ex,⟨es,ep,d,c,pr⟩,nd,z,ns⟩ r)
theorem Yo.put'{k:Key}{XY:ZX}{vs:List (Key×Value)}(it:IsT g F t v)(r:Yo g F XY vs):Yo g F (Ym XY k t) (stored vs k v):=by
 have hi:(XY.any fun p=>decide (p.1=k))=vs.any fun p=>decide (p.1=k):=by
  induction r with
  | nil=>rfl
  | cons q _ ih=>rw[List.any_cons,List.any_cons,ih,q.1]
 unfold Ym stored;rw[hi]
 split
 .refine pr_map (fun x y q=>?_) r;rw[q.1];by_cases e:y.1=k
  .rw[if_pos e,if_pos e];exact⟨rfl,it⟩
  .rw[if_neg e,if_neg e];exact q
 .exact Gn r (.cons ⟨rfl,it⟩ .nil)
theorem js(hb:sysModules<s.heap.objs.size){XY:ZX}(s1:V6 g F s.heap (.dct XY) v)(k:Ok g F L s (.o (.dct XY)) R):wpAny (model g.prog g.w) A (call (.type "dict") [v]) R E s:=by
 obtain⟨a,vs,rfl,z,ns,dd,r⟩:=Bp s1;refine kt_call_dict ns dd z fun h' dd' hs=>?_;exact k h' _ s.toks (.dctN (fun b q hq=>(hs.2 b (Fb (Mv hq))).trans (Vn _ hq)) (Heap.get?_none_of_le (N4 _)) dd' z (Av hb) r)
theorem Yo.fold:∀{XY acc:ZX} {rs vs:List (Key×Value)},Yo g F XY rs->Yo g F acc vs->Yo g F (XY.foldl (fun acc kv=>Ym acc kv.1 kv.2) acc) (rs.foldl (fun acc kv=>stored acc kv.1 kv.2) vs)
 | _,_,_,_,.nil,r=>r
 | p::XY,acc,q::rs,vs,.cons h t,r=>by
  rw[List.foldl_cons,List.foldl_cons,h.1];exact Yo.fold t (r.put' h.2)
theorem y9(XY:ZX)(k:Key)(t:T):(Ym XY k t).length<=XY.length+1:=by
 unfold Ym
 split
 .rw[Y9];omega
 .rw[Nb];simp
theorem Eu:∀(XY acc:ZX),(XY.foldl (fun acc kv=>Ym acc kv.1 kv.2) acc).length<=acc.length+XY.length
 | [],acc=>by simp
 | p::XY,acc=>by
  have h1:=Eu XY (Ym acc p.1 p.2);have h2:=y9 acc p.1 p.2;rw[List.foldl_cons,M5];omega
theorem kj(fF:FH F s.heap):∀{ts:ZZ} {us:ZK} {XY:ZX},Zo g F ts us->Di ts=some XY->∃rs,Yo g F XY rs/\us.length=rs.length/\∀(j:Nat) (k:Key) (v:Value),rs[j]?=some (k,v)->∃p u,us[j]?=some (.ref p)/\IsTup s.heap p #[u,v]/\(Zp g.prog g.w).is k u=true
 | _,_,_,.nil,e=>by cases e;exact⟨[],.nil,rfl,fun j k v h=>by simp at h⟩
 | t::ts,u::us,XY,.cons h r,e=>by
  unfold Di at e
  split at e
  .rename_i z;cases z
  .rename_i a b q z
   cases z;obtain⟨key,e1,e⟩:=ZP.mp e;obtain⟨kvs',e2,rfl⟩:=Y7.mp e;obtain⟨p,vs,rfl,_,tp,r2⟩:=V3 fF h;obtain⟨u1,u2,rfl,i1,i2⟩:=pr2 r2;obtain⟨rs,g1,g2,g3⟩:=kj fF r e2;refine⟨(key,u2)::rs,.cons ⟨rfl,i2⟩ g1,by rw[M5,M5,g2],fun j k v e=>?_⟩;cases j with
   | zero=>cases e;exact⟨p,u1,rfl,tp,key_is e1 (.of fF i1)⟩
   | succ j=>exact g3 j k v e
  .cases e
theorem Ij(hh:A.handled=none)(hb:sysModules<s.heap.objs.size)(fF:FH F s.heap){XY:ZX}(s1:V6 g F s.heap (.lst ts) v)(e:Di ts=some XY)(k:Ok g F L s (.o (.dct (XY.foldl (fun acc kv=>Ym acc kv.1 kv.2) []))) R):wpAny (model g.prog g.w) A (call (.type "dict") [v]) R E s:=by
 obtain⟨a,us,m,rfl,z,ho,r⟩:=U3 s1;obtain⟨rs,g1,g2,g3⟩:=kj fF r e;refine DicL.It (knd:=Zp g.prog g.w) (rs:=rs) hh ho ⟨by rw[Ul];exact g2,fun j k v e=>by obtain⟨p,u,q1,q⟩:=g3 j k v e;exact⟨p,u,by simpa using q1,q⟩⟩ (by omega) (fun p hm=>?_) fun h' tk kp dd=>?_
 .obtain⟨j,hj⟩:=List.mem_iff_getElem?.mp hm;have hj:us[j]?=some (.ref p):=by simpa using hj
  have hjl:j<rs.length:=by rw[<-g2];exact(wt.mp hj).1
  obtain⟨p',u,a1,tp,_⟩:=g3 j _ _ (Lh hjl);rw[hj]at a1;cases a1;exact tp.lt
 .have rr:=Yo.fold g1 (show Yo g F [] [] from .nil);refine k h' _ tk (.dctN kp (Heap.get?_none_of_le (N4 _)) dd ?_ (Av hb) ?_)
  .unfold DicP2.stK;rw[T0g, <-rr.length];have:=Eu XY [];have:=g1.length;simp only[List.length_nil,Nat.zero_add]at *;omega
  .unfold DicP2.stK;rw[T0g];exact rr
theorem tc{XY:ZX}{key:Key}(s1:V6 g F s.heap (.dct XY) v)(s2:V6 g F s.heap t u)(e:Tn t=some key)(k:Ok g F L s (.f ((Zj XY key).getD .non)) R):wpAny (model g.prog g.w) A (call (.builtin "dict.get") [v,u]) R E s:=by
 obtain⟨a,vs,rfl,z,ns,dd,r⟩:=Bp s1;refine call_meetsIn PySem.F.slot_dict_get dd.typeIs PySem.F.entry_dict_get (PySem.F.args_dict_get_2 _ _) (meets_dict_get (Zp g.prog g.w) a (key_is e s2) ns) ⟨_,dd.mapOf,k s.heap _ _ (.sc ?_)⟩;obtain⟨h1,h2⟩:=Bf key r;cases q:Zj XY key with
 | none=>rw[h2 q];exact .non
 | some x=>obtain⟨w,e1,e2⟩:=h1 x q;rw[e1];exact e2
theorem td{XY:ZX}{key:Key}{x:T}{w:Value}(s1:V6 g F s.heap (.dct XY) v)(s2:V6 g F s.heap t u)(s3:V6 g F s.heap x w)(c:B5 x=false)(e:Tn t=some key)(k:Ok g F L s (.f ((Zj XY key).getD x)) R):wpAny (model g.prog g.w) A (call (.builtin "dict.get") [v,u,w]) R E s:=by
 obtain⟨a,vs,rfl,z,ns,dd,r⟩:=Bp s1;refine call_meetsIn PySem.F.slot_dict_get dd.typeIs PySem.F.entry_dict_get (PySem.F.args_dict_get_3 _ _ _) (meets_dict_get_default (Zp g.prog g.w) a (key_is e s2) ns w) ⟨_,dd.mapOf,k s.heap _ _ (.sc ?_)⟩;obtain⟨h1,h2⟩:=Bf key r;cases q:Zj XY key with
 | none =>
  rw[h2 q];unfold V6 at s3;rw[c]at s3;exact s3
 | some x=>obtain⟨w,e1,e2⟩:=h1 x q;rw[e1];exact e2
end
end PV
namespace TLT
open PySem PySem.Calls PyProof.Rows SeqAt
def Lt1(s:Shared)(c e:Bool)(l:List (Value×Value)):Prop:=(l=[]/\c=e)\/∃x y,l=[(x,y)]/\(∀A,EqAt A s x y false)/\∀(prog:Program) (w:World) (A:Around) (Q E:ZQ),Q (.bool c) s->wpAny (model prog w) A (richCompare .Lt x y) Q E s
theorem v9(l b:Addr)(items items2:ZD)(n n2:Nat)(dd dd2:ZR)(sl sl2:ZY)(c:Bool) :
  Meets (Builtin.«tuple.__lt__» ⟨[.ref l,.ref b],[]⟩)
   (fun A R s=>s.heap.get? l=some { cls:=.type "tuple",dict:=dd,data:=.seq items n,slots:=sl }/\s.heap.get? b=some { cls:=.type "tuple",dict:=dd2,data:=.seq items2 n2,slots:=sl2 } /\
    Lt1 s c (decide (items.size<items2.size)) (items.toList.zip items2.toList)/\R (.ok (.ret (.bool c))) s) :=
 .of_wp fun prog w A R s h=>by
  obtain⟨hp,g,d,tk,os⟩:=s;obtain⟨hl,hb,lx,h⟩:=h;have f2:=AutoSeq1.sub_tuple_tuple
  wp_walk using wpAny_loadPart' hl,wpAny_loadPart' hb,wpAny_forIn_list _ (fun rest b s'=>b.1=none/\s'=⟨hp,g,d,tk,os⟩/\Lt1 ⟨hp,g,d,tk,os⟩ c (decide (items.size<items2.size)) rest) _
  case turn =>
   rintro⟨y,x⟩ rest b s' ⟨hb',rfl,lx⟩;rcases lx with ⟨z,_⟩ | ⟨y',x',e,q1,q2⟩
   .cases z
   .cases e;refine Zy (q1 _ prog w _ _ ?_)
    wp_walk using q2
    exact⟨_,rfl,h⟩
  case fin =>
   rintro⟨b1,b2⟩ s' ⟨z,rfl,lx⟩;rcases lx with ⟨_,e⟩ | ⟨y',x',e,_⟩
   .cases z;subst e
    wp_walk
    exact⟨_,rfl,h⟩
   .cases e
  case h=>exact⟨rfl,rfl,lx⟩
theorem qa{prog:Program}{w:World}{A:Around}{E:ZQ}{s:Shared}{l b:Addr}{items items2:ZD}{c:Bool}{Q:ZQ}(hl:s.heap.IsTuple l items)(hb:s.heap.IsTuple b items2)(hu:A.units<cLine)(lx:Lt1 s c (decide (items.size<items2.size)) (items.toList.zip items2.toList))(h:Q (.bool c) s):wpAny (model prog w) A (richCompare .Lt (.ref l) (.ref b)) Q E s:=by
 obtain⟨o,ho,hc,n,hd⟩:=hl;obtain⟨o2,N7,hc2,n2,hd2⟩:=hb;cases o with | mk cls dd data sl =>
 cases o2 with | mk cls2 dd2 data2 sl2 =>
 cases hc;cases hd;cases hc2;cases hd2;have fin:Value.bool c≠Value.notImplemented/\Q (.bool c) s:=⟨fun z=>(nomatch z),h⟩;exact richCompare_meets_room (op:=.Lt) ⟨_,ho,rfl⟩ ⟨_,N7,rfl⟩ F.slot_tuple_lt F.entry_tuple_lt (F.args_tuple_lt_2 _ _) (v9 l b items items2 n n2 dd dd2 sl sl2 c) ⟨ho,N7,lx,fin⟩ hu
end TLT
namespace L2
open PySem PySem.Spec PyProof.Rows
end L2
namespace PV
open PySem PySem.Spec PyProof.Rows L2 PySem.W
section
variable{g:Md}{F:OM}{A:Around}{R:ZQ}{E:ZQ}{s:Shared}{a b t t':T}{u v:Value}{r:Bool}{L:Addr}{ts ws:ZZ}{us zs:ZK}
theorem b9(i1:IsT g F a u)(i2:IsT g F b v)(h:o7 a b=some r)(prog:Program)(w:World)(A:Around)(Q E:ZQ)(q:Q (.bool r) s):wpAny (model prog w) A (richCompare .Lt u v) Q E s:=by
 unfold o7 at h
 split at h
 .cases i1;cases i2;cases h;exact lt_int q
 .cases i1;cases i2;cases h;exact lt_str q
 .rename_i c d
  cases i1;cases i2;cases h;refine lt_bool ?_;have e:decide (b2i c<b2i d)=(!c && d):=by cases c<;>cases d<;>decide
  rw[e];exact q
 .cases h
theorem b8(h:o7 a b=some r):Gy a=true/\Gy b=true/\Sw b=none:=by
 unfold o7 at h
 split at h<;>first | exact⟨rfl,rfl,rfl⟩ | cases h
theorem lt1_ne(i1:IsT g F a u)(i2:IsT g F b v)(h:o7 a b=some r)(e:eqT a b=some false):∀A,SeqAt.EqAt A s u v false:=by
 intro A;obtain⟨_,e⟩:=Kz e;unfold o7 at h
 split at h
 .cases i1;cases i2;rw[<-Nf e];exact SeqAt.EqAt.int_int _ _ _ _
 .cases i1;cases i2;rw[<-Nf e];exact SeqAt.EqAt.str_str _ _ _ _
 .cases i1;cases i2;rw[<-Nf e];exact SeqAt.EqAt.bool_bool _ _
 .cases h
theorem xg{l V:Type}{a:List l}{b:List V}(h:a.length=b.length):a.isEmpty=b.isEmpty:=by
 cases a<;>cases b<;>first | rfl | cases h
theorem ltE_at{Q E:ZQ}(fF:FH F s.heap)(hu:A.units<cLine)(i1:IsT g F a u)(i2:IsT g F b v)(ne:Hy a b=some false)(h:ltE a b=some r)(q:Q (.bool r) s):wpAny (model g.prog g.w) A (richCompare .Lt u v) Q E s:=by
 unfold ltE at h
 split at h
 .exact b9 i1 i2 h g.prog g.w A Q E q
 .rename_i bs hb
  obtain⟨as,ha,hl⟩:=ZP.mp h
  clear h
  cases Uq hb;cases Uq ha;obtain⟨p,us,rfl,_,tp,av⟩:=V3 fF i1;obtain⟨p',zs,rfl,_,tq,aw⟩:=V3 fF i2;refine TLT.qa tp tq hu ?_ q;show TLT.Lt1 s r _ (us.zip zs);rw[Ul,Ul];cases as with
  | nil =>
   cases hl;cases av;refine .inl ⟨rfl, ?_⟩;rw[xg aw.length];cases zs<;>rfl
  | cons a r' =>
   cases bs with
   | nil =>
    cases hl;cases aw;exact .inl ⟨List.zip_nil_right,by simp⟩
   | cons b q' =>
    replace hl:(if r'.isEmpty=true/\q'.isEmpty=true then o7 a b else none)=some r:=hl
    split at hl
    .rename_i he
     obtain rfl:r'=[]:=List.isEmpty_iff.mp he.1;obtain rfl:q'=[]:=List.isEmpty_iff.mp he.2;obtain⟨x1,rfl,j1⟩:=Cv av;obtain⟨y1,rfl,j2⟩:=Cv aw;obtain⟨f1,f2,f3⟩:=b8 hl;obtain⟨e,e1,n2⟩:=ZP.mp (show (eq1 a b).bind (fun x=>(some true).map (x && ·))=some false from ne);have n3:some (e && true)=some false:=n2;rw[Bool.and_true]at n3;cases n3
     have e1:eqT a b=some false:=by
      unfold eq1 at e1;rw[f3]at e1;exact e1
     obtain⟨_,e2⟩:=Kz e1;exact .inr ⟨_,_,rfl,lt1_ne j1 j2 hl e1,fun prog w A Q E q=>b9 j1 j2 hl prog w A Q E q⟩
    .cases hl
theorem Ej{Q:Bool->Shared->Prop}(fF:FH F s.heap)(hu:A.in1.units<cLine):∀{as bs:ZZ} {us zs:ZK} {c fin:Bool} {i:Nat},D3 as bs=some c->Zo g F as us->Zo g F bs zs->fin=decide (us.length<zs.length)->Q c s->KatLex g.prog g.w A true fin Q (us.zip zs) (i+1) s
 | [],bs,us,zs,c,fin,i,h,a1,a2,ef,q=>by
  cases a1;cases h;subst ef;show Q _ s;rw[xg a2.length]at q;cases zs<;>exact q
 | a::r,[],us,zs,c,fin,i,h,a1,a2,ef,q=>by
  cases a2;cases a1;cases h;subst ef;rw[List.zip_nil_right];show Q _ s;simpa using q
 | a::r,b::t,us,zs,c,fin,i,h,a1,a2,ef,q=>by
  cases a1 with | cons i1 a1 =>
  cases a2 with | cons i2 a2 =>
  obtain⟨e,e1,h⟩:=ZP.mp (show (Hy a b).bind _=some c from h);rw[List.zip_cons_cons];refine kat_cons (t8 hu fF i1 i2 e1 g.prog g.w _ _ ?_);cases e with
  | true =>
   refine kat_yes (Ej fF hu h a1 a2 ?_ q);rw[ef,M5,M5];exact decide_eq_decide.mpr Nat.succ_lt_succ_iff
  | false =>
   refine kat_no (kat_one _ _ ?_);exact ltE_at fF (Nat.lt_of_succ_lt hu) i1 i2 e1 h q
theorem Rt(fF:FH F s.heap):∀{ts:ZZ} {vs:ZK} {us:List (ZZ)},Zo g F ts vs->R8 ts=some us->∀i,i<vs.length->∃p ws k r,vs.getD i .none=.ref p/\IsTup s.heap p ws.toArray/\Zo g F (us.getD i []) ws/\us.getD i []=.int k::r/\us.getD i []∈us/\F p≠none
 | _,_,us,.nil,e,i,hi=>absurd hi (Nat.not_lt_zero _)
 | t::ts,v::vs,us,.cons q r,e,i,hi=>by
  unfold R8 at e
  split at e
  .rename_i z;cases z
  .rename_i z
   cases z;obtain⟨us',e1,rfl⟩:=Y7.mp e;cases i with
   | zero =>
    obtain⟨p,o,ws,rfl,ho,k,ar⟩:=q.unT;exact⟨p,ws,_,_,rfl,k.is (fF _ _ ho),ar,rfl,Yb,by rw[ho];exact fun z=>nomatch z⟩
   | succ i =>
    obtain⟨p,ws,k,r',h1,h2,h3,h4,h5,h6⟩:=Rt fF r e1 i (by simpa using hi);exact⟨p,ws,k,r',by simpa using h1,h2,by simpa using h3,by simpa using h4,by simpa using Y5 _ h5,h6⟩
  .cases e
theorem Zza{s':Shared}{vs:ZK}{us:List (ZZ)}(un:A.units+150<cLine)(fF:FH F s'.heap)(ar:Zo g F ts vs)(e:R8 ts=some us)(all:∀a∈us,∀b∈us,(D3 a b).isSome=true){i j:Nat}(hi:i<vs.length)(hj:j<vs.length){C:Bool->Shared->Prop}{E':ZQ}(hC:C ((D3 (us.getD i []) (us.getD j [])).getD false) s') :
  wpAny (model g.prog g.w) A.in1.in1 (keyLt' (tuples' true) (vs.getD i .none) (vs.getD j .none)) C E' s':=by
 obtain⟨p,ws,k,r,h1,⟨o,g1,g2,n,g3⟩,h3,h4,h5,_⟩:=Rt fF ar e i hi;obtain⟨p',ws',k',r',h1',⟨o',g1',g2',n',g3'⟩,h3',h4',h5',_⟩:=Rt fF ar e j hj;rw[h1,h1'];obtain⟨c,ec⟩:=Option.isSome_iff_exists.mp (all _ h5 _ h5');rw[ec]at hC;have hC:C c s':=hC;rw[h4]at ec h3;rw[h4']at ec h3';cases h3 with | cons i1 a1 =>
 cases h3' with | cons i2 a2 =>
 cases i1;cases i2
 rename_i t1 _ t2
 refine kat_lt g1 g3 g1' g3' ?_;refine kat_cons (SeqAt.EqAt.int_int k _ k' _ g.prog g.w _ _ ?_);have ec:(if decide (k=k')=true then D3 r r' else ltE (.int k) (.int k'))=some c:=ec;by_cases z:k=k'
 .rw[Jo z,if_pos rfl]at ec;rw[show (k == k')=true from beq_iff_eq.mpr z];refine kat_yes (Ej fF (by show A.units+1+1+1<cLine;omega) ec a1 a2 ?_ hC);simp
 .rw[Mr z,if_neg (by decide)]at ec;rw[show (k == k')=false from B0n.mpr z];refine kat_no ?_;cases(show some (decide (k<k'))=some c from ec);exact oneLt_int hC
theorem ns_as{h h':Heap}{L:Addr}{m m':ZJ}(hn:h.Ns L m)(hm:h.Ns L m')(n:h'.Ns L m):h'.Ns L m':=by
 obtain⟨o,es,ep,e1,d,q1,q2⟩:=n;exact⟨o,es,ep,e1,d,q1,fun x=>(q2 x).trans (Heap.Ns.agree hn hm x)⟩
theorem pick{vs:ZK}(r:Zo g F ts vs):∀(p:List Nat),(∀i∈p,i<vs.length)->Zo g F (p.map fun i=>ts.getD i .non) (p.map fun i=>vs.getD i .none)
 | [],_=>.nil
 | i::p,h=>by
  refine .cons ?_ (pick r p fun j m=>h j (Y5 _ m));have hi:i<ts.length:=by rw[r.length];exact h i Yb
  have:=Wj .none r i hi;show IsT g F (ts.getD i .non) (vs.getD i .none);rw[List.getD_eq_getElem?_getD,Lh hi];exact this
theorem Sn{T:String}{a:Addr}{o:Obj}{n:Nat}{vs:ZK}(un:A.units+150<cLine)(hn:∃m,s.heap.Ns L m)(fF:FH F s.heap)(nL:F L=none)(z:vs.length<=sizeLine)(e0:s.heap.get? a=some o)(hc:o.cls=.type T)(hT:T = "list" \/ T = "tuple")(hd:o.data=.seq vs.toArray n)(r:Zo g F ts vs)(e:M8 ts=some ws)(k:Ok g F L s (.o (.lst ws)) R):wpAny (model g.prog g.w) A (call (.builtin "sorted") [.ref a]) R E s:=by
 obtain⟨us,eu,e⟩:=ZP.mp e;have vl:=r.length
 split at e
 .cases e;exact R9 (T:=T) e0 hc hT hd z (fun A E s D Q o e q=>SRT.qg (Ok:=fun _=>True) (by omega) A E s D Q o e fun h1 out n k e1 r1=>q h1 out n k e1 (by rw[r1];exact⟨r,rfl⟩)) k
 split at e
 rotate_left
 .cases e
 rename_i hz
 cases e;obtain⟨m,hn⟩:=hn;obtain⟨fr,nw⟩:=Ep hn;refine SRT.Cj e0 hc hT hd z fun h1 D k1 sz Cp=>?_;have nDs:s.heap.get? D=none:=Heap.get?_none_of_le sz;have nDL:D≠L:=Nat.ne_of_gt (N0l hn.lt sz)
 have N1:News (Tt s.heap L) L h1 ((D,listOf vs.toArray 0)::Nx s.heap L):=fun p hp=>by
  rcases Ya.mp hp with rfl | hp
  .refine⟨Cp,nDL, ?_⟩;cases eo:(Tt s.heap L).get? D with
   | none=>rfl
   | some o=>have:=(Py eo).1;rw[nDs]at this;cases this
  .exact(nw.grown k1) p hp
 have lt:∀q∈Nx s.heap L,q.1≠D:=fun q hq z=>by have:=(nw q hq).1;rw[z,nDs]at this;cases this
 refine kat_lsort (vs:=vs) (s:={ s with heap:=h1 }) (fr.kept k1) N1 (.head lt) (by simp) (by omega) (by omega) fun e1 h' F' N'=>?_;have N2:News (Tt s.heap L) L h' (Nx s.heap L):=fun p hp=>N' p (Y5 _ hp);have kp:∀b o,b≠L->s.heap.get? b=some o->h'.get? b=some o:=Pc F' N2 fun p hp=>hp;have fF':FH F h':=fun a o e=>kp a o (fun z=>by rw[z,nL]at e;cases e) (fF a o e)
 obtain⟨fs,t1,t2,t3⟩:=SRT.Xp (h:=h') (vs:=vs) fun v mv=>by
  obtain⟨i,hi,rfl⟩:=List.getElem_of_mem mv;obtain⟨p,ws,k,r',h1,⟨o,g1,g2,n,g3⟩,h3,h4,_⟩:=Rt (s:={ s with heap:=h' }) fF' r eu i hi;rw[List.getD_eq_getElem?_getD,Lh hi]at h1;rw[h4]at h3;cases h3 with | cons i1 a1 =>
  cases i1;exact⟨p,o,_,n,k,_,h1,g1,g2,g3,by simp;rfl⟩
 refine kat_kind (s:={ s with heap:=h' }) (T:=.type "int") t1 (by omega) (fun v m=>?_) rfl ?_
 .obtain⟨i,t,rfl⟩:=t3 v m;exact Looks.of_pure rfl
 rw[show (Value.type "int" != Value.type "tuple")=true by decide];refine SRT.X8 (n:=vs.length) (b:=fun i j=>(D3 (us.getD i []) (us.getD j [])).getD false) (s:={ s with heap:=h' }) (fun i j hi hj C hC=>Zza un fF' r eu hz.2 hi hj hC) (SRT.Ss (by omega)) fun pm=>?_;refine KasFin.intro F' N' (g:=fun o=>(D,o)::Nx s.heap L) (.head lt) fun h2 c F2 N3=>?_;have ka:=Pc F2 N3 fun p hp=>Y5 _ hp;obtain⟨eD,_,_⟩:=N3 _ Yb;have pl':∀i∈(SRT.runK (fun i j=>(D3 (us.getD i []) (us.getD j [])).getD false) (kas_sort vs.length)).toList,i<vs.length:=fun i mi=>List.mem_range.mp (pm.mem_iff.mp mi);have rp:=pick r _ pl';have sl:=sizeLine_eq
 have ln:((SRT.runK (fun i j=>(D3 (us.getD i []) (us.getD j [])).getD false) (kas_sort vs.length)).toList.map fun i=>vs.getD i .none).length<=sizeLine:=by
  rw[Y9,pm.length_eq,XZ];omega
 refine k h2 _ s.toks (.own (fun b o nb eb=>ka b o nb eb) (fun m' hm=>ns_as hn hm F2.ns) rfl nDs ?_);rw[vl];exact .mkL (us:=_) (o:={ cls:=.type "list",data:=.seq _ c }) (by simpa using eD) ⟨ln,c,rfl⟩ rp
theorem yy{r2:Sl}(un:A.units+150<cLine)(hn:∃m,s.heap.Ns L m)(fF:FH F s.heap)(nL:F L=none)(s1:V6 g F s.heap t v)(e:zd [t]=some r2)(k:Ok g F L s r2 R):wpAny (model g.prog g.w) A (call (.builtin "sorted") [v]) R E s:=by
 cases t with
 | tup ts =>
  obtain⟨ws,e1,rfl⟩:=Y7.mp (show (M8 ts).map _=some r2 from e);obtain⟨a,vs,rfl,z,⟨o,e0,hc,n,hd⟩,rr⟩:=V3 fF s1;exact Sn un hn fF nL z e0 hc (.inr rfl) hd rr e1 k
 | lst ts =>
  obtain⟨ws,e1,rfl⟩:=Y7.mp (show (M8 ts).map _=some r2 from e);obtain⟨a,vs,n,rfl,z,ho,rr⟩:=U3 s1;exact Sn (T:="list") un hn fF nL z ho rfl (.inl rfl) rfl rr e1 k
 | _=>cases e
end
end PV
namespace EX
open PySem
def QV(h:Heap)(vs:ZD):Prop:=vs[1]?=some .none\/∃T oT ts,vs[1]?=some (.ref T)/\h.get? T=some oT/\oT.data=.fields ts/\ts[3]?=some .none
section
variable{M:Model}{A:Around}{E:ZQ}{s:Shared}{env:Env}{outer:List Env}{base:Heap}{L e T:Addr}{oe:Obj}{vs:ZD}{Q:ZH}
theorem ff(Nl:A.frames=some (env::outer))(hl:s.heap.FunFrames base (env::outer))(hf:env.frame=some L)
  (he:s.heap.get? e=some oe) (hd:oe.data=.fields vs) (hq:QV s.heap vs)
  (h:∀h' T,xo (env::outer) e T oe s.heap h'->Q () { s with heap:=h' }):wpAny M A (noteFrame (.ref e) env) Q E s:=by
 rcases hq with h1 | ⟨T0,oT,ts,h1,hT,hdT,h3⟩
 .exact fk Nl hl hf he hd h1 h
 have hz:1<vs.size:=(Array.getElem?_eq_some_iff.mp h1).1;have hne:=Qz hl he hd;unfold noteFrame;simp only[hf];refine Zy (wpAny_field he hd h1 ?_);rw[if_pos (show (Value.ref T0 != Value.none)=true from by simp)];refine Zy (wpAny_field hT hdT h3 ?_);rw[if_neg (show ¬ ((Value.none == rawInt L)=true) from by simp[rawInt])];refine Zy (wpAny_setField hT hdT (Array.getElem?_eq_some_iff.mp h3).1 ?_);rw[Heap.update_setField_same _ _ _ _ _ _ hT hdT h3];refine Zy (wpAny_frameOf_fun Nl hl hf fun h₁ sl=>Zy (wpAny_entryPlaceOf fun pl hpl=>?_));unfold EntryCells.newEntry newFields;refine Zy (wpAny_newObj_type ?_ (hpl.sizeOk5 _ _ _ _ _));have e1:h₁.get? e=some oe:=(sl.2.1 e hne).trans he;have z1:h₁.objs.size=s.heap.objs.size:=sl.1;refine wpAny_setField (Vn _ e1) hd hz (h _ h₁.objs.size ⟨fun b o hb hn q=>?_,fun b o hb q=>?_, ?_,Nat.le_of_eq z1.symm, ?_⟩)
 .exact(Heap.get?_update_other _ _ (Ne.symm hb)).trans (Vn _ ((sl.2.1 b hn).trans q))
 .obtain⟨x,q'⟩:=sl.2.2 b o q;exact⟨x,(Heap.get?_update_other _ _ (Ne.symm hb)).trans (Vn _ q')⟩
 .exact Heap.get?_update_self _ (Vn _ e1) (Obj.isFreed_of_fields (Obj.data_mapFields hd _))
 .refine⟨_,_,(Heap.get?_update_other _ _ (Fb (Mv e1))).trans (Mw h₁ rfl),rfl, ?_⟩;simp only[Ul,Nb,M5,List.length_nil];omega
theorem m6(Nl:A.frames=some (env::outer))(hl:s.heap.FunFrames base (env::outer))(hf:env.frame=some L)
  (he:s.heap.get? e=some oe) (hd:oe.data=.fields vs) (hq:QV s.heap vs)
  (h:∀h1 h2 T,xo (env::outer) e T oe s.heap h1->(∀b,b≠T->h2.get? b=h1.get? b)->QV h2 (vs.setIfInBounds 1 (.ref T))->Q () { s with heap:=h2 }):wpAny M A (leaving env (.ref e)) Q E s:=by
 have hz:1<vs.size:=by
  rcases hq with h1 | ⟨_,_,_,h1,_⟩
  .exact(Array.getElem?_eq_some_iff.mp h1).1
  .exact(Array.getElem?_eq_some_iff.mp h1).1
 unfold leaving;refine Zy (ff Nl hl hf he hd hq fun g1 T N=>?_);obtain⟨oT,ts,hT,hdT,hz3⟩:=N.tb;have v1:(vs.setIfInBounds 1 (.ref T))[1]?=some (.ref T):=by simp[hz]
 refine wpAny_setFlight_none (s:={ s with heap:=g1 }) N.exc (Obj.data_mapFields hd _) v1 hT hdT hz3 (h g1 _ T N (fun b hb=>Heap.get?_update_other _ _ (Ne.symm hb)) (.inr ⟨T,_,_,v1,Heap.get?_update_self _ hT (Obj.isFreed_of_fields (Obj.data_mapFields hdT _)),Obj.data_mapFields hdT _, ?_⟩));simp[hz3]
end
end EX
namespace PV
open PySem PySem.Spec PyProof.Rows L2
open Classical in
noncomputable def GG(F:OM)(p:P)(l:Vs)(L:Nat->Prop)(h:Heap):OM:=fun a=>if F a≠none\/∃i t,L i/\p[i]?=some (Sl.o t)/\l[i]?=some (some (.ref a)) then none else h.get? a
section
variable{X Y:Cx}{F F':OM}{p p2 q:P}{V τ:Vs}{s s':Shared}{L:Nat->Prop}{h:Heap}{a:Addr}
theorem Bg{o:Obj}(n:F a=none)(l:∀i t,L i->p[i]?=some (Sl.o t)->V[i]?≠some (some (.ref a)))(e:h.get? a=some o):GG F p V L h a=some o:=by
 unfold GG;rw[if_neg (fun z=>z.elim (fun z=>z n) fun⟨i,t,h1,h2,h3⟩=>l i t h1 h2 h3)];exact e
theorem Eh(n:F a≠none):GG F p V L h a=none:=if_pos (.inl n)
theorem xv{i:Nat}{t:T}(l:L i)(e:p[i]?=some (Sl.o t))(e2:V[i]?=some (some (.ref a))):GG F p V L h a=none:=if_pos (.inr ⟨i,t,l,e,e2⟩)
theorem Pa(n:h.get? a=none):GG F p V L h a=none:=by
 unfold GG
 split
 .rfl
 .exact n
theorem Bw{b:Addr}{m:ZJ}{h':Heap}(k:∀o,h.get? b=some o->∃sl,h'.get? b=some { o with slots:=sl })(hn:h.Ns b m):h'.Ns b m:=by
 obtain⟨o,es,ep,e1,d,q⟩:=hn;obtain⟨sl,e'⟩:=k o e1;exact⟨_,es,ep,e',d,q⟩
theorem Inv.stackKp(I:Inv X F p V s){b:Addr}(hb:b∈A4 X.stack):X.kp b:=(I.stackSub hb).elim (fun z=>.inr (.inl z)) fun z=>.inl (I.ok.fg b z)
theorem Inv.kpF(I:Inv X F p V s)(k:X.kp a):F a=none:=by
 cases e:F a with
 | none=>rfl
 | some o=>exact absurd k (I.f a o e).2
structure Sub(X:Cx)(F:OM)(p:P)(V:Vs)(s:Shared)(L:Nat->Prop)(Y:Cx):Prop where
 md:Y.toMd=X.toMd
 G:Y.G=GG F p V L s.heap
 out:Y.outer=X.stack
 F0:Y.F0=F
 os:Y.os=s.os
theorem Sub.kp(S:Sub X F p V s L Y)(I:Inv X F p V s)(k:X.kp a):Y.kp a:=by
 obtain⟨o,e⟩:=I.kpAt k;refine .inl ?_;rw[S.G,Bg (I.kpF k) (fun i t _ e1 e2=>?_) e]
 .exact fun z=>nomatch z
 .obtain⟨b,h1,h2⟩:=I.r.ow i t e1;rw[e2]at h1;cases h1;exact h2.k k
theorem Sub.own(S:Sub X F p V s L Y)(I:Inv X F p V s){i:Nat}{t:T}(e:p[i]?=some (Sl.o t))(e2:V[i]?=some (some (.ref a)))(n:¬ L i):∃o,s.heap.get? a=some o/\Y.G a=some o:=by
 obtain⟨b,h1,h2⟩:=I.r.ow i t e;rw[e2]at h1;cases h1;obtain⟨o,eo⟩:=h2.at;refine⟨o,eo, ?_⟩;rw[S.G];exact Bg h2.f (fun j u l e3 e4=>n (I.r.ap j i u t a e3 e e4 e2 ▸ l)) eo
theorem Ce.ofY(S:Sub X F p V s L Y)(I:Inv X F p V s){t:T}(o:Ce Y F' h a t):Ce X F' h a t:=⟨o.c,o.f,fun z=>o.k (S.kp I z),S.md ▸ o.t⟩
theorem Inv.exit(I:Inv X F p V s)(S:Sub X F p V s L Y)(J:Inv Y F' q τ s'){ι:Nat->ZL}(hf:∀(i:Nat) (t:T),p2[i]?=some (Sl.f t)->p[i]?=some (Sl.f t)\/∃k:Nat,q[k]?=some (Sl.f t)/\τ[k]?=V[i]?)
  (ho:∀(i:Nat) (t:T),p2[i]?=some (Sl.o t)->(p[i]?=some (Sl.o t)/\¬ L i)\/∃k:Nat,q[k]?=some (Sl.o t)/\τ[k]?=V[i]?/\ι k=some i) (ln:p2.length=p.length) :
  Le F F'/\Inv X F' p2 V s'/\∀r v,Res Y F' q τ s'.heap r v->Res X F' p2 V s'.heap r v:=by
 have l:Le F F':=S.F0 ▸ J.le
 have yf:∀{b:Addr} {o:Obj},Y.G b=some o->F' b=none:=fun {b o} e=>by
  cases z:F' b with
  | none=>rfl
  | some x=>exact absurd (.inl (by rw[e];exact fun z=>nomatch z)) (J.f b x z).2
 have kp:∀b o,X.kp b->s.heap.get? b=some o->Kp (A4 X.stack) s'.heap b o:=fun b o k e=>by
  rw[<-S.out];refine J.g b o ?_;rw[S.G];refine Bg (I.kpF k) (fun i t _ e1 e2=>?_) e;obtain⟨b',h1,h2⟩:=I.r.ow i t e1;rw[e2]at h1;cases h1;exact h2.k k
 have rel:Rel X F' p2 V s'.heap:=by
  refine⟨fun i t e=>?_,fun i t e=>?_,fun i j t u a e1 e2 h1 h2=>?_,ln.trans I.r.ln⟩
  .rcases hf i t e with e | ⟨k,e1,e2⟩
   .obtain⟨v,h1,h2⟩:=I.r.fz i t e;exact⟨v,h1,h2.up l⟩
   .obtain⟨v,h1,h2⟩:=J.r.fz k t e1;exact⟨v,e2.symm.trans h1,S.md ▸ h2⟩
  .obtain⟨pt,nl⟩ | ⟨k,ek,es,_⟩:=ho i t e
   .obtain⟨a,h1,w⟩:=I.r.ow i t pt;obtain⟨o,e1,e2⟩:=S.own I pt h1 nl;refine⟨a,h1,w.to l (yf e2) fun x ex=>?_⟩;obtain⟨sl,e3,n⟩:=J.g a o e2;rw[e1]at ex;cases ex;rw[S.out]at n;rw[e3,n fun z=>w.k (I.stackKp z)]
   .obtain⟨a,h1,w⟩:=J.r.ow k t ek;exact⟨a,es.symm.trans h1,w.ofY S I⟩
  .have no:∀{i k:Nat} {t u:T},p[i]?=some (Sl.o t)->¬ L i->V[i]?=some (some (.ref a))->q[k]?=some (Sl.o u)->τ[k]?=some (some (.ref a))->False:=fun {i k t u} g1 g2 g3 g4 g5=>by
    obtain⟨o,_,e2⟩:=S.own I g1 g3 g2;obtain⟨b,z,w⟩:=J.r.ow k u g4;rw[g5]at z;cases z;exact w.k (.inl (by rw[e2];exact fun z=>nomatch z))
   obtain⟨pt,nl⟩ | ⟨k,ek,es,ei⟩:=ho i t e1<;>obtain⟨pt',nl'⟩ | ⟨k',ek',R0,ei'⟩:=ho j u e2
   .exact I.r.ap i j t u a pt pt' h1 h2
   .exact(no pt nl h1 ek' (R0.trans h2)).elim
   .exact(no pt' nl' h2 ek (es.trans h1)).elim
   .have:=J.r.ap k k' t u a ek ek' (es.trans h1) (R0.trans h2);subst this;rw[ei]at ei';exact Nf ei'
 refine⟨l,I.step (J.os.trans S.os) J.bare l (fun a o e=>⟨(J.f a o e).1,fun z=>(J.f a o e).2 (S.kp I z)⟩) (fun a o k _ e=>kp a o k e) (fun m hn=>Bw (fun o e=>let ⟨sl,e',_⟩:=kp _ o (.inr (.inl rfl)) e;⟨sl,e'⟩) hn) rel,fun r v rs=>?_⟩;cases r with
 | no=>exact rs
 | f t=>exact(show IsT X.toMd F' t v from S.md ▸ (show IsT Y.toMd F' t v from rs))
 | o t =>
  obtain⟨a,rfl,w,n⟩:=rs;refine⟨a,rfl,w.ofY S I,fun i u e z=>?_⟩;obtain⟨pt,nl⟩ | ⟨k,ek,es,_⟩:=ho i u e
  .obtain⟨o,e1,e2⟩:=S.own I pt z nl;exact w.k (.inl (by rw[e2];exact fun z=>nomatch z))
  .exact n k u ek (es.trans z)
structure Exa(X:Cx)(F:OM)(h:Heap)(e:Addr)(c:Str)(t:T):Prop where
 f:F e=none
 k:¬ X.kp e
 ex:∃o u vs,h.get? e=some o/\Hx X.toMd F o c u/\IsT X.toMd F t u/\o.data=.fields vs/\EX.QV h vs
theorem Exa.ofY{e:Addr}{c:Str}{t:T}(S:Sub X F p V s L Y)(I:Inv X F p V s)(x:Exa Y F' h e c t):Exa X F' h e c t:=⟨x.f,fun z=>x.k (S.kp I z),S.md ▸ x.ex⟩
theorem Hx.tb{g:Md}{o:Obj}{c:Str}{u v:Value}(h:Hx g F o c u):Hx g F (o.mapFields (·.setIfInBounds 1 v)) c u:=by
 obtain⟨vs,e,z⟩:=h.fs;obtain⟨cl,od,d,sl⟩:=o;dsimp only at e;subst e;exact⟨h.cl,⟨_,rfl,by rw[Array.size_setIfInBounds];exact z⟩,h.dc⟩
theorem Ce.neX{e:Addr}{t:T}{o:Obj}{vs:ZD}(w:Ce X F h a t)(ho:h.get? e=some o)(hd:o.data=.fields vs):a≠e:=by
 rintro rfl;have hc:=w.c;have ht:=w.t;cases t with
 | lst ts =>
  obtain⟨b,x,us,e1,e2,k,_⟩:=ht.unL;cases e1;obtain⟨_,n,rfl⟩:=k;rw[ho]at e2;cases e2;cases hd
 | dct ts =>
  obtain⟨b,x,us,e1,e2,k,_⟩:=ht.unD;cases e1;obtain⟨es,ep,d,_⟩:=k.es;rw[ho]at e2;cases e2;rw[d]at hd;cases hd
 | _=>cases hc
theorem Inv.noted{e T':Addr}{oe:Obj}{vs:ZD}{h1 h2:Heap}(I:Inv X F p V s)(fe:F e=none)(ke:¬ X.kp e)(he:s.heap.get? e=some oe)(hd:oe.data=.fields vs)(N:EX.xo X.stack e T' oe s.heap h1)(k2:∀b,b≠T'->h2.get? b=h1.get? b):Inv X F p V { s with heap:=h2 }:=by
 have nT:∀{b:Addr} {o:Obj},s.heap.get? b=some o->b≠T':=fun {b o} q z=>Nat.lt_irrefl _ (N0l (Mv (z ▸ q)) N.new);have kk:∀{b:Addr} {o:Obj},b≠e->b ∉ A4 X.stack->s.heap.get? b=some o->h2.get? b=some o:=fun {b o} n1 n2 q=>(k2 b (nT q)).trans (N.keep b o n1 n2 q);have sl:∀{b:Addr} {o:Obj},b≠e->s.heap.get? b=some o->∃x,h2.get? b=some { o with slots:=x }:=fun {b o} n1 q=>let ⟨x,q'⟩:=N.slot b o n1 q;⟨x,(k2 b (nT q)).trans q'⟩;refine I.step rfl I.bare (.refl F) (fun a o q=>?_) (fun a o k _ q=>?_) (fun m hn=>Bw (fun o q=>sl (fun z=>ke (z ▸ .inr (.inl rfl))) q) hn) (I.r.to (.refl F) fun i t a e1 e2=>?_)
 .obtain⟨q1,q2⟩:=I.f a o q;exact⟨kk (fun z=>by rw[z,fe]at q;cases q) (fun z=>q2 (I.stackKp z)) q1,q2⟩
 .have ne:a≠e:=fun z=>ke (z ▸ k);by_cases hb:a∈A4 X.stack
  .obtain⟨x,q'⟩:=sl ne q;exact⟨x,q',fun z=>absurd hb z⟩
  .exact .same (kk ne hb q)
 .obtain⟨b,g1,w⟩:=I.r.ow i t e1;rw[e2]at g1;cases g1;exact⟨w.f,fun x=>kk (w.neX he hd) fun z=>w.k (I.stackKp z)⟩
end
structure Rb(k:Nat)(A:Around):Prop where
 hd:A.handled=none
 dp:A.depth+3 * k+5<recursionLimit
 un:A.units+16 * k+200<cLine
 gd:A.guards=some []
theorem Rb.mono{j k:Nat}{A:Around}(r:Rb k A)(h:j<=k):Rb j A:=⟨r.hd,by have:=r.dp;omega,by have:=r.un;omega,r.gd⟩
theorem Rb.deeper{k:Nat}{A:Around}(r:Rb (k+1) A)(env:Env):Rb k (A.deeper env) :=
 ⟨r.hd,by have:=r.dp;show A.depth+1+3 * k+5<_;omega,by have:=r.un;show A.units+3+16 * k+200<_;omega,r.gd⟩
theorem args_get:∀{as:List A} {p:P} {sl:List Sl},args p as=some sl->sl.length=as.length/\(∀(i:Nat) (s:Sl),sl[i]?=some s->(∃t,as[i]?=some (.t t)/\s=.f t)\/∃j t,as[i]?=some (.s j)/\s=.o t/\p[j]?=some (.o t)) /\
  (∀(i:Nat) (j:Nat),as[i]?=some (.s j)->∃t,sl[i]?=some (.o t)/\p[j]?=some (.o t))/\∀(i k j:Nat),as[i]?=some (.s j)->as[k]?=some (.s j)->i=k
 | [],p,sl,e=>by cases e;exact⟨rfl,fun i s h=>by simp at h,fun i j h=>by simp at h,fun i k j h=>by simp at h⟩
 | .t t::r,p,sl,e=>by
  obtain⟨q,e1,rfl⟩:=Y7.mp (show (args p r).map (.f t::·)=some sl from e);obtain⟨h1,h2,h3,h4⟩:=args_get e1;refine⟨by rw[M5,M5,h1],fun i s h=>?_,fun i j h=>?_,fun i k j a b=>?_⟩
  .cases i with
   | zero=>cases(Nf h);exact .inl ⟨t,rfl,rfl⟩
   | succ i=>exact h2 i s h
  .cases i with
   | zero=>cases h
   | succ i=>exact h3 i j h
  .cases i with
   | zero=>cases a
   | succ i=>cases k with
    | zero=>cases b
    | succ k=>exact congrArg _ (h4 i k j a b)
 | .s l::r,p,sl,e=>by
  unfold args at e
  split at e
  .rename_i t et
   obtain⟨q,e1,rfl⟩:=Y7.mp e;obtain⟨h1,h2,h3,h4⟩:=args_get e1
   have up:∀{j:Nat} {u:T},(p.set l .no)[j]?=some (Sl.o u)->j≠l/\p[j]?=some (Sl.o u):=fun {j u} h=>by
    rcases Vq h with ⟨_,z⟩ | h
    .cases z
    .exact h
   refine⟨by rw[M5,M5,h1],fun i s h=>?_,fun i j h=>?_,fun i k j a b=>?_⟩
   .cases i with
    | zero=>cases(Nf h);exact .inr ⟨l,t,rfl,rfl,et⟩
    | succ i=>exact(h2 i s h).imp id fun⟨j,u,g1,g2,g3⟩=>⟨j,u,g1,g2,(up g3).2⟩
   .cases i with
    | zero=>cases h;exact⟨t,rfl,et⟩
    | succ i=>obtain⟨u,g1,g2⟩:=h3 i j h;exact⟨u,g1,(up g2).2⟩
   .cases i with
    | zero=>cases a;cases k with
     | zero=>rfl
     | succ k=>obtain⟨u,_,g2⟩:=h3 k l b;exact absurd rfl (up g2).1
    | succ i=>cases k with
     | zero=>cases b;obtain⟨u,_,g2⟩:=h3 i l a;exact absurd rfl (up g2).1
     | succ k=>exact congrArg _ (h4 i k j a b)
  .cases e
theorem Q3:∀{as:List A} {sl:List Sl} {p0 p q:P} {ts:ZZ},args p0 as=some sl->De sl q=some ts ->
  ∃p2,outs p as ts=some p2/\p2.length=p.length/\∀(i:Nat) (s:Sl),p2[i]?=some s->(p[i]?=some s/\∀k:Nat,as[k]?≠some (.s i))\/∃(k:Nat) (x:Sl),as[k]?=some (.s i)/\q[k]?=some x/\s=mkO (leftT x)
 | [],sl,p0,p,q,ts,e,eo=>by
  cases e;have:ts=[]:=by cases q<;>(cases eo;rfl)
  subst this;exact⟨p,rfl,rfl,fun i s h=>.inl ⟨h,fun k z=>by simp at z⟩⟩
 | .t t::r,sl,p0,p,q,ts,e,eo=>by
  obtain⟨sl',e1,rfl⟩:=Y7.mp (show (args p0 r).map (.f t::·)=some sl from e);cases q with
  | nil=>cases eo
  | cons x q =>
  obtain⟨p2,h1,h2,h3⟩:=Q3 (p:=p) e1 (show De sl' q=some ts from eo);refine⟨p2,h1,h2,fun i s h=>?_⟩;rcases h3 i s h with ⟨a,b⟩ | ⟨k,y,a,b,c⟩
  .refine .inl ⟨a,fun k z=>?_⟩;cases k with
   | zero=>cases z
   | succ k=>exact b k z
  .exact .inr ⟨k+1,y,a,b,c⟩
 | .s l::r,sl,p0,p,q,ts,e,eo=>by
  unfold args at e
  split at e
  .rename_i t et
   obtain⟨sl',e1,rfl⟩:=Y7.mp e;cases q with
   | nil=>cases eo
   | cons x q =>
   obtain⟨Bz,e2,rfl⟩:=Y7.mp (show (De sl' q).map (leftT x::·)=some ts from eo);obtain⟨p2,h1,h2,h3⟩:=Q3 (p:=p.set l (mkO (leftT x))) e1 e2;refine⟨p2,h1,h2.trans (XX ..),fun i s h=>?_⟩;rcases h3 i s h with ⟨a,b⟩ | ⟨k,y,a,b,c⟩
   .rcases Vq a with ⟨z1,z2⟩ | ⟨n,a⟩
    .exact .inr ⟨0,x,by rw[z1];rfl,rfl,z2⟩
    .refine .inl ⟨a,fun k z=>?_⟩;cases k with
     | zero=>cases z;exact n rfl
     | succ k=>exact b k z
   .exact .inr ⟨k+1,y,a,b,c⟩
  .cases e
theorem mkO_o{x:Sl}{t:T}(h:mkO (leftT x)=.o t):x=.o t:=by
 cases x with
 | o u=>cases u<;>cases h<;>rfl
 | f u=>cases h
 | no=>cases h
theorem Pk:∀{as:List A} {p:P},(Ex p as).length=p.length/\∀(i:Nat) (s:Sl),(Ex p as)[i]?=some s->(p[i]?=some s/\∀k:Nat,as[k]?≠some (.s i))\/s=.no
 | [],p=>⟨rfl,fun i s h=>.inl ⟨h,fun k z=>by simp at z⟩⟩
 | .t t::r,p=>by
  obtain⟨h1,h2⟩:=Pk (as:=r) (p:=p);refine⟨h1,fun i s h=>(h2 i s h).imp (fun⟨a,b⟩=>⟨a,fun k z=>?_⟩) id⟩;cases k with
  | zero=>cases z
  | succ k=>exact b k z
 | .s l::r,p=>by
  obtain⟨h1,h2⟩:=Pk (as:=r) (p:=p.set l .no);refine⟨h1.trans (XX ..),fun i s h=>?_⟩;rcases h2 i s h with ⟨a,b⟩ | z
  .rcases Vq a with ⟨_,z⟩ | ⟨n,a⟩
   .exact .inr z
   .refine .inl ⟨a,fun k z=>?_⟩;cases k with
    | zero=>cases z;exact n rfl
    | succ k=>exact b k z
  .exact .inr z
def CE(X:Cx)(F:OM)(p:P)(l:Vs)(as:List A)(R:Sl×ZZ->Prop)(v:Value)(s':Shared):Prop:=∃F' p2 r ts,Le F F'/\outs p as ts=some p2/\Inv X F' p2 l s'/\Res X F' p2 l s'.heap r v/\R (r,ts)
def CX(X:Cx)(F:OM)(p:P)(l:Vs)(as:List A)(R:x2->Prop)(v:Value)(s':Shared):Prop:=∃F' e c t,v=.ref e/\Le F F'/\Inv X F' (Ex p as) l s'/\Exa X F' s'.heap e c t/\R (c,t)
def FnP(g:Md)(C:Cs)(k:Nat)(f:Str):Prop:=∀(a:Addr),g.mg f=some (.ref a)->∀(X:Cx) (F:OM) (p:P) (l:Vs) (s:Shared) (as:List A) (us:ZK) (sl:List Sl) (R:Sl×ZZ->Prop) (Xe:x2->Prop),X.toMd=g->Rb k X.A->Inv X F p l s->Paired (Ar X F l) as us->args p as=some sl->C f sl R Xe ->
 wpAny (model X.prog X.w) X.A (call (.ref a) us) (CE X F p l as R) (CX X F p l as Xe) s
noncomputable def start(N:ZG)(us:ZK):Vs:=us.map some++List.replicate (N.length - us.length) none
abbrev Al(as:List A)(i:Nat):Prop:=∃k:Nat,as[k]?=some (.s i)
noncomputable def Fq(X:Cx)(F:OM)(p:P)(l:Vs)(s:Shared)(as:List A)(sl:List Sl)(us:ZK)(N:ZG)(qual:Str)(scope:Scope)(f:Addr)(cd:Value)(xe:ZQ):Cx where
 toMd:=X.toMd
 A:=X.A.deeper (envOfC qual scope s.heap.objs.size f cd)
 N:=N
 env:=envOfC qual scope s.heap.objs.size f cd
 outer:=X.stack
 stack:=envOfC qual scope s.heap.objs.size f cd::X.stack
 own:=true
 calm:=true
 os:=s.os
 G:=GG F p l (Al as) s.heap
 F0:=F
 σ0:=start N us
 pt:=Yv sl
 xe:=xe
section
variable{X:Cx}{F:OM}{p:P}{V:Vs}{s s1:Shared}{as:List A}{sl:List Sl}{us:ZK}{N ps:ZG}{qual:Str}{scope:Scope}{f:Addr}{cd:Value}{xe:ZQ}
theorem sub_cx:Sub X F p V s (Al as) (Fq X F p V s as sl us N qual scope f cd xe):=⟨rfl,rfl,rfl,rfl,rfl⟩
theorem V7{i:Nat}(h:i<us.length):(start N us)[i]?=some (us[i]?):=by
 unfold start;rw[List.getElem?_append_left (by rw[Y9];exact h),lg,Lh h]
 rfl
theorem jy(I:Inv X F p V s)(S:Ml N ps scope)(hd:X.A.handled=none)(ar:Paired (Ar X F V) as us)(ea:args p as=some sl)(hl:us.length=ps.length)
  (x:InCallC s s.heap.objs.size (bindL (envOfC qual scope s.heap.objs.size f cd).kindOf (ps.zip us) fun _=>none) (cellsFrom (s.heap.objs.size+1) scope.names []) (bindC (envOfC qual scope s.heap.objs.size f cd).kindOf (ps.zip us) fun _=>none) s1) :
  Inv (Fq X F p V s as sl us N qual scope f cd xe) F (sl++List.replicate (N.length - sl.length) .no) (start N us) s1:=by
 have hpl:ps.length<=N.length:=by have:=congrArg List.length S.pre;rw[j7]at this;omega
 obtain⟨h1,tk,rfl,hk⟩:=x.done;obtain⟨a1,a2,a3,a4⟩:=args_get ea;have al:=ar.length;have new:∀{b:Addr},s.heap.objs.size<=b->s.heap.get? b=none:=fun h=>Heap.get?_none_of_le h
 have mn:∀{b:Addr},(Fq X F p V s as sl us N qual scope f cd xe).mn b->s.heap.get? b=none:=fun {b} h=>by
  rcases h with rfl | ⟨_,y,e⟩
  .exact new (N4 _)
  .exact new (Nat.le_of_lt (x.above y b (PySem.mem_of_lookup e)))
 have nokp:∀{b:Addr} {o:Obj},s.heap.get? b=some o->GG F p V (Al as) s.heap b=none->¬ (Fq X F p V s as sl us N qual scope f cd xe).kp b:=fun {b o} e g h=>by
  rcases h with h | h
  .exact h g
  .rw[mn h]at e;cases e
 have sz:∀{i:Nat} {q:Sl},(sl++List.replicate (N.length - sl.length) Sl.no)[i]?=some q->q≠.no->sl[i]?=some q/\i<us.length:=fun {i q} h n=>by
  rw[List.getElem?_append]at h
  split at h
  .rename_i hi;exact⟨h,by omega⟩
  .rw[List.getElem?_replicate]at h
   split at h
   .cases h;exact absurd rfl n
   .cases h
 have own:∀{i:Nat} {t:T},sl[i]?=some (Sl.o t)->∃j a,as[i]?=some (.s j)/\p[j]?=some (Sl.o t)/\us[i]?=some (.ref a)/\V[j]?=some (some (.ref a))/\Ce X F s.heap a t:=fun {i t} h=>by
  rcases a2 i _ h with ⟨u,_,z⟩ | ⟨j,u,h2,z,h3⟩
  .cases z
  .cases z;obtain⟨v,hv,r⟩:=V8 ar h2;obtain⟨a,g1,w⟩:=I.r.ow j t h3;rw[show V[j]?=some (some v) from r]at g1;cases g1;exact⟨j,a,h2,h3,hv,r,w⟩
 refine⟨⟨I.ok.mod,S.kind,rfl,rfl, ?_,fun y z c e1 e2=>name_of_addr x.apart (PySem.mem_of_lookup e1) (PySem.mem_of_lookup e2),fun y hy=>?_,fun _=>hd,Around.frames_deeper I.ok.frames,.inr ⟨rfl,rfl⟩,fun a o e=>I.le a o (I.ok.b a o e),fun b hb=>?_,fun a ma=>Pa (mn ma),fun y c _=>.inl rfl⟩,
  rfl,I.bare,.refl F,fun a o e=>?_,fun a o e=>.same (hk a o ?_),Gv (fun b _ o e=>⟨o.slots,hk b o e⟩) I.stack,⟨_,x.toInCall.ns,fun i y v e1 e2=>?_⟩,fun y c e=>⟨_,x.cell y c e⟩, ?_, ?_,fun _ _=>rfl⟩
 .exact Nat.le_of_lt (N0o I.ok.ab I.lt)
 .have hy:scope.names.lookup y=some .cell\/scope.names.lookup y=some .free:=hy;rcases hy with hy | hy
  .exact Bo hy
  .exact absurd rfl (S.nofree _ (PySem.mem_of_lookup hy))
 .have k:=I.stackKp hb;obtain⟨o,e⟩:=I.kpAt k;rw[show (Fq X F p V s as sl us N qual scope f cd xe).G b=some o from Bg (I.kpF k) (fun i t _ q1 q2=>?_) e]
  .exact fun z=>nomatch z
  .obtain⟨c,g1,w⟩:=I.r.ow i t q1;rw[q2]at g1;cases g1;exact w.k k
 .obtain⟨h1,_⟩:=I.f a o e;exact⟨hk a o h1,nokp h1 (Eh (by rw[e];exact fun z=>nomatch z))⟩
 .have e:GG F p V (Al as) s.heap a=some o:=e;unfold GG at e
  split at e
  .cases e
  .exact e
 .have hi:i<us.length:=by
   refine Nat.lt_of_not_le fun z=>?_;unfold start at e2;rw[List.getElem?_append_right (by simpa using z),List.getElem?_replicate]at e2
   split at e2<;>cases e2
  rw[V7 hi]at e2;have hu:=Nf e2
  have hp:ps[i]?=some y:=by
   rw[<-S.pre,List.getElem?_take_of_lt (by omega)];exact e1
  have ndP:ps.Nodup:=by rw[<-S.pre];exact S.nd.sublist (List.take_sublist _ _)
  rcases S.par y (List.mem_of_getElem? hp) with k | k
  .exact .inl ⟨k,T5 ndP hp hu k⟩
  .obtain⟨c,e⟩:=Bo (n:=s.heap.objs.size+1) k;refine .inr ⟨.inl k,c,e, ?_⟩;have q:=x.cell y c e;rw[T6 ndP hp hu (by show scope.names.lookup y≠_;rw[k];decide)]at q;exact q
 .unfold start;show _=N.length;rw[Nb,Y9,List.length_replicate];omega
 .refine⟨fun i t e=>?_,fun i t e=>?_,fun i j t u a e1 e2 g1 g2=>?_, ?_⟩
  .obtain⟨e,hi⟩:=sz e fun z=>nomatch z;rcases a2 i _ e with ⟨u,h2,z⟩ | ⟨j,u,h2,z,_⟩
   .cases z;obtain⟨v,hv,r⟩:=V8 ar h2;exact⟨v,by rw[V7 hi,hv],r⟩
   .cases z
  .obtain⟨e,hi⟩:=sz e fun z=>nomatch z;obtain⟨j,a,h2,h3,h4,h5,w⟩:=own e;obtain⟨o,eo⟩:=w.at;exact⟨a,by rw[V7 hi,h4],w.c,w.f,nokp eo (xv ⟨i,h2⟩ h3 h5),(w.t.to (D':=h1.get?) w.c (hk a))⟩
  .obtain⟨e1,i1⟩:=sz e1 fun z=>nomatch z;obtain⟨e2,i2⟩:=sz e2 fun z=>nomatch z;obtain⟨k,b,h2,h3,h4,h5,_⟩:=own e1;obtain⟨l,c,h2',h3',h4',h5',_⟩:=own e2;rw[V7 i1,h4]at g1;cases g1;rw[V7 i2,h4']at g2;cases g2;have z:=I.r.ap k l t u a h3 h3' h5 h5';subst z;exact a4 i j k h2 h2'
  .unfold start;simp only[Nb,Y9,List.length_replicate];omega
end
end PV
namespace L2
open PySem PySem.Spec PyProof.Rows
section
variable{K:W.Frag}{C x:Addr}{M:Model}{h:Heap}{f:Str}{o:Obj}
end
end L2
namespace PV
open PySem PySem.Spec PyProof.Rows L2
section
variable{X:Cx}{F:OM}{p:P}{l:Vs}{s:Shared}{d:ExcD}{C fi:Addr}{t:T}{u:Value}
end
def Fo(X:Cx)(F:OM)(p:P)(l:Vs)(h:Heap)(D:En):Flow->Prop
 | .next=>D.nx p
 | .brk=>D.bk p
 | .cont=>D.ct p
 | .ret v=>∃r,Res X F p l h r v/\D.rt r p
def SP(X:Cx)(F:OM)(D:En)(fl:Flow)(s':Shared):Prop:=∃F' p' σ',Le F F'/\Inv X F' p' σ' s'/\Fo X F' p' σ' s'.heap D fl
def SB(w:W)(b:S)(X:Cx)(xs:List Stmt):Prop:=∀(F:OM) (p:P) (l:Vs) (s:Shared) (D:En),Inv X F p l s->wS w X.pt b p D->WP X (execs xs X.env) (SP X F D) s
def SS(w:W)(b:S)(X:Cx)(st:Stmt):Prop:=∀(F:OM) (p:P) (l:Vs) (s:Shared) (D:En),Inv X F p l s->wS w X.pt b p D->WP X (exec st X.env) (SP X F D) s
theorem SP.le{X:Cx}{F0 F:OM}{D:En}{fl:Flow}{s':Shared}(l:Le F0 F)(h:SP X F D fl s'):SP X F0 D fl s':=let ⟨F',p',σ',l',h⟩:=h;⟨F',p',σ',l.trans l',h⟩
def Zz5(X:Cx)(w:W):Prop:=∀(F:OM) (p:P) (l:Vs) (s:Shared) (e:Addr) (c:Str) (t:T),Inv X F p l s->Exa X F s.heap e c t->w.xe (c,t) p->X.xe (.ref e) s
noncomputable def Mx:ZG:=["len","all","any","list","tuple","min","max","int","abs","dict","isinstance","sorted","set","range","zip","enumerate","sum","repr","str","bool"]
def TopF(g:Md)(x:Str)(XY:ZX):Prop:=∃a vs,g.mg x=some (.ref a)/\g.base.DictOf (Zp g.prog g.w) a vs/\(a == sysModules)=false/\vs.length<=sizeLine/\Yo g g.base.get? XY vs
structure BN(g:Md):Prop where
 b:∀x∈Mx,g.mg x=none
 d:∀x∈W2,∃a,g.mg x=some (.ref a)/\W.keepIn g.K (.ref a)=true
 t:∀x XY,Lu x=some XY->TopF g x XY
structure Ct(X:Cx)(w:W)(k:Nat)(N:ZG)(sc:ZW):Prop where
 nN:X.N=N
 nd:N.Nodup
 nm:∀x c,sc.lookup x=some c->X.env.scope.names.lookup x=some c\/(c=.free/\X.env.scope.names.lookup x=some .cell)
 room:X.calm=true->Rb k X.A
 un:X.A.units+150<cLine
 gd:X.A.guards=some []
 bn:BN X.toMd
 fn:∀f as R Xe,w.C f as R Xe->FnP X.toMd w.C k f
 gl:∀x t,w.gl x=some t->∃v,X.mg x=some v/\IsT X.toMd X.base.get? t v
 xe:Zz5 X w
 cl:∀x,sc.lookup x=some .cell->X.own=true
 calm:X.calm=true
section
variable{X:Cx}{F:OM}{p:P}{l:Vs}{s s1:Shared}{as:List A}{sl:List Sl}{us:ZK}{N ps:ZG}{qual:Str}{scope:Scope}{f:Addr}{cd:Value}{xe:ZQ}{R:Sl×ZZ->Prop}{Xe:x2->Prop}
theorem m5{Y:Cx}{F':OM}{q:P}{τ:Vs}{s':Shared}{e:Addr}{c:Str}{t:T}{M:Model}{Q:ZH}{E:ZQ}(J:Inv Y F' q τ s')(x:Exa Y F' s'.heap e c t)(N6:Y.stack=Y.env::Y.outer)(Nl:Y.env.frame=some Y.env.locals)
  (k:∀h',Inv Y F' q τ { s' with heap:=h' }->Exa Y F' h' e c t->Q () { s' with heap:=h' }):wpAny M Y.A (leaving Y.env (.ref e)) Q E s':=by
 obtain⟨o,u,vs,he,hx,ht,hd,qv⟩:=x.ex;have fr:Y.A.frames=some (Y.env::Y.outer):=by rw[J.ok.frames,N6]
 have hl:s'.heap.FunFrames Y.base (Y.env::Y.outer):=by rw[<-N6];exact J.stack
 refine EX.m6 fr hl Nl he hd qv fun g1 g2 T' N k2 qv2=>?_;have nT:e≠T':=fun z=>Nat.lt_irrefl _ (N0l (Mv (z ▸ he)) N.new);refine k g2 (J.noted (T':=T') x.f x.k he hd (by rw[N6];exact N) k2) ⟨x.f,x.k,_,u,_,(k2 e nT).trans N.exc,hx.tb,ht,Obj.data_mapFields hd _,qv2⟩
theorem ja{Y:Cx}(I:Inv X F p l s)(S:Sub X F p l s (Al as) Y)(ea:args p as=some sl)(ar:Paired (Ar X F l) as us)(hpt:Y.pt=Yv sl)(hσ:Y.σ0=start N us){F':OM}{q:P}{τ:Vs}{s':Shared}(J:Inv Y F' q τ s'){ts:ZZ}(eo:De sl q=some ts) :
  ∃p2,outs p as ts=some p2/\Le F F'/\Inv X F' p2 l s'/\∀r v,Res Y F' q τ s'.heap r v->Res X F' p2 l s'.heap r v:=by
 obtain⟨a1,a2,a3,a4⟩:=args_get ea;obtain⟨p2,o1,o2,o3⟩:=Q3 (p:=p) ea eo;refine⟨p2,o1,I.exit (ι:=fun k=>match as[k]? with | some (.s i)=>some i | _=>none) S J (fun i t e=>?_) (fun i t e=>?_) o2⟩
 .rcases o3 i _ e with ⟨h,_⟩ | ⟨k,x,_,_,z⟩
  .exact .inl h
  .exact absurd z.symm mkO_f
 .rcases o3 i _ e with ⟨h,n⟩ | ⟨k,x,h1,h2,z⟩
  .exact .inl ⟨h,fun⟨k,hk⟩=>n k hk⟩
  .obtain⟨u,g1,g2⟩:=a3 k i h1;obtain⟨v,hv,r⟩:=V8 ar h1;refine .inr ⟨k,by rw[h2,mkO_o z.symm], ?_,by rw[h1]⟩;rw[J.pr k (by rw[hpt];unfold Yv;rw[g1]),hσ,V7 (wt.mp hv).1,hv];exact r.symm
theorem ju{Y:Cx}(I:Inv X F p l s)(S:Sub X F p l s (Al as) Y){F':OM}{q:P}{τ:Vs}{s':Shared}(J:Inv Y F' q τ s'):Le F F'/\Inv X F' (Ex p as) l s':=by
 obtain⟨o2,o3⟩:=Pk (as:=as) (p:=p);have:=I.exit (p2:=Ex p as) (ι:=fun _=>none) S J (fun i t e=>(o3 i _ e).elim (fun h=>.inl h.1) fun z=>nomatch z) (fun i t e=>(o3 i _ e).elim (fun h=>.inl ⟨h.1,fun⟨k,hk⟩=>h.2 k hk⟩) fun z=>nomatch z) o2;exact⟨this.1,this.2.1⟩
end
structure Zc(K:W.Frag)(x:Str)(st:Stmt)(f:Addr)(fd:FuncData):Prop where
 ex:∃(oc:Value) (od:ZR) (kV doc pm:Value) (an:ZR) (cdv ct:Value) (osl:ZY),fd=W.fnOf x x (Bh st) (Us st) (Zf st) .none kV doc pm an cdv ct/\K.lookup f=some ⟨oc,od,.func fd,osl⟩/\W.codeIn K cdv x=true
 kp:W.keepIn K (.ref f)=true
theorem fn_of{g:Md}{x:Str}{st:Stmt}{f:Addr}{fd:FuncData}{N ps:ZG}{k:Nat}{d:Df}{C C':Cs}{gl:Str->Option T}(Fn:Zc g.K x st f fd)(hm:g.mg x=some (.ref f))(S:Ml N ps (Zf st))(hn:N.length=d.n)(ha:ps.length=d.ar)(hb:Binds g.K fd ps [])
  (hC:∀as R Xe,C' x as R Xe->L0 d ⟨C,gl,fun e _=>Xe e⟩ as R)
  (body:∀(Y:Cx) (w:W),Y.toMd=g->Y.env.scope=Zf st->Y.N=N->Y.own=true->Y.calm=true->Y.stack=Y.env::Y.outer->Y.env.frame=some Y.env.locals->Rb k Y.A->w.C=C->w.gl=gl->Zz5 Y w->PassesOwn (model Y.prog Y.w) Y.A Y.env Y.xe->SB w d.code Y (Us st)):FnP g C' (k+1) x:=by
 intro f' Gu X F p V s as us sl R Xe hX hr I ar ea hc;subst hX;have e0:f=f':=by rw[hm]at Gu;cases Gu;rfl
 subst e0;have hc:=hC sl R Xe hc;unfold L0 at hc;obtain⟨oc,od,kV,doc,pm,an,cdv,ct,osl,rfl,lk,jb⟩:=Fn.ex;obtain⟨a1,a2,a3,a4⟩:=args_get ea;have al:=ar.length
 split at hc
 rotate_left
 .exact hc.elim
 rename_i hal
 have hl:us.length=ps.length:=by omega
 have KX:X.K.In s.heap:=I.kIn;have lim:s.heap.NoLimit:=I.ok.mod.nolimit.keeps I.bk
 have hkind:∀y∈ps.zip us,(Zf st).names.lookup y.1=some .local\/((Zf st).names.lookup y.1=some .cell/\((cellsFrom (s.heap.objs.size+1) (Zf st).names []).lookup y.1).isSome=true):=fun⟨n,v⟩ hy=>by
  rcases S.par n (List.of_mem_zip hy).1 with q | q
  .exact .inl q
  .exact .inr ⟨q,PySem.W.cellsFrom_some _ _ _ (.inl q)⟩
 have bb:=hb s us KX (by rw[ZE];exact hl);rw[ZE]at bb;refine wpAny_call (codeAny_mono (R:=fun r s'=>match r with | .ok (.ret v)=>CE X F p V as R v s' | .ok _=>False | .error e=>CX X F p V as Xe e s') ?_ fun r s' hq=>hq);refine codeAny_call_function (by have:=hr.dp;omega) (KX _ _ lk) rfl S.co S.gen rfl (PySem.W.codeRec_of KX jb) (bb _ _ _ _ ?_);refine wpAny_newFunctionEnv_cells S.kind hkind fun env he s1 x1=>?_;subst he;refine⟨lim.keeps x1.toInCall.keep,codeAny_func ?_⟩
 let xe:ZQ:=fun e s'=>wpAny (model X.prog X.w) (X.A.deeper (envOfC x (Zf st) s.heap.objs.size f cdv)) (leaving (envOfC x (Zf st) s.heap.objs.size f cdv) e) (fun _ s''=>CX X F p V as Xe e s'') (fun e' s''=>CX X F p V as Xe e' s'') s'
 have I1:Inv (Fq X F p V s as sl us N x (Zf st) f cdv xe) F _ (start N us) s1:=jy I S hr.hd ar ea hl x1;have sub:Sub X F p V s (Al as) (Fq X F p V s as sl us N x (Zf st) f cdv xe):=sub_cx
 have hx:Zz5 (Fq X F p V s as sl us N x (Zf st) f cdv xe) ⟨C,gl,fun e _=>Xe e⟩:=fun F' q τ s' e c t J ex hw=>m5 J ex rfl rfl fun h' J' ex'=>by
  obtain⟨l,J2⟩:=ju I sub J';exact⟨F',e,c,t,rfl,l,J2,ex'.ofY sub I,hw⟩
 have hN:N.length - sl.length=d.n - d.ar:=by omega
 rw[hN]at I1;refine wpAny_mono (body (Fq X F p V s as sl us N x (Zf st) f cdv xe) ⟨C,gl,fun e _=>Xe e⟩ rfl rfl rfl rfl rfl rfl rfl (hr.deeper _) rfl rfl hx PassesOwn.leaving F _ _ s1 _ I1 hc) (fun fl s' ⟨F',q,τ,l,J,fo⟩=>?_) fun e s' hs=>hs
 have fin:∀{r:Sl} {v:Value},Res (Fq X F p V s as sl us N x (Zf st) f cdv xe) F' q τ s'.heap r v->on (fin sl r q) R->CE X F p V as R v s':=fun {r v} rs h=>by
  obtain⟨z,e,h⟩:=Z9 h;obtain⟨ts,e2,rfl⟩:=Y7.mp e;obtain⟨p2,o1,l2,J2,rr⟩:=ja I sub ea ar rfl rfl J e2;exact⟨F',p2,r,ts,l2,o1,J2,rr r v rs,h⟩
 cases fl with
 | ret u=>obtain⟨r,rs,h⟩:=fo;exact fin rs h
 | next=>exact fin (r:=.f .non) (v:=Value.none) Top.non fo
 | brk=>exact fo.elim
 | cont=>exact fo.elim
section
variable{X:Cx}{w:W}{k:Nat}{N:ZG}{sc:ZW}{es:E}{xs:ZM}{f:Str}{pos q:Pos}{F:OM}{p:P}{V:Vs}{s:Shared}
theorem yo(c:Ct X w k N sc)(hc:X.calm=true){as:List A}{us:ZK}{Q:Sl->P->Prop}{a:Addr}(hm:X.mg f=some (.ref a))(I:Inv X F p V s)(ar:Paired (Ar X F V) as us)(h:wC w f as p Q):WP X (call (.ref a) us) (EP X F V Q) s:=by
 obtain⟨sl,ea,h⟩:=Z9 h;refine wpAny_mono (c.fn _ _ _ _ h a hm X F p V s as us sl _ _ rfl (c.room hc) I ar ea h) (fun v s' ⟨F',p2,r,ts,l,e,J,rs,q⟩=>?_) fun v s' ⟨F',e,c',t,ev,l,J,x,q⟩=>?_
 .obtain⟨p3,e3,q⟩:=Z9 q;have e3:outs p as ts=some p3:=e3;rw[e]at e3;cases e3;exact⟨F',p2,r,l,J,rs,q⟩
 .subst ev;exact c.xe F' _ V s' e c' t J x q
theorem Ct.gi(c:Ct X w k N sc){x:Str}(h:sc.lookup x=some .globalImplicit):Gl X x:=by
 rcases c.nm x _ h with e | ⟨z,_⟩
 .exact e
 .cases z
theorem ug{x:Expr}(c:Ct X w k N sc)(hc:X.calm=true)(hg:sc.lookup f=some .globalImplicit)(hd:(f == ("__debug__" : Str))=false)(hf:f∈W2)(hs:Hs X w false es (x::xs)):SE w (.call f es) X (.Call (.Name f q) (x::xs) [] pos):=fun F p V s Q I h=>by
 obtain⟨a,hm,kp⟩:=c.bn.d f hf;refine wpAny_Call_Name_kw (Pf I (c.gi hg) hm hd ?_);have st:=hs.star;refine PySem.W.callWith_K (h₀:=X.base) I.ok.mod.kin kp (Vh st (evs hs I h fun F1 p1 as us s1 l I1 ar _ q=>⟨I1.kIn, ?_⟩)) (Yd (st _ Yb)) (Vx xs X.env pos fun e m=>st e (Y5 _ m));exact Vz (yo c hc hm I1 ar q) fun v s2 q=>q.le l
theorem se_cal{i:Nat}{y:Str}{x:Expr}(c:Ct X w k N sc)(hc:X.calm=true)(n:Nm X i y)(hs:Hs X w false es (x::xs)):SE w (.cal i es) X (.Call (.Name y q) (x::xs) [] pos):=fun F p V s Q I h=>by
 unfold wE at h
 split at h
 .rename_i f e
  obtain⟨v,h1,h2⟩:=I.r.fz i _ e;cases h2 with | fn hm kp =>
  refine wpAny_Call_Name_kw (Dv n I h1 ?_);have st:=hs.star;refine PySem.W.callWith_K (h₀:=X.base) I.ok.mod.kin kp (Vh st (evs hs I h fun F1 p1 as us s1 l I1 ar _ q=>⟨I1.kIn, ?_⟩)) (Yd (st _ Yb)) (Vx xs X.env pos fun e m=>st e (Y5 _ m));exact Vz (yo c hc hm I1 ar q) fun v s2 q=>q.le l
 .exact h.elim
end
section
variable{X:Cx}{F:OM}{p:P}{V:Vs}{s:Shared}{h':Heap}{i tk:Nat}{t t':T}{a:Addr}
theorem Inv.mut(I:Inv X F p V s)(e:p[i]?=some (Sl.o t))(e2:V[i]?=some (some (.ref a)))(hs:∀b o,b≠a->s.heap.get? b=some o->h'.get? b=some o)(c:B5 t'=true)(q:Top X.toMd F h'.get? t' (.ref a)):Inv X F (p.set i (.o t')) V { s with heap:=h',toks:=tk }:=by
 obtain⟨a',h1,w⟩:=I.r.ow i t e;rw[e2]at h1;cases h1
 have own:∀{j:Nat} {u:T},(p.set i (Sl.o t'))[j]?=some (Sl.o u)->(j=i/\u=t')\/(j≠i/\p[j]?=some (Sl.o u)):=fun {j u} q=>by
  rcases Vq q with ⟨z,y⟩ | z
  .cases y;exact .inl ⟨z,rfl⟩
  .exact .inr z
 refine I.step rfl I.bare (.refl F) (fun b o q=>?_) (fun b o k _ q=>.same (hs b o (fun z=>w.k (z ▸ k)) q)) (fun m hn=>Bw (fun o q=>⟨o.slots,hs _ o (Ne.symm w.ne) q⟩) hn) ⟨fun j u q=>?_,fun j u q=>?_,fun j l u u' b q1 q2 g1 g2=>?_,by rw[XX];exact I.r.ln⟩
 .obtain⟨q1,q2⟩:=I.f b o q;exact⟨hs b o (fun z=>by rw[z,w.f]at q;cases q) q1,q2⟩
 .rcases Vq q with ⟨_,z⟩ | ⟨_,q⟩
  .cases z
  .exact I.r.fz j u q
 .rcases own q with ⟨rfl,rfl⟩ | ⟨n,q⟩
  .exact⟨a,e2,c,w.f,w.k,by assumption⟩
  .obtain⟨b,g1,w2⟩:=I.r.ow j u q;exact⟨b,g1,w2.to (.refl F) w2.f fun x=>hs b x fun z=>n (I.r.ap j i u t b q e g1 (z ▸ e2))⟩
 .have old:∀{j:Nat} {u:T},(p.set i (Sl.o t'))[j]?=some (Sl.o u)->∃u',p[j]?=some (Sl.o u'):=fun {j u} q=>by
   rcases own q with ⟨rfl,_⟩ | ⟨_,q⟩
   .exact⟨t,e⟩
   .exact⟨u,q⟩
  obtain⟨u1,q1⟩:=old q1;obtain⟨u2,q2⟩:=old q2;exact I.r.ap j l u1 u2 b q1 q2 g1 g2
end
section
variable{g:Md}{F:OM}{XY:ZX}{vs:List (Key×Value)}{k:Key}{t:T}{v:Value}{a:Addr}{h:Heap}
theorem Ft.of(dd:h.DictOf (Zp g.prog g.w) a vs)(z:vs.length<=sizeLine)(ns:(a == sysModules)=false):∃o,h.get? a=some o/\Ft g a o vs:=let ⟨o,es,ep,e,ex,d,c,pr,nd⟩:=dd;⟨o,e,ex,⟨es,ep,d,c,pr⟩,nd,z,ns⟩
theorem Yo.put(it:IsT g F t v)(r:Yo g F XY vs):Yo g F (Ym XY k t) (stored vs k v):=by
 have hi:(XY.any fun p=>decide (p.1=k))=vs.any fun p=>decide (p.1=k):=by
  induction r with
  | nil=>rfl
  | cons q _ ih=>rw[List.any_cons,List.any_cons,ih,q.1]
 unfold Ym stored;rw[hi]
 split
 .refine pr_map (fun x y q=>?_) r;rw[q.1];by_cases e:y.1=k
  .rw[if_pos e,if_pos e];exact⟨rfl,it⟩
  .rw[if_neg e,if_neg e];exact q
 .exact Gn r (.cons ⟨rfl,it⟩ .nil)
end
noncomputable def locs(sc:ZW)(x:Str):Bool:=match sc.lookup x with
 | some .local=>true
 | some .cell=>true
 | _=>false
theorem xf{e:Expr}{es:ZM}{env:Env}(h:noStar e=true):assignEach (e::es) env=(false,assign e env)::assignEach es env:=by
 cases e<;>first | rfl | cases h
theorem W1:∀{es:ZM} {env:Env},(∀x∈es,noStar x=true)->(assignEach es env).length=es.length/\(assignEach es env).findIdx? (·.1)=none
 | [],env,_=>⟨rfl,rfl⟩
 | e::es,env,h=>by
  rw[xf (h e Yb)];obtain⟨h1,h2⟩:=W1 (env:=env) fun x m=>h x (Y5 _ m);exact⟨by rw[M5,M5,h1],by rw[List.findIdx?_cons,h2];rfl⟩
inductive Shp where
 | name(y:Str) | bin(a:Expr)(op:Operator)(b:Expr) | cmp(a:Expr)(ops:List CmpOp)(bs:ZM) | un(op:UnaryOp)(a:Expr) | sub(a b:Expr) | dct(ks:List (Option Expr))(vs:ZM)
 | callN (f:Str) (xs:ZM) | callA (o:Expr) (m:Str) (ap:Pos) (xs:ZM) (cp:Pos) | tup (xs:ZM) | lst (xs:ZM) | boo (o:BoolOp) (xs:ZM) (p:Pos) | ife (c a b:Expr) | lc (e:Expr) (g:List Comprehension) (s:Scope) | slc (l h s:Option Expr) | att (o:Expr) (m:Str) | non
noncomputable def shpC:Expr->ZM->List Keyword->Pos->Shp
 | .Name f _,xs,[],_=>.callN f xs
 | .Attribute o m ap,xs,[],cp=>.callA o m ap xs cp
 | _,_,_,_=>.non
noncomputable def C0:Expr->Shp
 | .Name y _=>.name y
 | .BinOp a op b _=>.bin a op b
 | .Compare a ops bs _=>.cmp a ops bs
 | .UnaryOp op a _=>.un op a
 | .Subscript a b _=>.sub a b
 | .Dict ks vs _=>.dct ks vs
 | .Call f xs ks cp=>shpC f xs ks cp
 | .Tuple xs _ _=>.tup xs
 | .List xs _=>.lst xs
 | .BoolOp o xs p=>.boo o xs p
 | .IfExp c a b _=>.ife c a b
 | .ListComp e g s _=>.lc e g s
 | .Slice l h s _=>.slc l h s
 | .Attribute o m _=>.att o m
 | _=>.non
def ShpI:Shp->Expr->Prop
 | .name y,x=>∃p,x=.Name y p
 | .bin a op b,x=>∃p,x=.BinOp a op b p
 | .cmp a ops bs,x=>∃p,x=.Compare a ops bs p
 | .un op a,x=>∃p,x=.UnaryOp op a p
 | .sub a b,x=>∃p,x=.Subscript a b p
 | .dct ks vs,x=>∃p,x=.Dict ks vs p
 | .callN f xs,x=>∃q p,x=.Call (.Name f q) xs [] p
 | .callA o m ap xs cp,x=>x=.Call (.Attribute o m ap) xs [] cp
 | .tup xs,x=>∃j p,x=.Tuple xs j p
 | .lst xs,x=>∃p,x=.List xs p
 | .boo o xs p,x=>x=.BoolOp o xs p
 | .ife c a b,x=>∃p,x=.IfExp c a b p
 | .lc e g s,x=>∃p,x=.ListComp e g s p
 | .slc l h s,x=>∃p,x=.Slice l h s p
 | .att o m,x=>∃p,x=.Attribute o m p
 | .non,_=>True
theorem pn(x:Expr):ShpI (C0 x) x:=by
 cases x
 case Call f xs ks cp =>
  cases f
  case Name=>cases ks with
   | nil=>exact⟨_,_,rfl⟩
   | cons _ _=>trivial
  case Attribute=>cases ks with
   | nil=>rfl
   | cons _ _=>trivial
  all_goals exact True.intro
 case BoolOp=>rfl
 case Tuple=>exact⟨_,_,rfl⟩
 all_goals first | exact⟨_,rfl⟩ | exact True.intro
theorem Yj{x:Expr}{s:Shp}(e:C0 x=s):ShpI s x:=e ▸ pn x
noncomputable def Dg(x:Expr):Option Str:=match C0 x with
 | .name y=>some y
 | _=>none
theorem Ux{x:Expr}{y:Str}(h:Dg x=some y):∃p,x=.Name y p:=by
 unfold Dg at h
 split at h
 .rename_i e
  cases h;exact Yj e
 .cases h
noncomputable def Cu(x:Expr):Option (ZM):=match C0 x with
 | .tup xs=>some xs
 | _=>none
theorem B1{x:Expr}{y:ZM}(h:Cu x=some y):∃j pos,x=.Tuple y j pos:=by
 unfold Cu at h
 split at h
 .rename_i e;cases h;exact Yj e
 .cases h
mutual
noncomputable def repG(N:ZG)(sc:ZW):E->Expr->Bool
 | .v i,x=>match Dg x with
  | some y=>N[i]? == some y && locs sc y
  | none=>false
 | .tup es,x=>match Cu x with
  | some xs=>Wq N sc es xs
  | none=>false
 | _,_=>false
noncomputable def Wq(N:ZG)(sc:ZW):E->ZM->Bool
 | .nil,[]=>true
 | .cons a r,x::xs=>noStar x && repG N sc a x && Wq N sc r xs
 | _,_=>false
end
section
variable{X:Cx}{w:W}{k:Nat}{N:ZG}{sc:ZW}
theorem Ct.loc(c:Ct X w k N sc){x:Str}(h:locs sc x=true):X.env.kindOf x=some .local\/(X.own=true/\X.env.kindOf x=some .cell):=by
 unfold locs at h
 split at h
 .rename_i e
  rcases c.nm x _ e with e | ⟨z,_⟩
  .exact .inl e
  .cases z
 .rename_i e
  rcases c.nm x _ e with e' | ⟨z,_⟩
  .exact .inr ⟨c.cl x e,e'⟩
  .cases z
 .cases h
theorem tf{es:E}:∀{xs:ZM} {ts:ZZ} {p p':P},Wq N sc es xs=true->K2 es ts p=some p'->ts.length=xs.length/\∀x∈xs,noStar x=true:=by
 induction es with
 | nil =>
  intro xs ts p p' h e;cases xs with
  | cons x xs=>cases(show false=true from h)
  | nil =>
  cases ts with
  | nil=>exact⟨rfl,fun x m=>absurd m J5⟩
  | cons t ts=>cases e
 | cons a r _ ih =>
  intro xs ts p p' h e;cases xs with
  | nil=>cases(show false=true from h)
  | cons x xs =>
  have h:(noStar x && repG N sc a x && Wq N sc r xs)=true:=h;simp only[Jx]at h;cases ts with
  | nil=>cases e
  | cons t ts =>
  obtain⟨q,_,e2⟩:=ZP.mp (show (asg a t p).bind (fun q=>K2 r ts q)=some p' from e);obtain⟨h1,h2⟩:=ih h.2 e2;refine⟨by rw[M5,M5,h1],fun y m=>?_⟩;rcases Ya.mp m with rfl | m
  .exact h.1.1
  .exact h2 y m
 | _=>intro xs ts p p' h;cases xs<;>cases(show false=true from h)
theorem Hp(c:Ct X w k N sc)(hc:X.calm=true):∀tg:E,
  (∀(x:Expr) (F:OM) (p p':P) (l:Vs) (s:Shared) (t:T) (u:Value) (Q:ZH),repG N sc tg x=true->Inv X F p l s->IsT X.toMd F t u->Ji X.pt tg=true->asg tg t p=some p'->(∀σ' s',Inv X F p' σ' s'->Q () s')->WP X (assign x X.env u) Q s) /\
  ∀(xs:ZM) (F:OM) (p p':P) (l:Vs) (s:Shared) (ts:ZZ) (us:ZK) (Q:ZH),Wq N sc tg xs=true->Inv X F p l s->Zo X.toMd F ts us->Ji X.pt tg=true->K2 tg ts p=some p'->(∀σ' s',Inv X F p' σ' s'->Q () s') ->
   WP X (assignInOrder ((assignEach xs X.env).map (·.2)) us) Q s:=by
 intro tg
 induction tg with
 | v i =>
  refine⟨fun x F p p' l s t u Q h I it ho e k=>?_,fun xs F p p' l s ts us Q h=>by cases xs<;>cases(show false=true from h)⟩;cases e;unfold repG at h
  split at h
  .rename_i y ey
   obtain⟨pos,rfl⟩:=Ux ey;rw[Jx,beq_iff_eq]at h;exact wpAny_assign_Name (Sf I (by rw[c.nN];exact c.nd) (by rw[c.nN];exact h.1) (c.loc h.2) (by simpa [Ji] using ho) (r:=.f t) it fun s' I'=>k _ s' I')
  .cases h
 | tup es ih =>
  refine⟨fun x F p p' l s t u Q h I it ho e k=>?_,fun xs F p p' l s ts us Q h=>by cases xs<;>cases(show false=true from h)⟩;unfold repG at h
  split at h
  .rename_i xs ex
   obtain⟨j,pos,rfl⟩:=B1 ex;cases t<;>first | cases e | skip
   rename_i ts
   obtain⟨a,us,rfl,z,tp,r⟩:=V3 I.fh it;obtain⟨hl,N6⟩:=tf h (show K2 es ts p=some p' from e);obtain⟨a1,a2⟩:=W1 (env:=X.env) N6;refine assign_Tuple_tuple (I.ok.hd hc) tp (by rw[Ul,a1, <-hl,r.length]) a2 fun h' hx=>?_;have I1:Inv X F p l { s with heap:=h' }:=I.more (t:=s.toks) (fun b o _ e=>hx b o (Fb (Mv e)) e) (fun m hn=>hn.keeps fun b o e=>hx b o (Fb (Mv e)) e) (.refl F) fun _ _ e=>.inl e;exact ih.2 xs F p p' l _ ts us Q h I1 r ho e k
  .cases h
 | nil =>
  refine⟨fun x F p p' l s t u Q h=>absurd (show false=true from h) Qv,fun xs F p p' l s ts us Q h I r ho e k=>?_⟩;cases xs with
  | cons x xs=>cases(show false=true from h)
  | nil =>
  cases ts with
  | nil=>cases e;cases r;exact assignInOrder_nil (k l s I)
  | cons t ts=>cases e
 | cons a r' ih1 ih2 =>
  refine⟨fun x F p p' l s t u Q h=>absurd (show false=true from h) Qv,fun xs F p p' l s ts us Q h I r ho e k=>?_⟩;cases xs with
  | nil=>cases(show false=true from h)
  | cons x xs =>
  have h:(noStar x && repG N sc a x && Wq N sc r' xs)=true:=h;simp only[Jx]at h;cases ts with
  | nil=>cases e
  | cons t ts =>
  cases r with | cons r1 r2 =>
  obtain⟨q,e1,e2⟩:=ZP.mp (show (asg a t p).bind (fun q=>K2 r' ts q)=some p' from e);have ho:(Ji X.pt a && Ji X.pt r')=true:=ho;rw[Jx]at ho;rw[xf h.1.1];exact assignInOrder_cons (ih1.1 x F p q l s t _ _ h.1.2 I r1 ho.1 e1 fun σ1 s1 I1=>ih2.2 xs F q p' σ1 s1 ts _ Q h.2 I1 r2 ho.2 e2 k)
 | _=>exact⟨fun x F p p' l s t u Q h=>absurd (show false=true from h) Qv,fun xs F p p' l s ts us Q h=>by cases xs<;>cases(show false=true from h)⟩
end
section
variable{X:Cx}{w:W}{k:Nat}{N:ZG}{sc:ZW}{a b c:E}{x y z:Expr}{pos:Pos}
theorem Inv.quiet{F:OM}{p:P}{l:Vs}{s:Shared}(I:Inv X F p l s):interactive X.env=false:=by simp[interactive,I.ok.kind]
theorem sb_nil:SB w .nil X []:=fun F p l s D I h=>wpAny_execs_nil ⟨F,p,l,.refl F,I,h⟩
theorem sb_seq{a r:S}{st:Stmt}{rest:List Stmt}(ha:SS w a X st)(hr:SB w r X rest):SB w (.seq a r) X (st::rest):=fun F p V s D I h=>by
 refine wpAny_execs_cons (Vz (ha F p V s _ I h) fun f s1 ⟨F1,p1,σ1,l,I1,q⟩=>?_);cases f with
 | next=>exact Vz (hr F1 p1 σ1 s1 D I1 q) fun _ _ q=>q.le l
 | ret v=>exact⟨F1,p1,σ1,l,I1,q⟩
 | brk=>exact⟨F1,p1,σ1,l,I1,q⟩
 | cont=>exact⟨F1,p1,σ1,l,I1,q⟩
theorem ss_ret(h:SE w a X x):SS w (.ret a) X (.Return (some x) pos):=fun F p V s D I hw=>wpAny_Return_some (Vz (h F p V s _ I hw) fun v s1 ⟨F1,p1,r,l,I1,rs,q⟩=>⟨F1,p1,V,l,I1,r,rs,q⟩)
theorem su:SS w (.ret (.k .non)) X (.Return none pos):=fun F p l s D I hw=>wpAny_Return_none ⟨F,p,l,.refl F,I,.f .non,Top.non,hw⟩
theorem ss_ex(h:SE w a X x)(hs:swapsWith x none pos.line X.env=pure false):SS w (.ex a) X (.Expr x pos):=fun F p V s D I hw=>wpAny_Expr_any (Vz (h F p V s _ I hw) fun v s1 ⟨F1,p1,r,l,I1,rs,q⟩=>⟨F1,p1,V,l,I1,q⟩) I.quiet hs
theorem so:SS w .pass X (.Pass pos):=fun F p l s D I hw=>wpAny_Pass ⟨F,p,l,.refl F,I,hw⟩
theorem ss_brk:SS w .brk X (.Break pos):=fun F p l s D I hw=>wpAny_Break ⟨F,p,l,.refl F,I,hw⟩
theorem si:SS w .cont X (.Continue pos):=fun F p l s D I hw=>wpAny_Continue ⟨F,p,l,.refl F,I,hw⟩
theorem ss_ite{b1 b2:S}{ys zs:List Stmt}(hc:ST w c X z (eval z X.env))(h1:SB w b1 X ys)(h2:SB w b2 X zs):SS w (.ite c b1 b2) X (.If z ys zs pos):=fun F p V s D I hw=>by
 refine wpAny_If (Vz (hc F p V s _ I hw) fun d s1 ⟨F1,p1,l,I1,q⟩=>?_);cases d with
 | true=>exact Vz (h1 F1 p1 V s1 D I1 q) fun _ _ q=>q.le l
 | false=>exact Vz (h2 F1 p1 V s1 D I1 q) fun _ _ q=>q.le l
theorem sp(hN:X.N.Nodup){i:Nat}{y:Str}{pos':Pos}(hi:X.N[i]?=some y)(hl:X.env.kindOf y=some .local\/(X.own=true/\X.env.kindOf y=some .cell))(h:SE w a X x)(hs:swapsWith x (some (.Name y pos')) pos.line X.env=pure false):SS w (.set i a) X (.Assign [.Name y pos'] x pos):=fun F p V s D I hw=>by
 have hw:if X.pt i=true then False else wE w a p fun r q=>D.nx (q.set i r):=hw
 split at hw
 .exact hw.elim
 .rename_i hp
  refine wpAny_Assign_Name (Vz (h F p V s _ I hw) fun v s1 ⟨F1,p1,r,l,I1,rs,q⟩=>?_) hs;exact Sf I1 hN hi hl (by simpa using hp) rs fun s' I'=>⟨F1,_,_,l,I',q⟩
theorem yj(cc:Ct X w k N sc){i:Nat}{y:Str}{pos':Pos}(hi:N[i]?=some y)(hl:locs sc y=true)(h:SE w a X x)(hs:swapsWith x (some (.Name y pos')) pos.line X.env=pure false):SS w (.set i a) X (.Assign [.Name y pos'] x pos):=sp (by rw[cc.nN];exact cc.nd) (by rw[cc.nN];exact hi) (cc.loc hl) h hs
def notName:Expr->Bool
 | .Name _ _=>false
 | _=>true
theorem Xi{x t:Expr}{ln:Nat}{env:Env}(h:notName t=true):swapsWith x (some t) ln env=pure false:=by
 cases x<;>first | rfl | (cases t<;>first | rfl | cases h)
def isTup:Expr->Bool
 | .Tuple _ _ _=>true
 | _=>false
theorem ss_unp(cc:Ct X w k N sc)(hc:X.calm=true){tg a:E}{ts:ZM}{j:Nat}{pt:Pos}(hg:repG N sc tg (.Tuple ts j pt)=true)(h:SE w a X x)(hx:isTup x=false):SS w (.unp tg a) X (.Assign [.Tuple ts j pt] x pos):=fun F p V s D I hw=>by
 have hw:if Ji X.pt tg=true then wE w a p fun r q=>Cy r fun t=>on (asg tg t q) D.nx else False:=hw
 split at hw
 .rename_i ho
  refine wpAny_Assign_stores (Vz (h F p V s _ I hw) fun v s1 q=>?_) (show swapsWith x (some (.Tuple ts j pt)) pos.line X.env=pure false from Xi rfl) (by unfold swappedStores;cases x<;>first | rfl | cases hx);obtain⟨F1,p1,t,l,I1,it,q⟩:=q.t;obtain⟨p2,e,q⟩:=Z9 q;show WP X (assign (.Tuple ts j pt) X.env v) _ s1;exact(Hp cc hc tg).1 _ F1 p1 p2 V s1 t v _ hg I1 it ho e fun σ' s' I'=>⟨F1,p2,σ',l,I',q⟩
 .exact hw.elim
theorem ss_put{i:Nat}{kk:E}{kx:Expr}{y:Str}{pos' Si:Pos}(n:Nm X i y)(h:SE w a X x)(hk:SE w kk X kx):SS w (.put i kk a) X (.Assign [.Subscript (.Name y pos') kx Si] x pos):=fun F p l s D I hw=>by
 refine wpAny_Assign_Subscript (Vz (h F p l s _ I hw) fun v s1 q=>?_) (Xi rfl);obtain⟨F1,p1,t,l1,I1,it,q⟩:=q.t
 split at q
 .rename_i hd
  obtain⟨vo,eo⟩:=I1.val hd;refine Dv n I1 eo (Vz (hk F1 p1 l s1 _ I1 q) fun vk s2 q=>?_);obtain⟨F2,p2,kt,l2,I2,ik,q⟩:=q.t
  split at q
  .rename_i u eu
   obtain⟨u',e3,q⟩:=Z9 q;obtain⟨b,eb,ow⟩:=I2.r.ow i u eu;rw[eo]at eb;cases eb;have it:=it.up l2;have fin:∀{h':Heap} {tk:Nat},(∀b' o,b'≠b->s2.heap.get? b'=some o->h'.get? b'=some o)->B5 u'=true->Top X.toMd F2 h'.get? u' (.ref b)->SP X F D .next { s2 with heap:=h',toks:=tk }:=fun hs c q'=>⟨F2,_,l,l1.trans l2,I2.mut eu eo hs c q',q⟩;unfold putAt at e3
   split at e3
   .rename_i k'
    obtain⟨j,e4,rfl⟩:=Y7.mp e3;cases ik;obtain⟨_,o,us,e5,e6,ko,r⟩:=ow.t.unL;cases e5;obtain⟨m,eo'⟩:=ko.at e6;have lr:=r.length;have ln:=An;have z:=ko.1;rw[lr]at e4;obtain⟨g1,g2,g3,g4⟩:=z8 e4
    have go:∀jj:Nat,jj=j->SP X F D .next { s2 with heap:=s2.heap.update b (Obj.mapSeq (·.setIfInBounds jj v)) }:=fun jj ej=>by
     subst ej;refine fin (tk:=s2.toks) (fun b' o' ne e=>(Heap.get?_update_other _ _ (Ne.symm ne)).trans e) rfl ?_;refine .mkL (us:=us.set jj v) (o:={ cls:=.type "list",data:=.seq (us.set jj v).toArray m }) ?_ ⟨by rw[XX];exact z,m,rfl⟩ (km it jj r);rw[Heap.get?_update_self (Obj.mapSeq (·.setIfInBounds jj v)) eo' (by rw[Wd us m jj v]<;>rfl),Wd us m jj v]
    by_cases h0:0<=k'
    .have hk:k'.toNat=j:=by
      rw[seqIndex_of h0 g4]at g1;exact Nf g1
     exact PySem.W.ki_setAt eo' h0 (by omega) (by rw[Ul];exact g4) (go _ hk)
    .have hk:(k'+(us.toArray.size:Int)).toNat=j:=by
      rw[seqIndex_neg (by omega) g3]at g1;rw[Ul];exact Nf g1
     exact PySem.W.ki_setBack eo' (by omega) (by rw[Ul];exact g3) (by omega) (go _ hk)
   .obtain⟨key,e4,e5⟩:=ZP.mp e3;obtain⟨hz,e5⟩:=Option.ite_none_right_eq_some.mp e5;cases e5;obtain⟨_,o,vs,e5,e6,ko,r⟩:=ow.t.unD;cases e5;have lr:=r.length;refine wpAny_setItem_pairs (hsz:=ko.z) (key_is (F:=F2) (s:=s2) e4 (.of I2.fh ik)) (ko.is e6) fun h' dd' hs=>?_;refine fin (fun b' o' ne e=>(hs.2 b' ne).trans e) rfl ?_;have hl:=stored_length_le vs key v;obtain⟨o',e7,ko'⟩:=Ft.of dd' (by omega) ko.ns;exact .mkD e7 ko' (r.put it)
   .cases e3
  .exact q.elim
 .exact q.elim
theorem ss_wh(po:PassesOwn (model X.prog X.w) X.A X.env X.xe){bd:S}{ys:List Stmt}(hc:ST w c X z (eval z X.env))(hb:SB w bd X ys):SS w (.wh c bd) X (.While z ys [] pos):=fun F p l s D I hw=>by
 refine wpAny_While (codeAny_whileLoop (fun n s'=>∃F' p' σ',Le F F'/\Inv X F' p' σ' s'/\wWh (fun s K=>wE w c s fun r q=>Q5 r fun b=>K b q) (fun s D=>wS w X.pt bd s D) n p' D) ?_ 1000000 ⟨F,p,l,.refl F,I,hw⟩);rintro n s1 ⟨F1,p1,σ1,l1,I1,w1⟩;cases n with
 | zero=>exact w1.elim
 | succ n =>
 refine wpAny_passesOwn po (Vz (hc F1 p1 σ1 s1 _ I1 w1) fun d s2 ⟨F2,p2,l2,I2,q⟩=>?_);cases d with
 | true =>
  rw[if_pos rfl]at q ⊢;refine wpAny_passesOwn po (Vz (hb F2 p2 σ1 s2 _ I2 q) fun f s3 ⟨F3,p3,σ3,l3,I3,q⟩=>?_);have ll:=l1.trans (l2.trans l3);cases f with
  | next=>exact⟨n,Nat.lt_succ_self n,F3,p3,σ3,ll,I3,q⟩
  | cont=>exact⟨n,Nat.lt_succ_self n,F3,p3,σ3,ll,I3,q⟩
  | brk=>exact⟨F3,p3,σ3,ll,I3,q⟩
  | ret v=>exact⟨F3,p3,σ3,ll,I3,q⟩
 | false =>
  rw[if_neg Qv]at q ⊢;exact wpAny_execs_nil ⟨F2,p2,σ1,l1.trans l2,I2,q⟩
end
def Yl(g:Md)(F:OM)(h:Heap)(tg:Expr)(x:T)(u:Value):Prop:=IsT g F x u\/(isTup tg=true/\∃a us ts,u=.ref a/\x=.tup ts/\IsTup h a us.toArray/\Zo g F ts us)
structure Turn(g:Md)(F:OM)(tg:Expr)(xs:ZZ)(fp:ZS)(it:Addr)(tn:Nat->Heap->Prop):Prop where
 mem:it∈fp
 obj:∀i h,tn i h->∀b∈fp,∃o,h.get? b=some o
 keep:∀i h h',tn i h->(∀b∈fp,∀o,h.get? b=some o->h'.get? b=some o)->tn i h'
 item:∀(A:Around) (i:Nat) (s:Shared) (E:ZQ) (Q:ZQ),A.handled=none->tn i s.heap->(∀a o,F a=some o->s.heap.get? a=some o)->(hi:i<xs.length) ->
  (∀h' tk u,(∀b o,b ∉ fp->s.heap.get? b=some o->h'.get? b=some o)->tn (i+1) h'->Yl g F h' tg xs[i] u->Q u { s with heap:=h',toks:=tk }) ->
  wpAny (model g.prog g.w) A (pyNext (.ref it)) (fun r s1=>∃u,r=some u/\wpAny (model g.prog g.w) A (letOwnedTupleGo tg (.ref it) u) (fun _ s2=>Q u s2) E s1) E s
 done:∀(A:Around) (i:Nat) (s:Shared) (E:ZQ) (Q:ZF->Shared->Prop),A.handled=none->tn i s.heap->(∀a o,F a=some o->s.heap.get? a=some o)->xs.length<=i ->
  (∀h' tk,(∀b o,b ∉ fp->s.heap.get? b=some o->h'.get? b=some o)->Q none { s with heap:=h',toks:=tk })->wpAny (model g.prog g.w) A (pyNext (.ref it)) Q E s
 self:∀(A:Around) (i:Nat) (s:Shared) (Q:ZQ) (E:ZQ),tn i s.heap->Q (.ref it) s->wpAny (model g.prog g.w) A (pyIter (.ref it)) Q E s
def IE(X:Cx)(F:OM)(l:Vs)(tg:Expr)(Q:ZZ->P->Prop)(itv:Value)(s2:Shared):Prop:=∃F' p' xs it fp tn h0,itv=.ref it/\Le F F'/\Inv X F' p' l { s2 with heap:=h0 }/\Turn X.toMd F' tg xs fp it tn/\tn 0 s2.heap/\(∀b∈fp,h0.get? b=none)/\(∀b o,h0.get? b=some o->s2.heap.get? b=some o)/\xs.length<=sizeLine/\Q xs p'
def wI(w:W)(e:E)(p:P)(Q:ZZ->P->Prop):Prop:=wE w e p fun r q=>Cy r fun t=>on (Fc t) fun xs=>Q xs q
def SI(w:W)(e:E)(X:Cx)(tg x:Expr):Prop:=∀(F:OM) (p:P) (l:Vs) (s:Shared) (Q:ZZ->P->Prop),Inv X F p l s->wI w e p Q->WP X (eval x X.env) (fun v s1=>WP X (pyIter v) (IE X F l tg Q) s1) s
theorem Es{M:Model}{A:Around}{E:ZQ}{s:Shared}{tg:Expr}{it:Addr}{u:Value}{o:Obj}{n:String}{vs:ZD}{Q:ZH}(ho:s.heap.get? it=some o)(hc:o.cls=.type n)(hd:o.data=.fields vs)
    (hn:["enumerate","zip","dict_itemiterator","dict_reverseitemiterator","odict_iterator","itertools.zip_longest","itertools.pairwise"].contains n=false) (hQ:Q () s):wpAny M A (letOwnedTupleGo tg (.ref it) u) Q E s:=by
  unfold letOwnedTupleGo
  cases tg<;>first
    | exact Z8 hQ
    | (cases u<;>first
        | exact Z8 hQ
        | (refine Zy (wpAny_load ho ?_)
           rw[hc,hd];show wpAny M A (if (["enumerate","zip","dict_itemiterator","dict_reverseitemiterator","odict_iterator","itertools.zip_longest","itertools.pairwise"].contains n && vs[0]? == some (rawInt _))=true then _ else _) Q E s;rw[if_neg (by intro h;rw[hn,Bool.false_and]at h;cases h)];exact Z8 hQ))
section
variable{g:Md}{F:OM}{tg:Expr}{a it:Addr}{o:Obj}{us:ZK}{ts:ZZ}{vs:List (Key×Value)}{XY:ZX}
theorem qz(ho:F a=some o)(k:Fm o us)(r:Zo g F ts us):Turn g F tg ts [it] it (fun i h=>h.IsListIter it a i) where
 mem:=by simp
 obj:=fun i h st b hb=>by
  obtain rfl:b=it:=by simpa using hb
  obtain⟨o,e,_⟩:=st;exact⟨o,e⟩
 keep:=fun i h h' st k=>st.at fun o e=>k it (by simp) o e
 item:=fun A i s E Q hh st fF hi k'=>by
  obtain⟨u,hu,ru⟩:=V8 r (Lh hi);refine wpAny_pyNext_list_item st (k.is (fF _ _ ho)) (x:=u) (by simpa using hu) fun h' Hj sb=>?_;obtain⟨o',e,c,d⟩:=id Hj;exact⟨u,rfl,Es (s:={ s with heap:=h' }) e c d (by decide) (k' h' s.toks u (fun b o m q=>(sb.2 b (by simpa using m)).trans q) Hj (.inl ru))⟩
 done:=fun A i s E Q hh st fF hi k'=>by
  have hl:=r.length;exact wpAny_pyNext_list_end hh st (k.is (fF _ _ ho)) (by simp;omega) fun h' eb=>k' h' s.toks fun b o m q=>eb b o (by simpa using m) q
 self:=fun _ _ _ _ _ st h=>wpAny_pyIter_listiter st h
theorem v3(ho:F a=some o)(k:Rf o us)(r:Zo g F ts us):Turn g F tg ts [it] it (fun i h=>h.IsTupleIter it a i) where
 mem:=by simp
 obj:=fun i h st b hb=>by
  obtain rfl:b=it:=by simpa using hb
  obtain⟨o,e,_⟩:=st;exact⟨o,e⟩
 keep:=fun i h h' st k=>st.at fun o e=>k it (by simp) o e
 item:=fun A i s E Q hh st fF hi k'=>by
  obtain⟨u,hu,ru⟩:=V8 r (Lh hi);refine wpAny_pyNext_tuple_item st (show s.heap.IsTuple a us.toArray from k.is (fF _ _ ho)) (x:=u) (by simpa using hu) fun h' Hj sb=>?_;obtain⟨o',e,c,d⟩:=id Hj;exact⟨u,rfl,Es (s:={ s with heap:=h' }) e c d (by decide) (k' h' s.toks u (fun b o m q=>(sb.2 b (by simpa using m)).trans q) Hj (.inl ru))⟩
 done:=fun A i s E Q hh st fF hi k'=>by
  have hl:=r.length;exact wpAny_pyNext_tuple_end hh st (show s.heap.IsTuple a us.toArray from k.is (fF _ _ ho)) (by simp;omega) fun h' eb=>k' h' s.toks fun b o m q=>eb b o (by simpa using m) q
 self:=fun _ _ _ _ _ st h=>wpAny_pyIter_tupleiter st h
theorem Fl(a:Int)(n:Nat):Turn g F tg ((List.range n).map fun k=>.int (a+(k:Nat))) [it] it (fun i h=>IsRangeIter h it (a+(i:Nat) * 1) ((n:Int) - (i:Nat)) 1) where
 mem:=by simp
 obj:=fun i h st b hb=>by
  obtain rfl:b=it:=by simpa using hb
  exact⟨_,st⟩
 keep:=fun i h h' st k=>k it (by simp) _ st
 item:=fun A i s E Q hh st fF hi k'=>by
  rw[Y9,XZ]at hi;have W:=Walks.range (prog:=g.prog) (w:=g.w) hh it a 1 n;refine W.item i s _ _ hi st fun v h' tk hv Hj kk=>?_;obtain⟨t,rfl⟩:=hv;refine⟨_,rfl,Es (s:={ s with heap:=h',toks:=tk }) (n:="range_iterator") Hj rfl rfl (by decide) (k' h' tk _ kk Hj (.inl ?_))⟩;rw[List.getElem_map,List.getElem_range,Int.mul_one];exact .int
 done:=fun A i s E Q hh st fF hi k'=>by
  rw[Y9,XZ]at hi;exact wpAny_pyNext_range_end hh st (by omega) fun h' eb=>k' h' s.toks fun b o m q=>eb b o (by simpa using m) q
 self:=fun _ _ _ _ _ st h=>wpAny_pyIter_rangeiter st h
theorem v5(n:Nat):Turn g F tg ((List.range n).map fun k=>.int (k:Nat)) [it] it (fun i h=>IsRangeIter h it (0+(i:Nat) * 1) ((n:Int) - (i:Nat)) 1):=by
 have:=Fl (g:=g) (F:=F) (tg:=tg) (it:=it) 0 n;simp only[Int.zero_add]at this ⊢;exact this
theorem Sz(x:Str)(N:String)(t:Tok)(hT:["enumerate","zip","dict_itemiterator","dict_reverseitemiterator","odict_iterator","itertools.zip_longest","itertools.pairwise"].contains N=false)
  (W:∀A:Around,A.handled=none->Walks g.prog g.w A it [it] [it] x.cps.size (SignAt x) (fun i h=>h.IsStrIter it N x t i)) (hs:∀(A:Around) (i:Nat) (s:Shared) (Q:ZQ) (E:ZQ),s.heap.IsStrIter it N x t i->Q (.ref it) s->wpAny (model g.prog g.w) A (pyIter (.ref it)) Q E s)
  (hd:∀(A:Around) (i:Nat) (s:Shared) (Q:ZF->Shared->Prop) (E:ZQ),A.handled=none->x.cps.size<=i->s.heap.IsStrIter it N x t i->(∀h' tk,(∀b o,b≠it->s.heap.get? b=some o->h'.get? b=some o)->Q none { s with heap:=h',toks:=tk })->wpAny (model g.prog g.w) A (pyNext (.ref it)) Q E s) :
  Turn g F tg (x.cps.toList.map fun c=>.str ⟨#[c]⟩) [it] it (fun i h=>h.IsStrIter it N x t i) where
 mem:=by simp
 obj:=fun i h st b hb=>by
  obtain rfl:b=it:=by simpa using hb
  obtain⟨o,e,_⟩:=st;exact⟨o,e⟩
 keep:=fun i h h' st k=>let ⟨o,ho,r⟩:=st;⟨o,k it (by simp) o ho,r⟩
 item:=fun A i s E Q hh st fF hi k'=>by
  rw[Y9,x3]at hi;refine(W A hh).item i s _ _ hi st fun v h' tk hv Hj kk=>?_;obtain⟨c,u,jm,rfl⟩:=hv;obtain⟨o,e,c1,d⟩:=id Hj;refine⟨_,rfl,Es (s:={ s with heap:=h',toks:=tk }) e c1 d hT (k' h' tk _ kk Hj (.inl ?_))⟩;rw[List.getElem_map,Array.getElem_toList,show x.cps[i]=c from Nf ((Array.getElem?_eq_getElem hi).symm.trans jm)];exact .str
 done:=fun A i s E Q hh st fF hi k'=>by
  rw[Y9,x3]at hi;exact hd A i s _ _ hh hi st fun h' tk eb=>k' h' tk fun b o m q=>eb b o (by simpa using m) q
 self:=fun A i s Q E st h=>hs A i s Q E st h
variable{ep:Nat}
end
section
variable{g:Md}{F:OM}{tg:Expr}{a it:Addr}{o:Obj}{us:ZK}{ts:ZZ}{vs:List (Key×Value)}{XY:ZX}{ep:Nat}
abbrev DAt(g:Md)(F:OM)(a:Addr)(vs:List (Key×Value))(ep:Nat):Prop:=∀h:Heap,(∀b o,F b=some o->h.get? b=some o)->h.DictAt (Zp g.prog g.w) a vs ep
theorem dat_of(ho:F a=some o)(k:Ft g a o vs):∃ep,DAt g F a vs ep:=by
 obtain⟨es,ep,d,c,pr⟩:=k.es;exact⟨ep,fun h e=>⟨o,es,e _ _ ho,k.ex,d,c,pr,k.nd⟩⟩
theorem qx(m:DAt g F a vs ep)(r:Yo g F XY vs):Turn g F tg (XY.map fun p=>Ms p.1) [it] it (fun i h=>h.IsKeyIter it a i vs.length ep) where
 mem:=by simp
 obj:=fun i h st b hb=>by
  obtain rfl:b=it:=by simpa using hb
  obtain⟨o,e,_⟩:=st;exact⟨o,e⟩
 keep:=fun i h h' st k=>by
  obtain⟨o,e,c,d⟩:=st;exact⟨o,k it (by simp) o e,c,d⟩
 item:=fun A i s E Q hh st fF hi k'=>by
  rw[Y9]at hi;obtain⟨⟨k,v⟩,hv,rv⟩:=V8 r (Lh hi);refine wpAny_pyNext_dict_item st (m _ fF) hv fun key h' hk Hj sb=>?_;obtain⟨oo,e,c,dd⟩:=id Hj;refine⟨key,rfl,Es (s:={ s with heap:=h' }) e c dd (by decide) (k' h' s.toks key (fun b o m q=>(sb.2 b (by simpa using m)).trans q) Hj (.inl ?_))⟩;rw[List.getElem_map,rv.1];exact z7 hk
 done:=fun A i s E Q hh st fF hi k'=>by
  rw[Y9,r.length]at hi;exact wpAny_pyNext_dict_end hh st (m _ fF) (List.getElem?_eq_none hi) fun h' eb=>k' h' s.toks fun b o m q=>eb b o (by simpa using m) q
 self:=fun _ _ _ _ _ st h=>wpAny_pyIter_keyiter st h
variable{es:ZM}{k:Nat}{pos:Pos}{z TI TO i1 i2 l1 l2:Addr}{o1 o2:Obj}{B4 Gf:ZK}{qj yz:ZZ}
theorem wu{i:Nat}(hi:i<(Nd qj yz).length):∃x y,qj[i]?=some x/\yz[i]?=some y/\(Nd qj yz)[i]=.tup [x,y]:=by
 have e:(Nd qj yz)[i]?=some (Nd qj yz)[i]:=Lh hi;unfold Nd at e;rw[lg]at e;obtain⟨⟨x,y⟩,e1,e2⟩:=Y7.mp e;obtain⟨h1,h2⟩:=List.getElem?_zip_eq_some.mp e1;exact⟨x,y,h1,h2,e2.symm⟩
theorem Rm:(Nd qj yz).length=min qj.length yz.length:=by unfold Nd;rw[Y9,List.length_zip]
theorem ve(D:ZipApart z TI TO i1 i2 l1 l2)(h1:F l1=some o1)(k1:Fm o1 B4)(r1:Zo g F qj B4)(h2:F l2=some o2)(k2:Fm o2 Gf)(r2:Zo g F yz Gf) :
  Turn g F (.Tuple es k pos) (Nd qj yz) [z,TI,TO,i1,i2] z (fun i h=>IsZip h z TI TO .none/\IsPair h TI (.ref i1) (.ref i2)/\(∃a b,IsPair h TO a b)/\h.IsListIter i1 l1 i/\h.IsListIter i2 l2 i) where
 mem:=by simp
 obj:=fun i h st b hb=>by
  obtain⟨hz,A3,⟨a,c,jd⟩,⟨o1,e1,_,d1⟩,⟨o2,e2,_,d2⟩⟩:=st;simp only[Ya,J5,or_false]at hb;rcases hb with rfl | rfl | rfl | rfl | rfl<;>exact⟨_,by assumption⟩
 keep:=fun i h h' st hk=>by
  obtain⟨hz,A3,⟨a,b,jd⟩,h1,h2⟩:=st;exact⟨hk z (by simp) _ hz,hk TI (by simp) _ A3,⟨a,b,hk TO (by simp) _ jd⟩,h1.at fun o e=>hk i1 (by simp) o e,h2.at fun o e=>hk i2 (by simp) o e⟩
 item:=fun A i s E Q hh st fF hi k'=>by
  obtain⟨x,y,g1,g2,et⟩:=wu hi;obtain⟨hz,A3,⟨a,b,jd⟩,j1,j2⟩:=st;obtain⟨u1,e1,q1⟩:=V8 r1 g1;obtain⟨u2,e2,q2⟩:=V8 r2 g2;refine wpAny_pyNext_zip_item D hz A3 jd j1 j2 (k1.is (fF _ _ h1)) (k2.is (fF _ _ h2)) (x:=u1) (y:=u2) (by simpa using e1) (by simpa using e2) fun h' a1 a2 a3 a4 a5 a6 hk=>?_;refine⟨_,rfl,wpAny_letOwnedTupleGo_zip (s:={ s with heap:=h' }) a1 fun h'' F8 Jz=>?_⟩;have nz:s.heap.objs.size≠z:=Nat.ne_of_gt (Mv hz);refine k' h'' s.toks _ (fun c u m e=>?_) ⟨F8,Jz.extBut _ _ D.TIz (hk _ _ D.TIz D.TITO D.TIi1 D.TIi2 A3),⟨_,_,Jz.extBut _ _ D.TOz a2⟩,a3.extBut Jz.extBut D.i1z,a4.extBut Jz.extBut D.i2z⟩ (.inr ⟨rfl,_,[u1,u2],[x,y],rfl,et,⟨_,Jz.extBut _ _ nz a5,rfl,⟨_,rfl⟩⟩,.cons q1 (.cons q2 .nil)⟩);simp only[Ya,J5,or_false,not_or]at m;exact Jz.extBut _ _ m.1 (hk c u m.1 m.2.2.1 m.2.2.2.1 m.2.2.2.2 e)
 done:=fun A i s E Q hh st fF hi k'=>by
  rw[Rm]at hi;obtain⟨hz,A3,⟨a,b,jd⟩,j1,j2⟩:=st;have hl1:=r1.length;have hl2:=r2.length;refine wpAny_pyNext_zip_end hh D hz A3 jd j1 j2 (k1.is (fF _ _ h1)) (k2.is (fF _ _ h2)) ?_ fun h' hk=>k' h' s.toks fun c u m e=>?_
  .by_cases z:qj.length<=i
   .exact .inl (by simp;omega)
   .exact .inr (by simp;omega)
  .simp only[Ya,J5,or_false,not_or]at m;exact hk c u m.1 m.2.2.1 m.2.2.2.1 m.2.2.2.2 e
 self:=fun A i s Q E st h=>wpAny_pyIter_zip st.1 h
theorem x9(D:ZipApart z TI TO i1 i2 l1 l2)(h1:F l1=some o1)(k1:Rf o1 B4)(r1:Zo g F qj B4)(h2:F l2=some o2)(k2:Rf o2 Gf)(r2:Zo g F yz Gf) :
  Turn g F (.Tuple es k pos) (Nd qj yz) [z,TI,TO,i1,i2] z (fun i h=>IsZip h z TI TO .none/\IsPair h TI (.ref i1) (.ref i2)/\(∃a b,IsPair h TO a b)/\h.IsTupleIter i1 l1 i/\h.IsTupleIter i2 l2 i) where
 mem:=by simp
 obj:=fun i h st b hb=>by
  obtain⟨hz,A3,⟨a,c,jd⟩,⟨o1,e1,_,d1⟩,⟨o2,e2,_,d2⟩⟩:=st;simp only[Ya,J5,or_false]at hb;rcases hb with rfl | rfl | rfl | rfl | rfl<;>exact⟨_,by assumption⟩
 keep:=fun i h h' st hk=>by
  obtain⟨hz,A3,⟨a,b,jd⟩,h1,h2⟩:=st;exact⟨hk z (by simp) _ hz,hk TI (by simp) _ A3,⟨a,b,hk TO (by simp) _ jd⟩,(let ⟨o,ho,r⟩:=h1;⟨o,hk i1 (by simp) o ho,r⟩),(let ⟨o,ho,r⟩:=h2;⟨o,hk i2 (by simp) o ho,r⟩)⟩
 item:=fun A i s E Q hh st fF hi k'=>by
  obtain⟨x,y,g1,g2,et⟩:=wu hi;obtain⟨hz,A3,⟨a,b,jd⟩,j1,j2⟩:=st;obtain⟨u1,e1,q1⟩:=V8 r1 g1;obtain⟨u2,e2,q2⟩:=V8 r2 g2;refine ZipT.bx D hz A3 jd j1 j2 (show s.heap.IsTuple l1 B4.toArray from k1.is (fF _ _ h1)) (show s.heap.IsTuple l2 Gf.toArray from k2.is (fF _ _ h2)) (x:=u1) (y:=u2) (by simpa using e1) (by simpa using e2) fun h' a1 a2 a3 a4 a5 a6 hk=>?_;refine⟨_,rfl,wpAny_letOwnedTupleGo_zip (s:={ s with heap:=h' }) a1 fun h'' F8 Jz=>?_⟩;have nz:s.heap.objs.size≠z:=Nat.ne_of_gt (Mv hz);refine k' h'' s.toks _ (fun c u m e=>?_) ⟨F8,Jz.extBut _ _ D.TIz (hk _ _ D.TIz D.TITO D.TIi1 D.TIi2 A3),⟨_,_,Jz.extBut _ _ D.TOz a2⟩,ZipT.U4 a3 Jz.extBut D.i1z,ZipT.U4 a4 Jz.extBut D.i2z⟩ (.inr ⟨rfl,_,[u1,u2],[x,y],rfl,et,⟨_,Jz.extBut _ _ nz a5,rfl,⟨_,rfl⟩⟩,.cons q1 (.cons q2 .nil)⟩);simp only[Ya,J5,or_false,not_or]at m;exact Jz.extBut _ _ m.1 (hk c u m.1 m.2.2.1 m.2.2.2.1 m.2.2.2.2 e)
 done:=fun A i s E Q hh st fF hi k'=>by
  rw[Rm]at hi;obtain⟨hz,A3,⟨a,b,jd⟩,j1,j2⟩:=st;have hl1:=r1.length;have hl2:=r2.length;refine ZipT.ox hh D hz A3 jd j1 j2 (show s.heap.IsTuple l1 B4.toArray from k1.is (fF _ _ h1)) (show s.heap.IsTuple l2 Gf.toArray from k2.is (fF _ _ h2)) ?_ fun h' hk=>k' h' s.toks fun c u m e=>?_
  .by_cases z:qj.length<=i
   .exact .inl (by simp;omega)
   .exact .inr (by simp;omega)
  .simp only[Ya,J5,or_false,not_or]at m;exact hk c u m.1 m.2.2.1 m.2.2.2.1 m.2.2.2.2 e
 self:=fun A i s Q E st h=>wpAny_pyIter_zip st.1 h
end
section
variable{X:Cx}{F:OM}{p:P}{V:Vs}{s:Shared}{tg:Expr}{t:T}{v:Value}{xs:ZZ}{Q:ZZ->P->Prop}{w:W}{k:Nat}{N:ZG}{sc:ZW}
theorem ie1{h':Heap}{tk:Nat}{it:Addr}{tn:Nat->Heap->Prop}(I:Inv X F p V s)(T':Turn X.toMd F tg xs [it] it tn)(t0:tn 0 h')(n:s.heap.get? it=none)(kp:∀b o,s.heap.get? b=some o->h'.get? b=some o)(z:xs.length<=sizeLine)(q:Q xs p):IE X F V tg Q (.ref it) { s with heap:=h',toks:=tk } :=
 ⟨F,p,xs,it,[it],tn,s.heap,rfl,.refl F,I.tok tk,T',t0,fun b hb=>(Dl.mp hb) ▸ n,kp,z,q⟩
theorem IE.le{F0:OM}{itv:Value}{s2:Shared}(l:Le F0 F)(h:IE X F V tg Q itv s2):IE X F0 V tg Q itv s2:=let ⟨F',p',xs,it,fp,tn,h0,e,l',h⟩:=h;⟨F',p',xs,it,fp,tn,h0,e,l.trans l',h⟩
theorem vy(I:Inv X F p V s)(i:IsT X.toMd F t v)(e:Fc t=some xs)(q:Q xs p):WP X (pyIter v) (IE X F V tg Q) s:=by
 have new:s.heap.get? s.heap.objs.size=none:=Heap.get?_none_of_le (N4 _);have kp:∀(o':Obj) b o,s.heap.get? b=some o->(s.heap.push o').get? b=some o:=fun o' b o e=>Vn _ e;cases t with
 | tup ts =>
  cases e;obtain⟨a,o,us,rfl,ho,k,r⟩:=i.unT;exact wpAny_pyIter_tuple (show s.heap.IsTuple a us.toArray from k.is (I.fh _ _ ho)) (ie1 (tk:=s.toks) I (v3 ho k r) ⟨_,Mw _ rfl,rfl,rfl⟩ new (kp _) (by rw[r.length];exact k.z) q)
 | lst ts =>
  cases e;obtain⟨a,o,us,rfl,ho,k,r⟩:=i.unL;exact wpAny_pyIter_list (k.is (I.fh _ _ ho)) (ie1 (tk:=s.toks) I (qz ho k r) ⟨_,Mw _ rfl,rfl,rfl⟩ new (kp _) (by rw[r.length];exact k.1) q)
 | dct XY =>
  cases e;obtain⟨a,o,vs,rfl,ho,k,r⟩:=i.unD;obtain⟨ep,m⟩:=dat_of ho k;exact wpAny_pyIter_dict k.ns (m _ I.fh) (ie1 (tk:=s.toks) I (qx m r) ⟨_,Mw _ rfl,rfl,rfl⟩ new (kp _) (by rw[Y9,r.length];exact k.z) q)
 | str x =>
  obtain⟨hz,e⟩:=Option.ite_none_right_eq_some.mp (show (if x.length<=sizeLine then some (x.cps.toList.map fun c=>T.str ⟨#[c]⟩) else none)=some xs from e);cases e;cases i
  rename_i t
  cases ha:x.cps.all (·<128)
  .exact wpAny_pyIter_wide ha (ie1 (tk:=s.toks) I (Sz x "str_iterator" t (by decide) (fun A hA=>Walks.strWide hA _ x t) (fun A i s Q E st h=>wpAny_pyIter_striter_wide st h)
    (fun A i s Q E hA hi st h=>wpAny_pyNext_wide_end hA st (by simp[hi]) fun h' he=>h h' s.toks fun b o hb e=>he b o hb e)) ⟨_,Mw _ rfl,rfl,rfl⟩ new (kp _) (by rw[Y9];exact hz) q)
  .exact wpAny_pyIter_ascii ha (ie1 (tk:=s.toks) I (Sz x "str_ascii_iterator" t (by decide) (fun A hA=>Walks.strAscii hA _ x t) (fun A i s Q E st h=>wpAny_pyIter_striter_ascii st h)
    (fun A i s Q E hA hi st h=>wpAny_pyNext_ascii_end hA st (by simp[hi]) fun h' he=>h h' s.toks fun b o hb e=>he b o hb e)) ⟨_,Mw _ rfl,rfl,rfl⟩ new (kp _) (by rw[Y9];exact hz) q)
 | _=>cases e
theorem si_of{e:E}{x:Expr}(h:SE w e X x):SI w e X tg x:=fun F p V s Q I hw=>Vz (h F p V s _ I hw) fun v s1 q=>by
 obtain⟨F1,p1,t,l,I1,i,q⟩:=q.t;obtain⟨xs,e,q⟩:=Z9 q;exact wpAny_mono (vy I1 i e q) (fun _ _ q=>q.le l) fun _ _ z=>z
theorem Eg{q:Ik}{es:E}{ys:ZM}{K:ZK->Shared->Prop}(hs:Hs X w false es ys)(n:Uz es=true)(I:Inv X F p V s)(h:wI w (.itr q es) p Q)
  (kk:∀F1 p1 ts us s1 xs,Le F F1->Inv X F1 p1 V s1->Zo X.toMd F1 ts us->itT q ts=some xs->Q xs p1->K us s1):Tx X ys K s:=by
 refine evs hs I h fun F1 p1 as us s1 l I1 ar nt h=>?_;obtain⟨ts,e1,h⟩:=Z9 h;obtain⟨xs,e2,h⟩:=Z9 h;exact kk F1 p1 ts us s1 xs l I1 (B2 (nt rfl n) ar e1) e2 h
theorem dy{q:Ik}{ts:ZZ}(h:itT q ts=some xs):(q=.rng/\((∃t,ts=[t]/\rngT t=some xs)\/∃a b,ts=[.int a,.int b]/\Zxk a b=some xs))\/(q=.zip/\∃a b,ts=[.lst a,.lst b]/\xs=Nd a b)\/(q=.zip/\∃a b,ts=[.tup a,.tup b]/\xs=Nd a b):=by
 unfold itT at h
 split at h
 .exact .inl ⟨rfl,.inl ⟨_,rfl,h⟩⟩
 .exact .inl ⟨rfl,.inr ⟨_,_,rfl,h⟩⟩
 .cases h;exact .inr (.inl ⟨rfl,_,_,rfl,rfl⟩)
 .cases h;exact .inr (.inr ⟨rfl,_,_,rfl,rfl⟩)
 .cases h
theorem uc{F F1:OM}{p1:P}{V:Vs}{s1:Shared}{ts xs:ZZ}{us:ZK}{Q:ZZ->P->Prop}(l:Le F F1)(I1:Inv X F1 p1 V s1)(ar:Zo X.toMd F1 ts us)(e:itT .rng ts=some xs)(q:Q xs p1):WP X (call (.type "range") us) (fun v s=>WP X (pyIter v) (IE X F V tg Q) s) s1:=by
 rcases dy e with ⟨_,⟨t,rfl,e⟩ | ⟨a,b,rfl,e⟩⟩ | ⟨z,_⟩ | ⟨z,_⟩
 .obtain⟨u,rfl,r⟩:=Cv ar;cases t with
  | int nn =>
   obtain⟨hz,e⟩:=Option.ite_none_right_eq_some.mp e;cases e;cases r;refine call_range_1 (wpAny_pyIter_range (IsRange.new ..) (small_one (by decide) (by decide) (by omega) (by omega)) ?_);refine IE.le l (ie1 (it:=_) (tn:=fun i h=>IsRangeIter h _ (0+(i:Nat) * 1) ((nn.toNat:Int) - (i:Nat)) 1) (s:=s1) I1 (v5 nn.toNat) ?_ ?_ (fun b o e=>Vn _ (Vn _ e)) (by rw[Y9,XZ,sizeLine_eq];omega) q)
   .have e2:((nn.toNat:Nat):Int) - ((0:Nat):Int)=Builtin.Range.rangeSize 0 nn 1:=by rw[rangeSize_one];split<;>omega
    show IsRangeIter _ _ (0+((0:Nat):Int) * 1) (((nn.toNat:Nat):Int) - ((0:Nat):Int)) 1;rw[e2,show (0:Int)+((0:Nat):Int) * 1=0 by simp];exact Mw _ rfl
   .refine Heap.get?_none_of_le ?_;rw[Heap.size_push];omega
  | _=>cases e
 .obtain⟨u,v,rfl,r1,r2⟩:=pr2 ar;cases r1;cases r2;obtain⟨hz,e⟩:=Option.ite_none_right_eq_some.mp e;cases e;refine call_range_2 (wpAny_pyIter_range (IsRange.new ..) (small_one (by omega) (by omega) (by omega) (by omega)) ?_);refine IE.le l (ie1 (it:=_) (tn:=fun i h=>IsRangeIter h _ (a+(i:Nat) * 1) (((b - a).toNat:Int) - (i:Nat)) 1) (s:=s1) I1 (Fl a (b - a).toNat) ?_ ?_ (fun b o e=>Vn _ (Vn _ e)) (by rw[Y9,XZ,sizeLine_eq];omega) q)
  .have e2:(((b - a).toNat:Nat):Int) - ((0:Nat):Int)=Builtin.Range.rangeSize a b 1:=by rw[rangeSize_one];split<;>omega
   show IsRangeIter _ _ (a+((0:Nat):Int) * 1) ((((b - a).toNat:Nat):Int) - ((0:Nat):Int)) 1;rw[e2,show (a:Int)+((0:Nat):Int) * 1=a by simp];exact Mw _ rfl
  .refine Heap.get?_none_of_le ?_;rw[Heap.size_push];omega
 all_goals cases z
theorem si_rng{x:Expr}{r:ZM}{es:E}{pos q:Pos}(c:Ct X w k N sc)(hg:sc.lookup ("range" : Str)=some .globalImplicit)(hs:Hs X w false es (x::r))(n:Uz es=true):SI w (.itr .rng es) X tg (.Call (.Name "range" q) (x::r) [] pos):=fun F p V s Q I h=>by
 have st:=hs.star;exact wpAny_Call_Name_kw (Tc I (c.gi hg) (c.bn.b _ (by decide +kernel)) boot_range (by decide) (by decide) (callWith_type1 (Vh st (Eg hs n I h fun F1 p1 ts us s1 xs l I1 ar e q=>uc l I1 ar e q)) (Yd (st _ Yb)) (Vx r X.env pos fun e m=>st e (Y5 _ m))))
theorem si_zip{a b:Expr}{R0:ZM}{k':Nat}{pos':Pos}{es:E}{pos q:Pos}(c:Ct X w k N sc)(hg:sc.lookup ("zip" : Str)=some .globalImplicit)(hs:Hs X w false es [a,b])(n:Uz es=true):SI w (.itr .zip es) X (.Tuple R0 k' pos') (.Call (.Name "zip" q) [a,b] [] pos):=fun F p V s Q I h=>by
 have st:=hs.star;refine wpAny_Call_Name_kw (Tc I (c.gi hg) (c.bn.b _ (by decide +kernel)) (by decide +kernel:bootBuiltins "zip" = some (.type "zip")) (by decide) (by decide) (callWith_type1 (Vh st (Eg hs n I h fun F1 p1 ts us s1 xs l I1 ar e q=>?_)) (Yd (st _ Yb)) (Vx [b] X.env pos fun e m=>st e (Y5 _ m))))
 have fin:∀{l1 l2:Addr} {h2:Heap} {tn:Nat->Heap->Prop},(∃o,s1.heap.get? l1=some o)->(∃o,s1.heap.get? l2=some o)->(ZipApart (s1.heap.objs.size+4) (s1.heap.objs.size+2) (s1.heap.objs.size+3) s1.heap.objs.size (s1.heap.objs.size+1) l1 l2->Turn X.toMd F1 (.Tuple R0 k' pos') xs [s1.heap.objs.size+4,s1.heap.objs.size+2,s1.heap.objs.size+3,s1.heap.objs.size,s1.heap.objs.size+1] (s1.heap.objs.size+4) tn)->tn 0 h2 ->
   (∀b o,s1.heap.get? b=some o->h2.get? b=some o)->xs.length<=sizeLine->IE X F V (.Tuple R0 k' pos') Q (.ref (s1.heap.objs.size+4)) { s1 with heap:=h2 }:=fun n1 n2 T' t0 kp zz=>by
  obtain⟨_,n1⟩:=n1;obtain⟨_,n2⟩:=n2;refine⟨F1,p1,xs,_,_,_,s1.heap,rfl,l,I1,T' (zipApart_new (Mv n1) (Mv n2)),t0,fun c hc=>Heap.get?_none_of_le ?_,kp,zz,q⟩;simp only[Ya,J5,or_false]at hc;rcases hc with rfl | rfl | rfl | rfl | rfl<;>first | exact N4 _ | exact Nat.le_add_right _ _
 rcases dy e with ⟨z,_⟩ | ⟨_,a,b,rfl,rfl⟩ | ⟨_,a,b,rfl,rfl⟩
 .cases z
 .obtain⟨u1,u2,rfl,r1,r2⟩:=pr2 ar;obtain⟨l1,o1,B4,rfl,h1,k1,q1⟩:=r1.unL;obtain⟨l2,o2,Gf,rfl,h2,k2,q2⟩:=r2.unL;have g1:=I1.fh _ _ h1;have g2:=I1.fh _ _ h2;refine call_zip_2 (k1.is g1) (k2.is g2) fun hh b1 b2 b3 b4 b5 b6 k3=>wpAny_pyIter_zip (s:={ s1 with heap:=hh }) b1 (fin ⟨_,g1⟩ ⟨_,g2⟩ (fun D=>ve D h1 k1 q1 h2 k2 q2) ⟨b1,b2,⟨_,_,b3⟩,b4,b5⟩ k3 (by rw[Rm,q1.length];exact U8 (Nat.min_le_left _ _) k1.1))
 .obtain⟨u1,u2,rfl,r1,r2⟩:=pr2 ar;obtain⟨l1,o1,B4,rfl,h1,k1,q1⟩:=r1.unT;obtain⟨l2,o2,Gf,rfl,h2,k2,q2⟩:=r2.unT;have g1:=I1.fh _ _ h1;have g2:=I1.fh _ _ h2;refine ZipT.call2 (show s1.heap.IsTuple l1 B4.toArray from k1.is g1) (show s1.heap.IsTuple l2 Gf.toArray from k2.is g2) fun hh b1 b2 b3 b4 b5 b6 k3=>wpAny_pyIter_zip (s:={ s1 with heap:=hh }) b1 (fin ⟨_,g1⟩ ⟨_,g2⟩ (fun D=>x9 D h1 k1 q1 h2 k2 q2) ⟨b1,b2,⟨_,_,b3⟩,b4,b5⟩ k3 (by rw[Rm,q1.length];exact U8 (Nat.min_le_left _ _) k1.z))
def Gs:Expr->Bool
 | .Call _ _ _ _=>false
 | _=>true
theorem Dq{o:Expr}(h:Gs o=true)(m:Str)(env:Env)(wh:Sem Value):attributeBase o m env wh=wh:=by
 cases o<;>first | rfl | cases h
end
noncomputable def Cx.pin(X:Cx)(fp:ZS)(h:Heap):Cx:={ X with G:=fun a=>if a∈fp then h.get? a else X.G a }
structure Fp(X:Cx)(F:OM)(p:P)(l:Vs)(b:Addr):Prop where
 n:F b=none
 k:¬ X.kp b
 o:∀(i:Nat) (t:T),p[i]?=some (Sl.o t)->l[i]?≠some (some (.ref b))
section
variable{X:Cx}{F F':OM}{p p':P}{l σ':Vs}{s s':Shared}{h h':Heap}{fp:ZS}{b:Addr}{tk:Nat}
theorem Inv.isFp(I:Inv X F p l s)(n:s.heap.get? b=none):Fp X F p l b:=by
 refine⟨?_,fun z=>?_,fun i t e e2=>?_⟩
 .cases e:F b with
  | none=>rfl
  | some o=>rw[I.fh _ _ e]at n;cases n
 .obtain⟨o,e⟩:=I.kpAt z;rw[n]at e;cases e
 .obtain⟨a,e1,w⟩:=I.r.ow i t e;rw[e2]at e1;cases e1;obtain⟨x,hx⟩:=w.at;rw[n]at hx;cases hx
theorem Inv.turned(I:Inv X F p l s)(hf:∀b∈fp,Fp X F p l b)(kk:∀b o,b ∉ fp->s.heap.get? b=some o->h'.get? b=some o):Inv X F p l { s with heap:=h',toks:=tk }:=by
 have nf:∀{a:Addr},X.kp a->a ∉ fp:=fun k m=>(hf _ m).k k;refine I.step rfl I.bare (.refl F) (fun a o e=>?_) (fun a o k _ e=>.same (kk a o (nf k) e)) (fun m hn=>Bw (fun o e=>⟨o.slots,kk _ o (nf (.inr (.inl rfl))) e⟩) hn) (I.r.to (.refl F) fun i t a e1 e2=>?_)
 .obtain⟨h1,h2⟩:=I.f a o e;exact⟨kk a o (fun m=>by rw[(hf a m).n]at e;cases e) h1,h2⟩
 .obtain⟨c,g1,w⟩:=I.r.ow i t e1;rw[e2]at g1;cases g1;exact⟨w.f,fun x=>kk a x fun m=>(hf a m).o i t e1 e2⟩
theorem Ax(ho:∀b∈fp,∃o,h.get? b=some o){a:Addr}(k:X.kp a):(X.pin fp h).kp a:=by
 rcases k with k | k
 .refine .inl ?_;show (if a∈fp then h.get? a else X.G a)≠none
  split
  .rename_i m
   obtain⟨o,e⟩:=ho a m;rw[e];exact fun z=>nomatch z
  .exact k
 .exact .inr k
theorem dz{a:Addr}(k:(X.pin fp h).kp a):a∈fp\/X.kp a:=by
 rcases k with k | k
 .by_cases m:a∈fp
  .exact .inl m
  .refine .inr (.inl ?_);have k:(if a∈fp then h.get? a else X.G a)≠none:=k;rw[if_neg m]at k;exact k
 .exact .inr (.inr k)
theorem Cx.Ok.pin(ok:X.Ok)(hf:∀b∈fp,¬ X.kp b):(X.pin fp h).Ok:=by
 have ne:∀{a:Addr},X.kp a->(X.pin fp h).G a=X.G a:=fun {a} k=>if_neg fun m=>hf a m k;exact⟨ok.mod,ok.kind,ok.gl,ok.bl,ok.ab,ok.inj,ok.has,ok.hd,ok.frames,ok.stk,ok.b,fun b hb=>by rw[ne (.inl (ok.fg b hb))];exact ok.fg b hb,fun a ma=>(ne (.inr ma)).trans (ok.gm a ma),fun y c e=>(ok.cg y c e).imp id fun z=>by rw[ne (.inl z)];exact z⟩
theorem Inv.pin(I:Inv X F p l s)(hf:∀b∈fp,Fp X F p l b)(ho:∀b∈fp,∃o,s.heap.get? b=some o):Inv (X.pin fp s.heap) F p l s:=by
 have ow:∀{a:Addr} {t:T},Ce X F s.heap a t->a ∉ fp->Ce (X.pin fp s.heap) F s.heap a t:=fun w m=>⟨w.c,w.f,fun z=>(dz z).elim m w.k,w.t⟩;refine⟨I.ok.pin fun b m=>(hf b m).k,I.os,I.bare,I.le,fun a o e=>?_,fun a o e=>?_,I.fr,I.ns,I.cell,I.len,⟨I.r.fz,fun i t e=>?_,I.r.ap,I.r.ln⟩,I.pr⟩
 .obtain⟨h1,h2⟩:=I.f a o e;exact⟨h1,fun z=>(dz z).elim (fun m=>by rw[(hf a m).n]at e;cases e) h2⟩
 .have e:(if a∈fp then s.heap.get? a else X.G a)=some o:=e
  split at e
  .exact .same e
  .exact I.g a o e
 .obtain⟨a,h1,w⟩:=I.r.ow i t e;exact⟨a,h1,ow w fun m=>(hf a m).o i t e h1⟩
theorem Ce.unpin(ho:∀b∈fp,∃o,h.get? b=some o){a:Addr}{t:T}(w:Ce (X.pin fp h) F h' a t):Ce X F h' a t:=⟨w.c,w.f,fun z=>w.k (Ax ho z),w.t⟩
theorem Inv.unpin(ok:X.Ok)(hf:∀b∈fp,¬ X.kp b)(ho:∀b∈fp,∃o,h.get? b=some o)(J:Inv (X.pin fp h) F' p' σ' s'):Inv X F' p' σ' s'/\(∀b∈fp,Fp X F' p' σ' b)/\∀b∈fp,∀o,h.get? b=some o->s'.heap.get? b=some o:=by
 have pk:∀{b:Addr},b∈fp->(X.pin fp h).kp b:=fun {b} m=>.inl (by
  show (if b∈fp then h.get? b else X.G b)≠none;rw[if_pos m];obtain⟨o,e⟩:=ho b m;rw[e];exact fun z=>nomatch z)
 refine⟨⟨ok,J.os,J.bare,J.le,fun a o e=>⟨(J.f a o e).1,fun z=>(J.f a o e).2 (Ax ho z)⟩,fun a o e=>J.g a o ?_,J.fr,J.ns,J.cell,J.len,⟨J.r.fz,fun i t e=>let ⟨a,h1,w⟩:=J.r.ow i t e;⟨a,h1,w.unpin ho⟩,J.r.ap,J.r.ln⟩,J.pr⟩,fun b m=>⟨?_,hf b m,fun i t e e2=>?_⟩,fun b m o e=>?_⟩
 .exact(if_neg fun m=>hf a m (.inl (by rw[e];exact fun z=>nomatch z))).trans e
 .cases e:F' b with
  | none=>rfl
  | some o=>exact absurd (pk m) (J.f b o e).2
 .obtain⟨a,h1,w⟩:=J.r.ow i t e;rw[e2]at h1;cases h1;exact w.k (pk m)
 .obtain⟨sl,e1,n⟩:=J.g b o (show (if b∈fp then h.get? b else X.G b)=some o by rw[if_pos m];exact e);rw[e1,n fun z=>hf b m (.inl (ok.fg b z))]
theorem Res.unpin{r:Sl}{v:Value}(ho:∀b∈fp,∃o,h.get? b=some o)(rs:Res (X.pin fp h) F p l h' r v):Res X F p l h' r v:=by
 cases r with
 | no=>exact rs
 | f t=>exact rs
 | o t=>obtain⟨a,e,w,n⟩:=rs;exact⟨a,e,w.unpin ho,n⟩
variable{w:W}{k:Nat}{N:ZG}{sc:ZW}
theorem Ct.pin(c:Ct X w k N sc)(ok:X.Ok)(hf:∀b∈fp,¬ X.kp b)(ho:∀b∈fp,∃o,h.get? b=some o):Ct (X.pin fp h) w k N sc :=
 ⟨c.nN,c.nd,c.nm,c.room,c.un,c.gd,c.bn,c.fn,c.gl,fun F p l s e cc t J x hw=>c.xe F p l s e cc t (J.unpin ok hf ho).1 ⟨x.f,fun z=>x.k (Ax ho z),x.ex⟩ hw,c.cl,c.calm⟩
theorem Sy(c:Ct X w k N sc)(hc:X.calm=true){tg:E}{t:Expr}(hg:repG N sc tg t=true){x:T}{u:Value}{Q:ZH}(I:Inv X F p l s)(y:Yl X.toMd F s.heap t x u)(ho:Ji X.pt tg=true)(e:asg tg x p=some p')(q:∀σ' s',Inv X F p' σ' s'->Q () s'):WP X (assign t X.env u) Q s:=by
 rcases y with i | ⟨ht,a,us,ts,rfl,rfl,tp,r⟩
 .exact(Hp c hc tg).1 t F p p' l s x u Q hg I i ho e q
 .cases tg with
  | tup es =>
   have hg:(match Cu t with | some xs=>Wq N sc es xs | none=>false)=true:=hg
   split at hg
   .rename_i xs ex
    obtain⟨j,pos,rfl⟩:=B1 ex;obtain⟨hl,N6⟩:=tf hg (show K2 es ts p=some p' from e);obtain⟨a1,a2⟩:=W1 (env:=X.env) N6;refine assign_Tuple_tuple (I.ok.hd hc) tp (by rw[Ul,a1, <-hl,r.length]) a2 fun h' hx=>?_;have I1:Inv X F p l { s with heap:=h' }:=I.more (t:=s.toks) (fun b o _ e=>hx b o (Fb (Mv e)) e) (fun m hn=>hn.keeps fun b o e=>hx b o (Fb (Mv e)) e) (.refl F) fun _ _ e=>.inl e;exact(Hp c hc es).2 xs F p p' l _ ts us Q hg I1 r ho e q
   .cases hg
  | v i =>
   have hg:(match Dg t with | some y=>N[i]? == some y && locs sc y | none=>false)=true:=hg
   split at hg
   .rename_i ey
    obtain⟨pos,rfl⟩:=Ux ey;cases ht
   .cases hg
  | _=>cases(show false=true from hg)
theorem ss_for(po:PassesOwn (model X.prog X.w) X.A X.env X.xe)(c:Ct X w k N sc)(hc:X.calm=true){tg it:E}{bd:S}{t iter:Expr}{body:List Stmt}{pos:Pos}(hi:SI w it X t iter)(hg:repG N sc tg t=true)(hb:∀fp h,Ct (X.pin fp h) w k N sc->SB w bd (X.pin fp h) body)(hs:∀v,foldedSetIterable iter X.env v=pure v):SS w (.loop tg it bd) X (.For t iter body [] pos):=fun F p l s D I hw=>by
 have hw:if Ji X.pt tg=true then wI w it p fun xs q=>Nt (fun x s D=>on (asg tg x s) fun s1=>wS w X.pt bd s1 D) xs q D else False:=hw
 split at hw
 rotate_left
 .exact hw.elim
 rename_i htg
 refine wpAny_For (Vz (hi F p l s _ I hw) fun v s1 h1=>Vz h1 fun itv s2 h2=>?_) hs;obtain⟨F0,p0,xs,itA,fp,tn,h0,rfl,l0,I0,Tr,t0,new,kp0,zz,q0⟩:=h2;have I2:Inv X F0 p0 l s2:=I0.kept (s:={ s2 with heap:=h0 }) (t:=s2.toks) kp0;have f0:∀b∈fp,Fp X F0 p0 l b:=fun b m=>I0.isFp (new b m);refine codeAny_forLoop_any (fun n s'=>∃i F1 p1 σ1,n=xs.length - i/\i<=xs.length/\Le F0 F1/\Inv X F1 p1 σ1 s'/\tn i s'.heap/\(∀b∈fp,Fp X F1 p1 σ1 b)/\Nt (fun x s D=>on (asg tg x s) fun s1=>wS w X.pt bd s1 D) (xs.drop i) p1 D) ?_ xs.length ⟨0,F0,p0,l,rfl,Mj _,.refl F0,I2,t0,f0,q0⟩;rintro n s3 ⟨i,F1,p1,σ1,rfl,tw,l1,I1,t1,f1,q1⟩;have fF:∀a o,F0 a=some o->s3.heap.get? a=some o:=fun a o e=>I1.fh a o (l1 a o e);by_cases wb:i<xs.length
 .rw[List.drop_eq_getElem_cons wb]at q1;have q1:on (asg tg xs[i] p1) fun s1=>wS w X.pt bd s1 ⟨fun q=>Nt (fun x s D=>on (asg tg x s) fun s1=>wS w X.pt bd s1 D) (xs.drop (i+1)) q D,D.rt,D.nx,fun q=>Nt (fun x s D=>on (asg tg x s) fun s1=>wS w X.pt bd s1 D) (xs.drop (i+1)) q D⟩:=q1;obtain⟨p2,ea,q1⟩:=Z9 q1;refine wpAny_passesOwn po (Tr.item X.A i s3 X.xe (fun u s5=>∃h' tk,s5={ s3 with heap:=h',toks:=tk }/\(∀b o,b ∉ fp->s3.heap.get? b=some o->h'.get? b=some o)/\tn (i+1) h'/\Yl X.toMd F0 h' t xs[i] u) (I1.ok.hd hc) t1 fF wb (fun h' tk u k' t' y=>⟨h',tk,rfl,k',t',y⟩) |> fun z=>wpAny_mono z (fun r s4 ⟨u,hr,h4⟩=>?_) fun _ _ z=>z);subst hr;refine wpAny_passesOwn po (Vz h4 fun _ s5 ⟨h',tk,e5,k5,t5,y5⟩=>?_);subst e5;have I5:Inv X F1 p1 σ1 { s3 with heap:=h',toks:=tk }:=I1.turned f1 k5;have ho:=Tr.obj _ _ t5;have nk:∀b∈fp,¬ X.kp b:=fun b m=>(f1 b m).k;have I6:=I5.pin f1 ho;have cp:Ct (X.pin fp h') w k N sc:=c.pin I1.ok nk ho;have y6:Yl (X.pin fp h').toMd F1 h' t xs[i] u:=y5.imp (fun i=>i.up l1) fun⟨a,b,c,d,e,g,hh,r⟩=>⟨a,b,c,d,e,g,hh,r.up l1⟩;refine wpAny_passesOwn po (Vz (Sy (X:=X.pin fp h') cp hc hg I6 y6 htg ea (Q:=fun _ s6=>∃σ6,Inv (X.pin fp h') F1 p2 σ6 s6) fun σ' s' J=>⟨σ',J⟩) fun _ s6 ⟨σ6,J6⟩=>?_);refine wpAny_passesOwn po (Vz (hb fp h' cp F1 p2 σ6 s6 _ J6 q1) fun f s7 ⟨F7,p7,σ7,l7,J7,q7⟩=>?_);obtain⟨I7,f7,k7⟩:=J7.unpin I1.ok nk ho;have l70:=l0.trans (l1.trans l7);cases f with
  | next=>exact⟨_,by omega,i+1,F7,p7,σ7,rfl,wb,l1.trans l7,I7,Tr.keep _ _ _ t5 k7,f7,q7⟩
  | cont=>exact⟨_,by omega,i+1,F7,p7,σ7,rfl,wb,l1.trans l7,I7,Tr.keep _ _ _ t5 k7,f7,q7⟩
  | brk=>exact⟨F7,p7,σ7,l70,I7,q7⟩
  | ret v=>obtain⟨r,rs,q7⟩:=q7;exact⟨F7,p7,σ7,l70,I7,r,rs.unpin ho,q7⟩
 .have ei:i=xs.length:=by omega
  subst ei;rw[List.drop_length]at q1;refine wpAny_passesOwn po (Tr.done X.A xs.length s3 X.xe _ (I1.ok.hd hc) t1 fF (N4 _) fun h' tk k'=>?_);exact wpAny_execs_nil ⟨F1,p1,σ1,l0.trans l1,I1.turned f1 k',q1⟩
end
theorem Oo:∀{fr:ZV} {q p:P},fr.length=q.length->(back fr q p).length=p.length/\∀(i:Nat) (s:Sl),(back fr q p)[i]?=some s->(p[i]?=some s/\∀k:Nat,fr[k]?≠some (some i))\/∃k:Nat,fr[k]?=some (some i)/\q[k]?=some s
 | [],q,p,_=>⟨rfl,fun i s h=>.inl ⟨h,fun k z=>by simp at z⟩⟩
 | none::fr,[],p,h=>by cases h
 | some j::fr,[],p,h=>by cases h
 | none::fr,x::q,p,h=>by
  obtain⟨h1,h2⟩:=Oo (fr:=fr) (q:=q) (p:=p) (Nat.succ.inj h);refine⟨h1,fun i s e=>?_⟩;rcases h2 i s e with ⟨a,b⟩ | ⟨k,a,b⟩
  .refine .inl ⟨a,fun k z=>?_⟩;cases k with
   | zero=>cases z
   | succ k=>exact b k z
  .exact .inr ⟨k+1,a,b⟩
 | some j::fr,x::q,p,h=>by
  obtain⟨h1,h2⟩:=Oo (fr:=fr) (q:=q) (p:=p.set j x) (Nat.succ.inj h);refine⟨h1.trans (XX ..),fun i s e=>?_⟩;rcases h2 i s e with ⟨a,b⟩ | ⟨k,a,b⟩
  .rcases Vq a with ⟨z1,z2⟩ | ⟨n,a⟩
   .exact .inr ⟨0,by rw[z1];rfl,by rw[z2];rfl⟩
   .refine .inl ⟨a,fun k z=>?_⟩;cases k with
    | zero=>cases z;exact n rfl
    | succ k=>exact b k z
  .exact .inr ⟨k+1,a,b⟩
abbrev Ew(fr:ZV)(j:Nat):Prop:=∃k:Nat,fr[k]?=some (some j)
noncomputable def Hk(X:Cx)(F:OM)(p:P)(l:Vs)(s:Shared)(scope:Scope)(ns:ZG)(fr:ZV)(L:Addr):Cx :=
 { X with N:=ns,env:=compEnvC scope (Y2 X.env scope.names []) L X.env,outer:=X.stack,stack:=X.stack,own:=false,os:=s.os,G:=GG F p l (Ew fr) s.heap,F0:=F,σ0:=frees fr l,pt:=fun i=>(fr[i]?).join.isSome,xe:=oz }
structure O4(X:Cx)(scope:Scope)(N:ZG)(fr:ZV):Prop where
 clos:closureFor scope X.env=pure (Y2 X.env scope.names [])
 kind:scope.kind=.function
 nocell:∀y∈scope.names,y.2≠.cell
 names:∀y∈scope.names,y.2=.local->scope.names.lookup y.1=some .local
 cells:∀x c,(Y2 X.env scope.names []).lookup x=some c->X.env.cells.lookup x=some c
 has:∀x,((relabel scope X.env).names.lookup x=some .cell\/(relabel scope X.env).names.lookup x=some .free)->∃c,(Y2 X.env scope.names []).lookup x=some c
 len:fr.length=N.length
 fr:∀(i j:Nat),fr[i]?=some (some j)->∃x,N[i]?=some x/\X.N[j]?=some x/\¬ X.env.kindOf x=some .local/\((relabel scope X.env).names.lookup x=some .cell\/(relabel scope X.env).names.lookup x=some .free)
theorem xb{X:Cx}{NX:ZG}{outer scope:Scope}{N:ZG}{fr:ZV}(nx:X.N=NX)(sc:X.env.scope.names=outer.names)(h1:Li outer scope=true)(ok2:Ga NX scope.names N fr=true)(ok:X.Ok):O4 X scope N fr:=by
 unfold Li at h1;simp only[Jx,decide_eq_true_eq,R5,Bool.or_eq_true]at h1;obtain⟨hk,hn⟩:=h1
 have kof:∀x,X.env.kindOf x=outer.names.lookup x:=fun x=>by
  show X.env.scope.names.lookup x=_;rw[sc]
 have Zxo:∀y∈scope.names,y.2=.free->X.env.kindOf y.1=some .cell\/X.env.kindOf y.1=some .free:=fun y hy e=>by
  rcases(hn y hy).2 with (z | z) | z
  .exact absurd e z
  .exact .inl ((kof _).trans z)
  .exact .inr ((kof _).trans z)
 have Er:∀y∈scope.names,y.2=.free->∃c,X.env.cells.lookup y.1=some c:=fun y hy e=>ok.has y.1 (Zxo y hy e);refine⟨Fj Er,hk,fun y hy=>(hn y hy).1.1,fun y hy e=>?_,fun x c e=>?_,fun x h=>?_,Wu ok2,fun i j e=>?_⟩
 .rcases(hn y hy).1.2 with z | z
  .exact absurd e z
  .exact z
 .exact W6 Er (fun p hp=>by cases hp) (x,c) (PySem.mem_of_lookup e)
 .have hm:(x,NameKind.free)∈scope.names:=by
   rcases h with h | h
   .obtain⟨k0,h1,h2⟩:=Cg h;rcases h2 with h2 | ⟨h2,_⟩
    .exact absurd h2.symm (hn _ h1).1.1
    .subst h2;exact h1
   .obtain⟨k0,h1,h2⟩:=Cg h;rcases h2 with h2 | ⟨_,h2⟩
    .subst h2;exact h1
    .cases h2
  obtain⟨c,hc⟩:=W7 (env:=X.env) (cs:=[]) hm;exact Nq hc
 .obtain⟨x,q1,q2,q3⟩:=Wa ok2 e;have hm:=PySem.mem_of_lookup q3;have hf:=Zxo (x,.free) hm rfl;refine⟨x,q1,by rw[nx];exact q2, ?_,Mu q3⟩;intro z;dsimp only at hf;rw[z]at hf;rcases hf with hf | hf<;>cases hf
section
variable{X:Cx}{scope:Scope}{N:ZG}{fr:ZV}{F F':OM}{p q:P}{V τ:Vs}{s s':Shared}{L:Addr}
theorem sub_B:Sub X F p V s (Ew fr) (Hk X F p V s scope N fr L):=⟨rfl,rfl,rfl,rfl,rfl⟩
theorem Tu{i:Nat}{v:Value}(h:(frees fr V)[i]?=some (some v)):∃j,fr[i]?=some (some j)/\V[j]?=some (some v):=by
 unfold frees at h;rw[lg]at h;cases e:fr[i]? with
 | none=>rw[e]at h;cases h
 | some o =>
  rw[e]at h;cases o with
  | none=>cases h
  | some j =>
   refine⟨j,rfl, ?_⟩;have h':(V[j]?).bind id=some v:=Nf h;cases e2:V[j]? with
   | none=>rw[e2]at h';cases h'
   | some o2=>rw[e2]at h';exact congrArg some h'
theorem D7{i j:Nat}{v:Value}(e:fr[i]?=some (some j))(h:V[j]?=some (some v)):(frees fr V)[i]?=some (some v):=by
 unfold frees;rw[lg,e];show some ((V[j]?).bind id)=_;rw[h];rfl
theorem Bt{i:Nat}{x:Sl}(h:(fre fr p)[i]?=some x)(n:x≠.no):∃j,fr[i]?=some (some j)/\p[j]?=some x:=by
 unfold fre at h;rw[lg]at h;cases e:fr[i]? with
 | none=>rw[e]at h;cases h
 | some o =>
  rw[e]at h;cases o with
  | none=>cases h;exact absurd rfl n
  | some j =>
   refine⟨j,rfl, ?_⟩;have h':(p[j]?).getD .no=x:=Nf h;cases e2:p[j]? with
   | none=>rw[e2]at h';exact absurd h'.symm n
   | some o2=>rw[e2]at h';exact congrArg some h'
theorem du(C:O4 X scope N fr)(I:Inv X F p V s)(hN:N.Nodup)(hXN:X.N.Nodup)(new:s.heap.get? L=none)(hL:X.base.objs.size<=L){h1:Heap}{tk:Nat}(hns:h1.Ns L fun _=>none)(hk:∀b o,s.heap.get? b=some o->h1.get? b=some o) :
  Inv (Hk X F p V s scope N fr L) F (fre fr p) (frees fr V) { s with heap:=h1,toks:=tk }:=by
 have gk:∀{b:Addr},X.kp b->GG F p V (Ew fr) s.heap b≠none:=fun {b} k=>by
  obtain⟨o,e⟩:=I.kpAt k;rw[Bg (I.kpF k) (fun i t _ q1 q2=>?_) e]
  .exact fun z=>nomatch z
  .obtain⟨c,g1,w⟩:=I.r.ow i t q1;rw[q2]at g1;cases g1;exact w.k k
 have mn:∀{b:Addr},(Hk X F p V s scope N fr L).mn b->b=L:=fun {b} h=>by
  rcases h with h | ⟨z,_⟩
  .exact h
  .cases z
 have nokp:∀{b:Addr} {o:Obj},s.heap.get? b=some o->GG F p V (Ew fr) s.heap b=none->¬ (Hk X F p V s scope N fr L).kp b:=fun {b o} e g h=>by
  rcases h with h | h
  .exact h g
  .rw[mn h,new]at e;cases e
 have cell:∀x c,(Y2 X.env scope.names []).lookup x=some c->∃v,h1.IsCell c v:=fun x c e=>by
  obtain⟨v,o,e1,d⟩:=I.cell x c (C.cells x c e);exact⟨v,o,hk c o e1,d⟩
 refine⟨⟨I.ok.mod,C.kind,I.ok.gl,I.ok.bl,hL,fun x y c e1 e2=>I.ok.inj x y c (C.cells x c e1) (C.cells y c e2),fun x h=>C.has x h,I.ok.hd,I.ok.frames,.inl rfl,fun a o e=>I.le a o (I.ok.b a o e),fun b hb=>gk (I.stackKp hb),fun a ma=>by rw[mn ma];exact Pa new,fun x c e=>.inr (gk (I.cellKp (C.cells x c e)))⟩,
  rfl,I.bare,.refl F,fun a o e=>?_,fun a o e=>.same (hk a o ?_),Gv (fun b _ o e=>⟨o.slots,hk b o e⟩) I.stack,⟨_,hns,fun i x v e1 e2=>?_⟩,cell, ?_, ?_,fun _ _=>rfl⟩
 .obtain⟨g1,_⟩:=I.f a o e;exact⟨hk a o g1,nokp g1 (Eh (by rw[e];exact fun z=>nomatch z))⟩
 .have e:GG F p V (Ew fr) s.heap a=some o:=e;unfold GG at e
  split at e
  .cases e
  .exact e
 .obtain⟨j,q1,q2⟩:=Tu e2;obtain⟨x',n1,n2,nl,k⟩:=C.fr i j q1;obtain rfl:x=x':=Nf (e1.symm.trans n1);obtain⟨m,hm,hl⟩:=I.ns;rcases hl j x v n2 q2 with ⟨l1,_⟩ | ⟨_,c,l2,o,l3,l4⟩
  .exact absurd l1 nl
  .obtain⟨c',jm⟩:=C.has x k;have ec:=C.cells x c' jm;rw[l2]at ec;cases ec;exact .inr ⟨k,c,jm,o,hk c o l3,l4⟩
 .show (frees fr V).length=N.length;unfold frees;rw[Y9,C.len]
 .refine⟨fun i t e=>?_,fun i t e=>?_,fun i j t u a e1 e2 g1 g2=>?_,by unfold fre frees;rw[Y9,Y9]⟩
  .obtain⟨j,q1,q2⟩:=Bt e fun z=>nomatch z;obtain⟨v,h1,h2⟩:=I.r.fz j t q2;exact⟨v,D7 q1 h1,h2⟩
  .obtain⟨j,q1,q2⟩:=Bt e fun z=>nomatch z;obtain⟨a,g1,w⟩:=I.r.ow j t q2;obtain⟨o,eo⟩:=w.at;exact⟨a,D7 q1 g1,w.c,w.f,nokp eo (xv ⟨i,q1⟩ q2 g1),w.t.to (D':=h1.get?) w.c (hk a)⟩
  .obtain⟨k,q1,q2⟩:=Bt e1 fun z=>nomatch z;obtain⟨l,q3,q4⟩:=Bt e2 fun z=>nomatch z;obtain⟨b,h1,_⟩:=I.r.ow k t q2;obtain⟨c,h2,_⟩:=I.r.ow l u q4;rw[D7 q1 h1]at g1;cases g1;rw[D7 q3 h2]at g2;cases g2;have:=I.r.ap k l t u a q2 q4 h1 h2;subst this;obtain⟨x,n1,n2,_⟩:=C.fr i k q1;obtain⟨y,n3,n4,_⟩:=C.fr j k q3;rw[n2]at n4;cases n4;exact Wm hN n1 n3
theorem A0(C:O4 X scope N fr)(I:Inv X F p V s)(new:s.heap.get? L=none)(J:Inv (Hk X F p V s scope N fr L) F' q τ s'):Le F F'/\Inv X F' (back fr q p) V s'/\(∀r v,Res (Hk X F p V s scope N fr L) F' q τ s'.heap r v->Res X F' (back fr q p) V s'.heap r v)/\Fp X F' (back fr q p) V L:=by
 have hl:fr.length=q.length:=by rw[J.r.ln,J.len,C.len];rfl
 obtain⟨b1,b2⟩:=Oo (p:=p) hl
 have val:∀{i k:Nat} {v:Value},fr[k]?=some (some i)->τ[k]?=some (some v)->τ[k]?=V[i]?:=fun {i k v} e1 e2=>by
  have:τ[k]?=(frees fr V)[k]?:=J.pr k (show (fr[k]?).join.isSome=true by rw[e1];rfl);rw[this]at e2;obtain⟨j,g1,g2⟩:=Tu e2;rw[e1]at g1;cases g1;rw[this,D7 e1 g2,g2]
 have kL:(Hk X F p V s scope N fr L).kp L:=.inr (.inl rfl);have ex:=I.exit (p2:=back fr q p) (ι:=fun k=>(fr[k]?).join) sub_B J (fun i t e=>?_) (fun i t e=>?_) b1;refine⟨ex.1,ex.2.1,ex.2.2,⟨J.kpF kL,fun z=>?_,fun i t e e2=>?_⟩⟩
 .obtain⟨o,eo⟩:=I.kpAt z;rw[new]at eo;cases eo
 .rcases b2 i _ e with ⟨h,_⟩ | ⟨k,h1,h2⟩
  .obtain⟨a,g1,w⟩:=I.r.ow i t h;rw[e2]at g1;cases g1;obtain⟨x,hx⟩:=w.at;rw[new]at hx;cases hx
  .obtain⟨a,g1,w⟩:=J.r.ow k t h2;rw[val h1 g1,e2]at g1;cases g1;exact w.k kL
 .rcases b2 i _ e with ⟨h,_⟩ | ⟨k,h1,h2⟩
  .exact .inl h
  .obtain⟨v,g1,_⟩:=J.r.fz k t h2;exact .inr ⟨k,h2,val h1 g1⟩
 .rcases b2 i _ e with ⟨h,n⟩ | ⟨k,h1,h2⟩
  .exact .inl ⟨h,fun⟨k,hk⟩=>n k hk⟩
  .obtain⟨a,g1,_⟩:=J.r.ow k t h2;exact .inr ⟨k,h2,val h1 g1,by rw[h1];rfl⟩
end
theorem Ii{prog:Program}{w:World}{A:Around}{E:ZQ}{s:Shared}{a:Addr}{us:ZK}{n:Nat}{u:Value}{Q:ZQ}(e:s.heap.get? a=some { cls:=.type "list",data:=.seq us.toArray n })(hz:us.length<sizeLine)
  (k:∀h' m,(∀b,b≠a->h'.get? b=s.heap.get? b)->h'.get? a=some { cls:=.type "list",data:=.seq (us++[u]).toArray m }->Q .none { s with heap:=h' }):wpAny (model prog w) A (call (.builtin "list.append") [.ref a,u]) Q E s:=by
 refine call_meets PySem.F.slot_list_append ⟨_,e,rfl⟩ PySem.F.entry_list_append (PySem.F.args_list_append_2 _ _) (PySem.list_append a us.toArray n u (by rw[Ul];omega)) ⟨e, ?_⟩
 have em:Obj.mapSeq (fun x=>x.push u) { cls:=.type "list",data:=.seq us.toArray n }={ cls:=.type "list",data:=.seq (us++[u]).toArray (n+1) }:=by
  simp[Obj.mapSeq]
 exact k _ _ (fun b nb=>Heap.get?_update_other _ _ (Ne.symm nb)) ((Heap.get?_update_self _ e (by rfl)).trans (congrArg some em))
def B0(w:W)(tg c el:E):T->P->(Option T->P->Prop)->Prop:=fun x s K=>on (asg tg x s) fun s1=>if isNil c=true then wE w.nx el s1 fun r s2=>Cy r fun y=>K (some y) s2
 else wE w.nx c s1 fun r s2=>Q5 r fun b=>if b=true then wE w.nx el s2 fun r s3=>Cy r fun y=>K (some y) s3 else K none s2
def HT(w:W)(c:E)(Y:Cx)(ifs:ZM):Prop:=∀(F:OM) (p:P) (l:Vs) (s:Shared) (Q:Bool->P->Prop),Inv Y F p l s->(if isNil c=true then Q true p else wE w c p fun r q=>Q5 r fun b=>Q b q)->WP Y (Xo ifs Y.env) (TP Y F l Q) s
theorem ht_nil{w:W}{c:E}{Y:Cx}(h:isNil c=true):HT w c Y []:=fun F p l s Q I q=>by
 rw[if_pos h]at q;exact wpAny_tests_nil ⟨F,p,.refl F,I,q⟩
theorem ht_one{w:W}{c:E}{Y:Cx}{z:Expr}(h:isNil c=false)(hc:ST w c Y z (eval z Y.env)):HT w c Y [z]:=fun F p l s Q I q=>by
 rw[if_neg (by rw[h];exact Qv)]at q;exact wpAny_tests_one (hc F p l s Q I q)
section
variable{X:Cx}{w:W}{k:Nat}{N:ZG}{sc:Scope}{scope:Scope}{ns:ZG}{fr:ZV}
theorem Ct.comp(c:Ct X w k N sc.names)(h1:Li sc scope=true)(nd:ns.Nodup){F:OM}{p:P}{l:Vs}{s:Shared}{L:Addr}:Ct (Hk X F p l s scope ns fr L) w.nx k ns scope.names:=by
 refine⟨rfl,nd,fun x kd e=>?_,c.room,c.un,c.gd,c.bn,c.fn,c.gl,fun _ _ _ _ _ _ _ _ _ z=>z.elim,fun x e=>?_,c.calm⟩
 .have e2:(relabel scope X.env).names.lookup x=some (if (kd == NameKind.free && X.env.scope.kind == .function && X.env.kindOf x == some .cell)=true then NameKind.cell else kd):=by
   rw[M9,Ud (f:=fun n k=>if (k == NameKind.free && X.env.scope.kind == .function && X.env.kindOf n == some .cell)=true then NameKind.cell else k),e]
   rfl
  show (relabel scope X.env).names.lookup x=some kd\/(kd=NameKind.free/\(relabel scope X.env).names.lookup x=some NameKind.cell);rw[e2]
  split
  .rename_i h
   simp only[Jx,beq_iff_eq]at h;exact .inr ⟨h.1.1,rfl⟩
  .exact .inl rfl
 .unfold Li at h1;simp only[Jx,decide_eq_true_eq,R5,Bool.or_eq_true]at h1;exact absurd rfl (h1.2 (x,.cell) (PySem.mem_of_lookup e)).1.1
theorem Kv(c:Ct X w k N sc.names)(hc:X.calm=true)(C:O4 X scope ns fr)(h1:Li sc scope=true)(nd:ns.Nodup){tg cd el:E}{t elt iter:Expr}{ifs:ZM}{pos:Pos}(hg:repG ns scope.names tg t=true)(htg:Ji (fun i=>(fr[i]?).join.isSome) tg=true)
  (ht:∀Y,Ct Y w.nx k ns scope.names->HT w.nx cd Y ifs) (he:∀Y,Ct Y w.nx k ns scope.names->SE w.nx el Y elt) {F:OM} {l:Vs} {s2:Shared} {itv:Value} {Q:Sl->P->Prop} {RR:Value->Addr->Result->Shared->Prop} {E:ZQ}
  (h2:IE X F l t (fun xs q=>V4 (B0 w tg cd el) xs [] (fre fr q) fun ys s=>Q (.o (.lst ys)) (back fr s q)) itv s2)
  (tv:∀(D L:Addr) (fl:Flow) (s':Shared) (F':OM) (p':P) (ys:ZZ) (m:ZJ),Le F F'->Inv X F' p' l s'->Res X F' p' l s'.heap (.o (.lst ys)) (.ref D)->Fp X F' p' l L->D≠L->s'.heap.Ns L m->Q (.o (.lst ys)) p'->RR (.ref D) L (.ok fl) s') :
  wpAny (model X.prog X.w) X.A (newList []) (fun acc s₃=>wpAny (model X.prog X.w) X.A (newFunctionEnv scope X.env.globals (Y2 X.env scope.names []) [] X.env.qual none .none (some X.env)) (fun cenv s₄ =>
   codeAny (model X.prog X.w) X.A (.compStart (.ListComp elt [⟨t,iter,ifs,0⟩] scope pos) 0 itv acc { cenv with scope:=relabel scope X.env }) (RR acc cenv.locals) s₄) E s₃) E s2:=by
 obtain⟨F0,p0,xs,itA,fp,tn,h0,rfl,l0,I0,Tr,t0,new,kp0,zz,q0⟩:=h2;have obj0:=Tr.obj 0 _ t0;refine wpAny_newObj_type (wpAny_newFunctionEnv C.nocell (by intro y hy;simp at hy) (fun hh hns hsb=>?_) C.kind);dsimp only at hns hsb ⊢;have eD:(s2.heap.push { cls:=.type "list",data:=.seq ([]:ZK).toArray }).get? s2.heap.objs.size=some { cls:=.type "list",data:=.seq ([]:ZK).toArray }:=Mw _ rfl;have nLD:s2.heap.objs.size≠(s2.heap.push { cls:=.type "list",data:=.seq ([]:ZK).toArray }).objs.size:=by rw[Heap.size_push];omega
 have hk1:∀b o,(s2.heap.push { cls:=.type "list",data:=.seq ([]:ZK).toArray }).get? b=some o->hh.get? b=some o:=fun b o e=>hsb.extBut b o (Fb (Mv e)) (Vn _ e);have hk2:∀b o,s2.heap.get? b=some o->hh.get? b=some o:=fun b o e=>hk1 b o (Vn _ e);have szL:s2.heap.objs.size<(s2.heap.push { cls:=.type "list",data:=.seq ([]:ZK).toArray }).objs.size:=by rw[Heap.size_push];omega
 have eD1:=hk1 _ _ eD;generalize hD:s2.heap.objs.size=D at *;generalize hL:(s2.heap.push { cls:=.type "list",data:=.seq ([]:ZK).toArray }).objs.size=L at *
 have new0:∀{b:Addr},D<=b->h0.get? b=none:=fun {b} h=>by
  cases e:h0.get? b with
  | none=>rfl
  | some o=>exact absurd (Mv (kp0 b o e)) (by rw[hD];exact Nat.not_lt_of_le h)
 have I2:Inv X F0 p0 l s2:=I0.kept (s:={ s2 with heap:=h0 }) (t:=s2.toks) kp0
 have hbL:X.base.objs.size<=L:=by
  have a1:=I2.ok.ab;have a2:=I2.lt;rw[hD]at a2;exact Nat.le_of_lt (N0o a1 (Nat.lt_trans a2 szL))
 have J1:=du (h1:=hh) (tk:=s2.toks+([]:List (Str×Value)).length) C I0 nd (by rw[c.nN];exact c.nd) (new0 (Nat.le_of_lt szL)) hbL hns (fun b o e=>hk2 b o (kp0 b o e))
 have nD:D ∉ fp:=fun m=>by
  obtain⟨o,e⟩:=obj0 D m;exact absurd (Mv e) (by rw[hD];exact Nat.lt_irrefl _)
 have fpY:∀b∈D::fp,Fp (Hk X F0 p0 l { s2 with heap:=h0 } scope ns fr L) F0 (fre fr p0) (frees fr l) b:=fun b m=>by
  have nb:h0.get? b=none/\b≠L:=by
   rcases Ya.mp m with rfl | m
   .exact⟨new0 (N4 _),nLD⟩
   .obtain⟨o,e⟩:=obj0 b m;exact⟨new b m,fun z=>absurd (Mv e) (by rw[hD,z];exact Nat.not_lt_of_le (Nat.le_of_lt szL))⟩
  have f0:=I0.isFp nb.1;refine⟨f0.n,fun z=>?_,fun i u e e2=>?_⟩
  .rcases z with z | z | ⟨z,_⟩
   .exact z (Pa nb.1)
   .exact nb.2 z
   .cases z
  .obtain⟨j,g1,g2⟩:=Bt e fun z=>nomatch z;obtain⟨j',g3,g4⟩:=Tu e2;rw[g1]at g3;cases g3;exact f0.o j u g2 g4
 have cY:Ct (Hk X F0 p0 l { s2 with heap:=h0 } scope ns fr L) w.nx k ns scope.names:=c.comp h1 nd;have okY:=J1.ok
 have loop:codeAny (model X.prog X.w) X.A (.compLoop (.ListComp elt [⟨t,iter,ifs,0⟩] scope pos) 0 (.ref itA) (.ref D) (Hk X F0 p0 l { s2 with heap:=h0 } scope ns fr L).env) (RR (.ref D) L) { s2 with heap:=hh,toks:=s2.toks+([]:List (Str×Value)).length }:=by
  refine Ob (fun n s'=>∃i F1 q1 τ1 us ys m,n=xs.length - i/\i<=xs.length/\Le F0 F1/\Inv (Hk X F0 p0 l { s2 with heap:=h0 } scope ns fr L) F1 q1 τ1 s'/\tn i s'.heap/\(∀b∈D::fp,Fp (Hk X F0 p0 l { s2 with heap:=h0 } scope ns fr L) F1 q1 τ1 b) /\
   s'.heap.get? D=some { cls:=.type "list",data:=.seq us.toArray m }/\Zo X.toMd F1 ys us/\us.length<=i/\V4 (B0 w tg cd el) (xs.drop i) ys q1 fun ys s=>Q (.o (.lst ys)) (back fr s p0)) ?_ xs.length ⟨0,F0,_,_,[],[],0,rfl,Mj _,.refl F0,J1,Tr.keep _ _ _ t0 (fun b _ o e=>hk2 b o e),fpY,eD1,.nil,N4 _,q0⟩
  rintro n s3 ⟨i,F1,q1,τ1,us,ys,m,rfl,tw,l1,J3,t3,f3,e3,r3,z3,w3⟩;have fF:∀a o,F0 a=some o->s3.heap.get? a=some o:=fun a o e=>J3.fh a o (l1 a o e);by_cases wb:i<xs.length
  .rw[List.drop_eq_getElem_cons wb]at w3
   have w3:B0 w tg cd el xs[i] q1 fun o p'=>match o with
    | some y=>V4 (B0 w tg cd el) (xs.drop (i+1)) (ys++[y]) p' fun ys s=>Q (.o (.lst ys)) (back fr s p0)
    | none=>V4 (B0 w tg cd el) (xs.drop (i+1)) ys p' fun ys s=>Q (.o (.lst ys)) (back fr s p0):=w3
   obtain⟨p2,ea,w3⟩:=Z9 w3;refine wpAny_mono (Tr.item X.A i s3 oz (fun u s5=>∃h' tk,s5={ s3 with heap:=h',toks:=tk }/\(∀b o,b ∉ fp->s3.heap.get? b=some o->h'.get? b=some o)/\tn (i+1) h'/\Yl X.toMd F0 h' t xs[i] u) (J3.ok.hd hc) t3 fF wb (fun h' tk u k' t' y=>⟨h',tk,rfl,k',t',y⟩)) (fun r s4 ⟨u,hr,h4⟩=>?_) fun _ _ z=>z;subst hr;show Xx _ _ _ _ _ _ _ _ _ _ _ _;refine wpAny_mono h4 (fun _ s5 ⟨h',tk,e5,k5,t5,y5⟩=>?_) fun _ _ z=>z;subst e5;have kD:=k5 D _ nD e3;have I5:=J3.turned (fp:=D::fp) (h':=h') (tk:=tk) f3 (fun b o n e=>k5 b o (fun z=>n (Y5 _ z)) e)
   have ho:∀b∈D::fp,∃o,h'.get? b=some o:=fun b mb=>by
    rcases Ya.mp mb with rfl | mb
    .exact⟨_,kD⟩
    .exact Tr.obj _ _ t5 b mb
   have nk:∀b∈D::fp,¬ (Hk X F0 p0 l { s2 with heap:=h0 } scope ns fr L).kp b:=fun b mb=>(f3 b mb).k;have I6:=I5.pin f3 ho;have cp:=cY.pin (fp:=D::fp) (h:=h') okY nk ho;have y6:Yl X.toMd F1 h' t xs[i] u:=y5.imp (fun i=>i.up l1) fun⟨a,b,c,d,e,g,hh,r⟩=>⟨a,b,c,d,e,g,hh,r.up l1⟩;refine wpAny_mono (Sy (X:=(Hk X F0 p0 l { s2 with heap:=h0 } scope ns fr L).pin (D::fp) h') cp hc hg I6 y6 htg ea (Q:=fun _ s6=>∃σ6,Inv ((Hk X F0 p0 l { s2 with heap:=h0 } scope ns fr L).pin (D::fp) h') F1 p2 σ6 s6) fun σ' s' J=>⟨σ',J⟩) (fun _ s6 ⟨σ6,J6⟩=>?_) fun _ _ z=>z;refine wpAny_mono (ht _ cp F1 p2 σ6 s6 (fun b q=>if b=true then wE w.nx el q fun r s3=>Cy r fun y=>V4 (B0 w tg cd el) (xs.drop (i+1)) (ys++[y]) s3 fun ys s=>Q (.o (.lst ys)) (back fr s p0) else V4 (B0 w tg cd el) (xs.drop (i+1)) ys q fun ys s=>Q (.o (.lst ys)) (back fr s p0)) J6 ?_) (fun ok s9 ⟨F9,p9,l9,J9,q9⟩=>?_) fun _ _ z=>z
   .split at w3
    .rename_i hn
     rw[if_pos hn,if_pos rfl];exact w3
    .rename_i hn
     rw[if_neg hn];exact w3
   unfold L2.TurnEnd;cases ok with
   | false =>
    rw[if_neg Qv]at q9 ⊢;obtain⟨I9,f9,k9⟩:=J9.unpin okY nk ho;exact⟨_,by omega,i+1,F9,p9,σ6,us,ys,m,rfl,wb,l1.trans l9,I9,Tr.keep _ _ _ t5 (fun b mb o e=>k9 b (Y5 _ mb) o e),f9,k9 D Yb _ kD,r3.up l9,by omega,q9⟩
   | true =>
    rw[if_pos rfl]at q9 ⊢;refine wpAny_mono (he _ cp F9 p9 σ6 s9 _ J9 q9) (fun yv qc q10=>?_) fun _ _ z=>z;obtain⟨F10,p10,y,l10,J10,iy,q10⟩:=q10.t;obtain⟨I10,f10,k10⟩:=J10.unpin okY nk ho;have e10:=k10 D Yb _ kD;refine Ii e10 (by omega) fun g11 m' kk e11=>?_;have I11:=I10.turned (fp:=D::fp) (h':=g11) (tk:=qc.toks) f10 (fun b o n e=>(kk b fun z=>n (z ▸ Yb)).trans e);refine⟨_,by omega,i+1,F10,p10,σ6,us++[yv],ys++[y],m',rfl,wb,l1.trans (l9.trans l10),I11,Tr.keep _ _ _ t5 (fun b mb o e=>(kk b fun z=>nD (z ▸ mb)).trans (k10 b (Y5 _ mb) o e)),f10,e11,Gn (r3.up (l9.trans l10)) (.cons iy .nil), ?_,q10⟩;rw[Nb,ZU];omega
  .have ei:i=xs.length:=by omega
   subst ei;rw[List.drop_length]at w3;refine Tr.done X.A xs.length s3 oz _ (J3.ok.hd hc) t3 fF (N4 _) fun h' tk k'=>?_;have J4:=J3.turned (fp:=D::fp) (h':=h') (tk:=tk) f3 (fun b o n e=>k' b o (fun z=>n (Y5 _ z)) e);obtain⟨l4,I4,rs4,fL⟩:=A0 C I0 (new0 (Nat.le_of_lt szL)) J4;obtain⟨mm,hmm,_⟩:=J4.ns;have fD:=f3 D Yb;have eD':=k' D _ nD e3;exact tv D L .next _ F1 _ ys mm (l0.trans l1) I4 (rs4 (.o (.lst ys)) (.ref D) ⟨D,rfl,⟨rfl,fD.n,fD.k,.mkL (us:=us) eD' ⟨by omega,m,rfl⟩ r3⟩,fD.o⟩) fL nLD hmm w3
 exact codeAny_compStart_list loop (Tr.self _ 0 _ _ _ (Tr.keep _ _ _ t0 fun b _ o e=>hk2 b o e) loop)
end
section
variable{X:Cx}{w:W}{k:Nat}{N:ZG}{sc:Scope}{scope:Scope}{ns:ZG}{fr:ZV}
theorem Res.turned{F:OM}{p:P}{l:Vs}{h h':Heap}{r:Sl}{v:Value}{b:Addr}(rs:Res X F p l h r v)(n:∀a,v=.ref a->a≠b)(k:∀a,a≠b->h'.get? a=h.get? a):Res X F p l h' r v:=by
 cases r with
 | no=>exact rs
 | f t=>exact rs
 | o t=>obtain⟨a,rfl,w,m⟩:=rs;exact⟨a,rfl,w.to (.refl F) w.f fun x e=>(k a (n a rfl)).trans e,m⟩
theorem uk(c:Ct X w k N sc.names)(ct:X.env.scope.names=sc.names)(hc:X.calm=true)(h1:Li sc scope=true)(ok2:Ga N scope.names ns fr=true)(nd:ns.Nodup){tg it cd el:E}{t elt iter:Expr}{ifs:ZM}{pos:Pos}(hi:SI w it X t iter)(hg:repG ns scope.names tg t=true)(htg:Ji (fun i=>(fr[i]?).join.isSome) tg=true)
  (ht:∀Y,Ct Y w.nx k ns scope.names->HT w.nx cd Y ifs) (he:∀Y,Ct Y w.nx k ns scope.names->SE w.nx el Y elt) (hs:∀x,foldedSetIterable iter X.env x=pure x):SE w (.comp tg it cd el fr ns) X (.ListComp elt [⟨t,iter,ifs,0⟩] scope pos):=fun F p V s Q I hw=>by
 have C:=xb c.nN ct h1 ok2 I.ok;rw[eval_ListComp];refine wpAny_comprehension_free (use:=none) rfl hs C.clos C.kind C.names (Vz (hi F p V s (fun xs q=>V4 (B0 w tg cd el) xs [] (fre fr q) fun ys s=>Q (.o (.lst ys)) (back fr s q)) I hw) fun v s1 g1=>Vz g1 fun itv s2 h2=>?_);refine Kv (RR:=fun acc Cc=>compPost (model X.prog X.w) X.A X.xe none (EP X F V Q) acc Cc) c hc C h1 nd hg htg ht he h2 ?_;intro D L fl s' F' p' ys m l I' rs fL ne hns q;refine⟨m,hns,fun h' sb=>?_⟩;exact⟨F',p',_,l,I'.turned (fp:=[L]) (tk:=s'.toks) (fun b hb=>(Dl.mp hb) ▸ fL) (fun b o n e=>(sb.2 b (by simpa using n)).trans e),rs.turned (fun a e=>by cases e;exact ne) sb.2,q⟩
theorem sr(c:Ct X w k N sc.names)(ct:X.env.scope.names=sc.names)(hc:X.calm=true)(h1:Li sc scope=true)(ok2:Ga N scope.names ns fr=true)(nd:ns.Nodup){tg it cd el:E}{t elt iter:Expr}{ifs:ZM}{pos pos' Si:Pos}{i:Nat}{y:Str}(hiN:N[i]?=some y)(hl:locs sc.names y=true)(hi:SI w it X t iter)(hg:repG ns scope.names tg t=true)(htg:Ji (fun i=>(fr[i]?).join.isSome) tg=true)
  (ht:∀Y,Ct Y w.nx k ns scope.names->HT w.nx cd Y ifs) (he:∀Y,Ct Y w.nx k ns scope.names->SE w.nx el Y elt) (hs:∀x,foldedSetIterable iter X.env x=pure x) (hsw:swapsWith (.ListComp elt [⟨t,iter,ifs,0⟩] scope pos) (some (.Name y pos')) Si.line X.env=pure true) :
  SS w (.set i (.comp tg it cd el fr ns)) X (.Assign [.Name y pos'] (.ListComp elt [⟨t,iter,ifs,0⟩] scope pos) Si):=fun F p V s Dd I hw=>by
 have hw:if X.pt i=true then False else wE w (.comp tg it cd el fr ns) p fun r q=>Dd.nx (q.set i r):=hw
 split at hw
 .exact hw.elim
 rename_i hp
 have C:=xb c.nN ct h1 ok2 I.ok;rw[exec_Assign_Name_used _ _ _ _ hsw];refine Zy (wpAny_standAt (Zy ?_));show wpAny _ X.A (do let _ <-comprehension (.ListComp elt [⟨t,iter,ifs,0⟩] scope pos) scope X.env _ (newList []) false (eval iter X.env) (some (assign (.Name y pos') X.env))) _ _ s
 refine Zy (wpAny_mono (wpAny_comprehension_free (use:=some (assign (.Name y pos') X.env)) (Q:=fun _ s'=>SP X F Dd .next s') rfl hs C.clos C.kind C.names
  (Vz (hi F p V s (fun xs q=>V4 (B0 w tg cd el) xs [] (fre fr q) fun ys s=>Dd.nx ((back fr s q).set i (.o (.lst ys)))) I hw) fun v s1 g1=>Vz g1 fun itv s2 h2=>?_)) (fun _ s' hq=>Z8 (Z8 hq)) fun _ _ e=>e)
 refine Kv (Q:=fun r q=>Dd.nx (q.set i r)) (RR:=fun acc Cc=>compPost (model X.prog X.w) X.A X.xe (some (assign (.Name y pos') X.env)) (fun _ s'=>SP X F Dd .next s') acc Cc) c hc C h1 nd hg htg ht he h2 ?_;intro D L fl s' F' p' ys m l I' rs fL ne hns q;show wpAny _ X.A (assign (.Name y pos') X.env (.ref D)) _ _ _;refine wpAny_assign_Name (Fh I' (by rw[c.nN];exact c.nd) (by rw[c.nN];exact hiN) (c.loc hl) (by simpa using hp) rs fun s3 a ma sb I3=>?_);have na:L≠a:=fun z=>fL.k (.inr (z ▸ ma));refine⟨m,hns.sameBut sb na,fun h' sb'=>?_⟩;refine⟨F',_,_,l,I3.turned (fp:=[L]) (tk:=s3.toks) (fun b hb=>?_) (fun b o n e=>(sb'.2 b (by simpa using n)).trans e),q⟩;obtain rfl:b=L:=Dl.mp hb;refine⟨fL.n,fL.k,fun j u e e2=>?_⟩;have hiσ:i<V.length:=by rw[I.len,c.nN];exact(wt.mp hiN).1
 rcases Vq e with ⟨rfl,_⟩ | ⟨n,e⟩
 .rw[List.getElem?_set_self hiσ]at e2;cases e2;exact ne rfl
 .rw[List.getElem?_set_ne (Ne.symm n)]at e2;exact fL.o j u e e2
end
section
variable{g:Md}{F:OM}{s:Shared}
def Shw(g:Md)(s:Shared)(u:Value)(d:PyData):Prop:=∃as bs,Reads s.heap u d as/\ReadAtMost s.heap d.depth bs/\ReprK g.prog g.w bs s.heap d.depth u d.shown
def M3(g:Md)(s:Shared)(us:ZK)(ds:List PyData):Prop:=∃as bs,ReadsAll s.heap us ds as/\ReadAtMost s.heap (PyData.depthAll ds) bs/\ReprAllK g.prog g.w bs s.heap (PyData.depthAll ds) us (PyData.shownAll ds)
theorem M3.cons{u:Value}{d:PyData}{us:ZK}{ds:List PyData}(h:Shw g s u d)(h':M3 g s us ds):M3 g s (u::us) (d::ds):=by
 obtain⟨a1,b1,r1,m1,k1⟩:=h;obtain⟨a2,b2,r2,m2,k2⟩:=h';refine⟨_,b1++b2,.cons r1 r2, ?_, ?_⟩
 .simp only[PyData.depthAll];exact(m1.mono (Nat.le_max_left _ _)).append (m2.mono (Nat.le_max_right _ _))
 .simp only[PyData.depthAll,PyData.shownAll];exact .cons ((k1.more fun b hb=>List.mem_append_left _ hb).level_le (Nat.le_max_left _ _)) (k2.more_le (fun b hb=>M0r _ hb) (Nat.le_max_right _ _))
theorem M3.nil:M3 g s [] []:=⟨_,[],.nil,(fun _ h=>nomatch h),by simp only[PyData.shownAll];exact .nil⟩
theorem Gz{u:Value}{d:PyData}(r:Reads s.heap u d [])(hs:d.showable=true)(hz:d.shown.length<=sizeLine):Shw g s u d:=by
 obtain⟨bs,m,k⟩:=ReprK.of_reads (prog:=g.prog) (w:=g.w) r hs (fun _ h=>nomatch h) hz;exact⟨[],bs,r,m,k⟩
theorem pg{a:Addr}{its:ZK}{ds:List PyData}(h:IsTup s.heap a its.toArray)(c:M3 g s its ds):Shw g s (.ref a) (.tuple ds):=by
 obtain⟨as,bs,r1,m1,k1⟩:=c;obtain⟨o,h1,h2,n,h3⟩:=h;have r:Reads s.heap (.ref a) (.tuple ds) _:=.tuple h1 h2 h3 (by simpa using r1);have tj:a ∉ bs:=not_mem_of_deeper r (by simp only[PyData.depth];omega) m1;refine⟨_,a::bs,r,ReadAtMost.cons r (by simp only[PyData.depth];omega) m1, ?_⟩;simp only[PyData.depth,PyData.shown];exact ReprK.tuple h1 h2 h3 tj (by simpa using k1)
theorem pf{a:Addr}{its:ZK}{ds:List PyData}(h:s.heap.IsList a its.toArray)(c:M3 g s its ds):Shw g s (.ref a) (.list ds):=by
 obtain⟨as,bs,r1,m1,k1⟩:=c;obtain⟨o,h1,h2,n,h3⟩:=h;have r:Reads s.heap (.ref a) (.list ds) _:=.list h1 h2 h3 (by simpa using r1);have tj:a ∉ bs:=not_mem_of_deeper r (by simp only[PyData.depth];omega) m1;refine⟨_,a::bs,r,ReadAtMost.cons r (by simp only[PyData.depth];omega) m1, ?_⟩;simp only[PyData.depth,PyData.shown];cases its with
 | nil =>
  cases r1;simp only[PyData.shownAll,listText_nil];exact ReprK.listEmpty h1 h2 h3
 | cons x l=>exact ReprK.list h1 h2 h3 tj (by simpa using k1.length_eq) (fun i y e=>k1.item i y (by simpa using e))
def ShwE(g:Md)(s:Shared)(es:List DictEntry)(dk:List (PyData×PyData)):Prop:=M3 g s (es.map (·.key)) (dk.map (·.1))/\M3 g s (es.map (·.val)) (dk.map (·.2))
theorem pd{a:Addr}{o:Obj}{es:Array DictEntry}{n:Nat}{dk:List (PyData×PyData)}(h1:s.heap.get? a=some o)(h2:o.cls=.type "dict")(h3:o.data=.dict es n)(hy:(a == sysModules)=false)(c:ShwE g s es.toList dk):Shw g s (.ref a) (.dict dk):=by
 obtain⟨⟨a1,b1,r1,m1,k1⟩,a2,b2,r2,m2,k2⟩:=c;have r:Reads s.heap (.ref a) (.dict dk) _:=.dict h1 h2 h3 r1 r2;have hb:ReadAtMost s.heap (PyData.depthKv dk) (b1++b2):=(m1.mono (PyData.depthAll_keys_le dk)).append (m2.mono (PyData.depthAll_vals_le dk));have tj:a ∉ b1++b2:=not_mem_of_deeper r (by simp only[PyData.depth];omega) hb;refine⟨_,a::(b1++b2),r,ReadAtMost.cons r (by simp only[PyData.depth];omega) hb, ?_⟩;simp only[PyData.depth,PyData.shown,PyData.shownKv_eq]
 exact ReprK.dict h1 h2 h3 hy tj (ReprEntriesK.of_two es.toList _ _
  (k1.more_le (fun b hb=>List.mem_append_left _ hb) (PyData.depthAll_keys_le dk)) (k2.more_le (fun b hb=>M0r _ hb) (PyData.depthAll_vals_le dk)))
theorem pb{k:Key}{u:Value}(h:(Zp g.prog g.w).is k u=true)(hs:(X9 k).showable=true)(hz:(X9 k).shown.length<=sizeLine):Shw g s u (X9 k):=by
 rcases Z6 (show Wl k u=true from h) with ⟨j,t,rfl,rfl⟩ | ⟨y,t,rfl,rfl⟩
 .exact Gz (.int _ _) hs hz
 .exact Gz (.str _ _) hs hz
end
section
variable{g:Md}{F:OM}{s:Shared}
mutual
theorem Zxq(fF:∀a o,F a=some o->s.heap.get? a=some o):∀(t:T) (u:Value) (d:PyData),IsT g F t u->toPy t=some d->d.showable=true->d.shown.length<=sizeLine->Shw g s u d
 | .non,u,d,h,e,hs,hz=>by cases e;cases h;exact Gz .none hs hz
 | .bl b,u,d,h,e,hs,hz=>by cases e;cases h;exact Gz (.bool b) hs hz
 | .int b,u,d,h,e,hs,hz=>by cases e;cases h;exact Gz (.int b _) hs hz
 | .str b,u,d,h,e,hs,hz=>by cases e;cases h;exact Gz (.str b _) hs hz
 | .tup ts,u,d,h,e,hs,hz=>by
  obtain⟨ds,e1,rfl⟩:=Y7.mp (show (Jq ts).map .tuple=some d by unfold toPy at e;exact e);obtain⟨a,us,rfl,_,tp,r⟩:=V3 fF h;have F8:(tupleText (PyData.shownAll ds)).length<=sizeLine:=by simpa only [PyData.shown] using hz
  exact pg tp (Wx fF ts us ds r e1 (by simpa [PyData.showable] using hs) fun t m=>U8 (tupleText_mem_le m) F8)
 | .lst ts,u,d,h,e,hs,hz=>by
  obtain⟨ds,e1,rfl⟩:=Y7.mp (show (Jq ts).map .list=some d by unfold toPy at e;exact e);obtain⟨a,us,n,rfl,_,hl,r⟩:=U3 (.of fF h);have F8:(listText (PyData.shownAll ds)).length<=sizeLine:=by simpa only [PyData.shown] using hz
  exact pf ⟨_,hl,rfl,⟨n,rfl⟩⟩ (Wx fF ts us ds r e1 (by simpa [PyData.showable] using hs) fun t m=>U8 (listText_mem_le m) F8)
 | .dct XY,u,d,h,e,hs,hz=>by
  obtain⟨dk,e1,rfl⟩:=Y7.mp (show (M6 XY).map .dict=some d by unfold toPy at e;exact e);obtain⟨a,vs,rfl,_,hy,⟨o,es,ep,h1,h2,h3,_,pr,_⟩,r⟩:=Bp (.of fF h);have F8:(dictText (PyData.shownKv dk)).length<=sizeLine:=by simpa only [PyData.shown] using hz
  obtain⟨wk,hs2⟩:=PyData.showableKv_split dk (by simpa [PyData.showable] using hs);exact pd h1 h2.1 h3 hy (ym fF XY vs es.toList dk r pr e1 wk hs2 (fun t ht=>let ⟨p,hp,hl⟩:=PyData.shownKv_key_le dk t ht;U8 hl (U8 (dictText_mem_le hp) F8)) (fun t ht=>let ⟨p,hp,hl⟩:=PyData.shownKv_val_le dk t ht;U8 hl (U8 (dictText_mem_le hp) F8)))
 | .fn _,u,d,h,e,hs,hz=>by unfold toPy at e;cases e
 | .exn _ _,u,d,h,e,hs,hz=>by unfold toPy at e;cases e
theorem Wx(fF:∀a o,F a=some o->s.heap.get? a=some o):∀(ts:ZZ) (us:ZK) (ds:List PyData),Zo g F ts us->Jq ts=some ds->PyData.showableAll ds=true->(∀t∈PyData.shownAll ds,t.length<=sizeLine)->M3 g s us ds
 | [],us,ds,r,e,hs,hz=>by
  unfold Jq at e;cases e;cases r;exact M3.nil
 | t::ts,us,ds,r,e,hs,hz=>by
  unfold Jq at e;obtain⟨d,e1,e⟩:=ZP.mp e;obtain⟨Un,e2,rfl⟩:=Y7.mp e;cases r with | cons r1 r2 =>
  have Jz:d.showable=true/\PyData.showableAll Un=true:=by simpa [PyData.showableAll] using hs
  exact M3.cons (Zxq fF t _ d r1 e1 Jz.1 (hz _ (by simp only[PyData.shownAll];exact Yb ..))) (Wx fF ts _ Un r2 e2 Jz.2 fun t m=>hz t (by simp only[PyData.shownAll];exact Y5 _ m))
theorem ym(fF:∀a o,F a=some o->s.heap.get? a=some o):∀(XY:ZX) (vs:List (Key×Value)) (es:List DictEntry) (dk:List (PyData×PyData)),Yo g F XY vs->Pairs (Zp g.prog g.w) es vs->M6 XY=some dk ->
  PyData.showableAll (dk.map (·.1))=true->PyData.showableAll (dk.map (·.2))=true->(∀t∈PyData.shownAll (dk.map (·.1)),t.length<=sizeLine)->(∀t∈PyData.shownAll (dk.map (·.2)),t.length<=sizeLine)->ShwE g s es dk
 | [],vs,es,dk,r,p,e,_,_,_,_=>by
  unfold M6 at e;cases e;cases r;cases p;exact⟨M3.nil,M3.nil⟩
 | (k,t)::XY,vs,es,dk,r,p,e,wk,hs2,wy,hz2=>by
  unfold M6 at e;obtain⟨d,e1,e⟩:=ZP.mp e;obtain⟨dk',e2,rfl⟩:=Y7.mp e;cases r with | cons r1 r2 =>
  obtain⟨ek,r1⟩:=r1;cases p with | cons p1 p2 p3 =>
  have ek:k=_:=ek;rw[<-ek]at p1;rw[O5]at wk hs2 wy hz2;have hs1':(X9 k).showable=true/\PyData.showableAll (dk'.map (·.1))=true:=by simpa [PyData.showableAll] using wk
  have hs2':d.showable=true/\PyData.showableAll (dk'.map (·.2))=true:=by simpa [PyData.showableAll] using hs2
  obtain⟨c1,c2⟩:=ym fF XY _ _ dk' r2 p3 e2 hs1'.2 hs2'.2 (fun t m=>wy t (by simp only[PyData.shownAll];exact Y5 _ m)) (fun t m=>hz2 t (by simp only[PyData.shownAll];exact Y5 _ m));refine⟨M3.cons (pb p1 hs1'.1 (wy _ (by simp only[PyData.shownAll];exact Yb ..))) c1,M3.cons ?_ c2⟩;show Shw g s (DictEntry.val _) d;rw[p2];exact Zxq fF t _ d r1 e1 hs2'.1 (hz2 _ (by simp only[PyData.shownAll];exact Yb ..))
end
variable{A:Around}{R:ZQ}{E:ZQ}{L:Addr}{u:Value}{t:T}
theorem y3{z:Str}(un:A.units+150<cLine)(gd:A.guards=some [])(fF:∀a o,F a=some o->s.heap.get? a=some o)(s1:V6 g F s.heap t u)(e:rpT t=some z)(k:Ok g F L s (.f (.str z)) R):wpAny (model g.prog g.w) A (call (.builtin "repr") [u]) R E s:=by
 unfold rpT at e;obtain⟨d,e1,e⟩:=ZP.mp e
 split at e
 .rename_i hh
  cases e;obtain⟨hs,hz,hd⟩:=hh;have fin:∀tk t',R (.str d.shown t') { s with toks:=tk }:=fun tk t'=>k s.heap _ tk (.sc .str);have Ei:∀h' u tk,(∀b o,s.heap.get? b=some o->h'.get? b=some o)->∃x t,Value.str d.shown u=.str x t/\R (.str d.shown u) { s with heap:=h',toks:=tk }:=fun h' u tk kp=>⟨_,u,rfl,k h' _ tk (.kept kp .str)⟩;cases t with
  | non=>cases e1;cases s1;exact P.repr_of_none (fin _ _)
  | bl b=>cases e1;cases s1;simp only[PyData.shown]at fin;exact P.repr_of_bool (fin _ _)
  | int i =>
   cases e1;cases s1;simp only[PyData.shown]at fin;exact P.repr_of_int (by simpa [PyData.showable] using hs) (fin _ _)
  | str i =>
   cases e1;cases s1;simp only[PyData.shown]at fin hz;exact P.repr_of_str (fin _ _) hz
  | tup ts =>
   obtain⟨ds,e2,rfl⟩:=Y7.mp (show (Jq ts).map .tuple=some d by unfold toPy at e1;exact e1);obtain⟨a,us,rfl,_,tp,r⟩:=V3 fF s1;have F8:(tupleText (PyData.shownAll ds)).length<=sizeLine:=by simpa only [PyData.shown] using hz
   obtain⟨as,bs,r1,m1,k1⟩:=Wx fF ts us ds r e2 (by simpa [PyData.showable] using hs) fun t m=>U8 (tupleText_mem_le m) F8;obtain⟨o,h1,h2,n,h3⟩:=tp;have r:Reads s.heap (.ref a) (.tuple ds) _:=.tuple h1 h2 h3 (by simpa using r1);have tj:a ∉ bs:=not_mem_of_deeper r (by simp only[PyData.depth];omega) m1;simp only[PyData.depth]at hd;simp only[PyData.shown]at Ei;exact call_repr_slot (by omega) ⟨o,h1,h2⟩ PySem.F.slot_tuple_repr (call_tuple_reprK h1 h2 h3 tj (by simpa using k1) (g:=[]) gd (fun b _=>Clear.nil b) (by show A.units+1+_<_;omega) (fun _ _ e=>e) (fun h' u tk k=>Ei h' u tk k) F8)
  | lst ts =>
   obtain⟨ds,e2,rfl⟩:=Y7.mp (show (Jq ts).map .list=some d by unfold toPy at e1;exact e1);obtain⟨a,us,n,rfl,_,h1,r⟩:=U3 s1;have F8:(listText (PyData.shownAll ds)).length<=sizeLine:=by simpa only [PyData.shown] using hz
   obtain⟨as,bs,r1,m1,k1⟩:=Wx fF ts us ds r e2 (by simpa [PyData.showable] using hs) fun t m=>U8 (listText_mem_le m) F8;have r:Reads s.heap (.ref a) (.list ds) _:=.list h1 rfl rfl (by simpa using r1);have tj:a ∉ bs:=not_mem_of_deeper r (by simp only[PyData.depth];omega) m1;simp only[PyData.depth]at hd;simp only[PyData.shown]at Ei;refine call_repr_slot (by omega) ⟨_,h1,rfl⟩ PySem.F.slot_list_repr.toG ?_;cases us with
   | nil =>
    cases r1;simp only[PyData.shownAll,listText_nil]at Ei;exact call_list_repr_empty ⟨_,h1,rfl⟩ h1 rfl (Ei s.heap _ _ fun _ _ e=>e)
   | cons y l=>exact call_list_reprK h1 rfl rfl tj (by simpa using k1.length_eq) (fun i y e=>k1.item i y (by simpa using e)) (g:=[]) gd (fun b _=>Clear.nil b) (by show A.units+1+_<_;omega) (fun _ _ e=>e) (fun h' u tk k=>Ei h' u tk k) F8
  | dct XY =>
   obtain⟨dk,e2,rfl⟩:=Y7.mp (show (M6 XY).map .dict=some d by unfold toPy at e1;exact e1);obtain⟨a,vs,rfl,_,hy,⟨o,es,ep,h1,h2,h3,_,pr,_⟩,r⟩:=Bp s1;have F8:(dictText (PyData.shownKv dk)).length<=sizeLine:=by simpa only [PyData.shown] using hz
   obtain⟨wk,hs2⟩:=PyData.showableKv_split dk (by simpa [PyData.showable] using hs);obtain⟨⟨a1,b1,r1,m1,k1⟩,a2,b2,r2,m2,k2⟩:=ym fF XY vs es.toList dk r pr e2 wk hs2 (fun t ht=>let ⟨p,hp,hl⟩:=PyData.shownKv_key_le dk t ht;U8 hl (U8 (dictText_mem_le hp) F8)) (fun t ht=>let ⟨p,hp,hl⟩:=PyData.shownKv_val_le dk t ht;U8 hl (U8 (dictText_mem_le hp) F8));have r:Reads s.heap (.ref a) (.dict dk) _:=.dict h1 h2.1 h3 r1 r2;have hb:ReadAtMost s.heap (PyData.depthKv dk) (b1++b2):=(m1.mono (PyData.depthAll_keys_le dk)).append (m2.mono (PyData.depthAll_vals_le dk));have tj:a ∉ b1++b2:=not_mem_of_deeper r (by simp only[PyData.depth];omega) hb;simp only[PyData.depth]at hd;simp only[PyData.shown,PyData.shownKv_eq]at Ei
   exact call_repr_slot (by omega) ⟨o,h1,h2.1⟩ PySem.F.slot_dict_repr (call_dict_reprK h1 h2.1 h3 hy tj (ReprEntriesK.of_two es.toList _ _
    (k1.more_le (fun b hb=>List.mem_append_left _ hb) (PyData.depthAll_keys_le dk)) (k2.more_le (fun b hb=>M0r _ hb) (PyData.depthAll_vals_le dk))) (g:=[]) gd (fun b _=>Clear.nil b) (by show A.units+1+_<_;omega) (fun _ _ e=>e) (fun h' u tk k=>Ei h' u tk k) (by rw[<-PyData.shownKv_eq];exact F8))
  | fn _=>unfold toPy at e1;cases e1
  | exn _ _=>unfold toPy at e1;cases e1
 .cases e
end
noncomputable def btV:Pr->Option (Str×Value)
 | .len=>some ("len",.builtin "len")
 | .all=>some ("all",.builtin "all")
 | .any=>some ("any",.builtin "any")
 | .list=>some ("list",.type "list")
 | .tuple=>some ("tuple",.type "tuple")
 | .min=>some ("min",.builtin "min")
 | .max=>some ("max",.builtin "max")
 | .int=>some ("int",.type "int")
 | .dict=>some ("dict",.type "dict")
 | .sorted=>some ("sorted",.builtin "sorted")
 | .srtP=>some ("sorted",.builtin "sorted")
 | .repr=>some ("repr",.builtin "repr")
 | .abs=>some ("abs",.builtin "abs")
 | .sum=>some ("sum",.builtin "sum")
 | .str=>some ("str",.type "str")
 | _=>none
noncomputable def vis(sc:ZW)(x:Str):Bool:=match sc.lookup x with
 | some .local=>true
 | some .cell=>true
 | some .free=>true
 | _=>false
noncomputable def L4(sc:ZW)(x:Str):Bool:=sc.lookup x == some .globalImplicit && !(x == ("__debug__" : Str))
noncomputable def Gc(N:ZG)(sc:ZW)(i:Nat)(x:Str):Bool:=N[i]? == some x && vis sc x && !(x == ("__debug__" : Str)) && !(x == ("__classdict__" : Str))
def U1:Expr->Bool
 | .Slice _ _ _ _=>false
 | _=>true
def isNm(x:Str):Expr->Bool
 | .Name y _=>decide (y=x)
 | _=>false
theorem i4{x:Str}{e:Expr}(h:isNm x e=true):∃p,e=.Name x p:=by
 cases e
 case Name y p=>cases Dk (show decide (y=x)=true from h);exact⟨p,rfl⟩
 all_goals cases h
noncomputable def vOp(o:Op)(x:Expr):Option (ZM):=match C0 x with
 | .bin a op b=>if op=opOf o then some [a,b] else none
 | _=>none
theorem vOp_ex{o:Op}{x:Expr}{xs:ZM}(h:vOp o x=some xs):∃a op b p,x=.BinOp a op b p/\(if op=opOf o then some [a,b] else none)=some xs:=by
 unfold vOp at h
 split at h
 .rename_i e
  obtain⟨p,rfl⟩:=Yj e;exact⟨_,_,_,p,rfl,h⟩
 .cases h
noncomputable def r8(x:Expr):Option (Expr×List CmpOp×ZM):=match C0 x with
 | .cmp a ops bs=>some (a,ops,bs)
 | _=>none
theorem Xl{x a:Expr}{ops:List CmpOp}{bs:ZM}(h:r8 x=some (a,ops,bs)):∃p,x=.Compare a ops bs p:=by
 unfold r8 at h
 split at h
 .rename_i e
  cases h;exact Yj e
 .cases h
noncomputable def vCm(c:Cm)(x:Expr):Option (ZM):=match r8 x with
 | some (a,[op],[b])=>if op=W4 c/\behindInMarks op b=false then some [a,b] else none
 | _=>none
theorem vCm_ex{c:Cm}{x:Expr}{xs:ZM}(h:vCm c x=some xs):∃a op b p,x=.Compare a [op] [b] p/\(if op=W4 c/\behindInMarks op b=false then some [a,b] else none)=some xs:=by
 unfold vCm at h
 split at h
 .rename_i e
  obtain⟨p,rfl⟩:=Xl e;exact⟨_,_,_,p,rfl,h⟩
 .cases h
noncomputable def vC2(c:Cm)(d:Cm)(x:Expr):Option (ZM):=match r8 x with
 | some (a,[op,op'],[b,e])=>if op=W4 c/\op'=W4 d/\lastMarks [op,op'] [b,e]=false then some [a,b,e] else none
 | _=>none
theorem vC2_ex{c d:Cm}{x:Expr}{xs:ZM}(h:vC2 c d x=some xs):∃a op op' b e p,x=.Compare a [op,op'] [b,e] p/\(if op=W4 c/\op'=W4 d/\lastMarks [op,op'] [b,e]=false then some [a,b,e] else none)=some xs:=by
 unfold vC2 at h
 split at h
 .rename_i e
  obtain⟨p,rfl⟩:=Xl e;exact⟨_,_,_,_,_,p,rfl,h⟩
 .cases h
noncomputable def ri(x:Expr):Option (ZM):=match C0 x with
 | .un op a=>if op=.USub then some [a] else none
 | _=>none
theorem ro{x:Expr}{xs:ZM}(h:ri x=some xs):∃a p,x=.UnaryOp .USub a p/\some [a]=some xs:=by
 unfold ri at h
 split at h
 .rename_i e
  obtain⟨p,rfl⟩:=Yj e
  split at h
  .rename_i z;subst z;exact⟨_,p,rfl,h⟩
  .cases h
 .cases h
noncomputable def vb(x:Expr):Option (Expr×Expr):=match C0 x with
 | .sub a b=>some (a,b)
 | _=>none
theorem Qf{x a b:Expr}(h:vb x=some (a,b)):∃p,x=.Subscript a b p:=by
 unfold vb at h
 split at h
 .rename_i e
  cases h;exact Yj e
 .cases h
noncomputable def vIx(x:Expr):Option (ZM):=match vb x with
 | some (a,b)=>if U1 b=true then some [a,b] else none
 | none=>none
theorem vIx_ex{x:Expr}{xs:ZM}(h:vIx x=some xs):∃a b p,x=.Subscript a b p/\(if U1 b=true then some [a,b] else none)=some xs:=by
 unfold vIx at h
 split at h
 .rename_i e
  obtain⟨p,rfl⟩:=Qf e;exact⟨_,_,p,rfl,h⟩
 .cases h
noncomputable def Hl(x:Expr):Option (Expr×Option Expr×Option Expr×Option Expr):=match vb x with
 | some (a,b)=>(match C0 b with
  | .slc l h s=>some (a,l,h,s)
  | _=>none)
 | none=>none
theorem N9{x a:Expr}{l hh s:Option Expr}(h:Hl x=some (a,l,hh,s)):∃q p,x=.Subscript a (.Slice l hh s q) p:=by
 unfold Hl at h
 split at h
 .rename_i e
  obtain⟨p,rfl⟩:=Qf e
  split at h
  .rename_i e'
   cases h;obtain⟨q,rfl⟩:=Yj e';exact⟨q,p,rfl⟩
  .cases h
 .cases h
noncomputable def Xf(x:Expr):Option (ZM):=match Hl x with
 | some (a,some l,none,none)=>some [a,l]
 | _=>none
theorem vd{x:Expr}{xs:ZM}(h:Xf x=some xs):∃a l q p,x=.Subscript a (.Slice (some l) none none q) p/\some [a,l]=some xs:=by
 unfold Xf at h
 split at h
 .rename_i e
  obtain⟨q,p,rfl⟩:=N9 e;exact⟨_,_,q,p,rfl,h⟩
 .cases h
noncomputable def Xb(x:Expr):Option (ZM):=match Hl x with
 | some (a,none,some l,none)=>some [a,l]
 | _=>none
theorem vt{x:Expr}{xs:ZM}(h:Xb x=some xs):∃a l q p,x=.Subscript a (.Slice none (some l) none q) p/\some [a,l]=some xs:=by
 unfold Xb at h
 split at h
 .rename_i e
  obtain⟨q,p,rfl⟩:=N9 e;exact⟨_,_,q,p,rfl,h⟩
 .cases h
noncomputable def Xg(x:Expr):Option (ZM):=match Hl x with
 | some (a,some l,some u,none)=>some [a,l,u]
 | _=>none
theorem vm{x:Expr}{xs:ZM}(h:Xg x=some xs):∃a l u q p,x=.Subscript a (.Slice (some l) (some u) none q) p/\some [a,l,u]=some xs:=by
 unfold Xg at h
 split at h
 .rename_i e
  obtain⟨q,p,rfl⟩:=N9 e;exact⟨_,_,_,q,p,rfl,h⟩
 .cases h
noncomputable def Xc(x:Expr):Option (ZM):=match C0 x with
 | .dct [] []=>some []
 | _=>none
theorem vh{x:Expr}{xs:ZM}(h:Xc x=some xs):∃p,x=.Dict [] [] p/\some ([]:ZM)=some xs:=by
 unfold Xc at h
 split at h
 .rename_i e
  obtain⟨p,rfl⟩:=Yj e;exact⟨p,rfl,h⟩
 .cases h
def is1:Expr->Bool
 | .Constant (.int i) _ _=>decide (i=1)
 | _=>false
theorem is1_ex{x:Expr}(h:is1 x=true):∃k p,x=.Constant (.int 1) k p:=by
 cases x<;>first | (cases h;done) | skip
 rename_i c k p
 cases c<;>first | (cases h;done) | skip
 cases Dk h;exact⟨_,_,rfl⟩
noncomputable def x6(x:Expr):Option (Str×ZM):=match C0 x with
 | .callN f xs=>some (f,xs)
 | _=>none
theorem Rd{x:Expr}{f:Str}{xs:ZM}(h:x6 x=some (f,xs)):∃q p,x=.Call (.Name f q) xs [] p:=by
 unfold x6 at h
 split at h
 .rename_i e
  cases h;exact Yj e
 .cases h
noncomputable def r7(sc:ZW)(n:Kd)(x:Expr):Option (ZM):=match x6 x with
 | some (f,[a,k])=>(match Dg k with
  | some k=>if f = "isinstance" /\ L4 sc f=true/\k=la n/\L4 sc k=true then some [a] else none
  | none=>none)
 | _=>none
theorem r6{sc:ZW}{n:Kd}{x:Expr}{xs:ZM}(h:r7 sc n x=some xs):∃f q a k q' p,x=.Call (.Name f q) [a,.Name k q'] [] p/\(if f = "isinstance" /\ L4 sc f=true/\k=la n/\L4 sc k=true then some [a] else none)=some xs:=by
 unfold r7 at h
 split at h
 .rename_i e
  obtain⟨q,p,rfl⟩:=Rd e
  split at h
  .rename_i e'
   obtain⟨q',rfl⟩:=Ux e';exact⟨_,q,_,_,q',p,rfl,h⟩
  .cases h
 .cases h
noncomputable def Xt(x:Expr):Option (ZM):=match C0 x with
 | .callA o m ap [a] cp=>if m = "get" /\ Gs o=true/\(ap.endLine == cp.line)=true then some [o,a] else none
 | _=>none
theorem vr{x:Expr}{xs:ZM}(h:Xt x=some xs):∃o m ap a cp,x=.Call (.Attribute o m ap) [a] [] cp/\(if m = "get" /\ Gs o=true/\(ap.endLine == cp.line)=true then some [o,a] else none)=some xs:=by
 unfold Xt at h
 split at h
 .rename_i e;exact⟨_,_,_,_,_,Yj e,h⟩
 .cases h
noncomputable def Xd(x:Expr):Option (ZM):=match C0 x with
 | .callA o m ap [a,b] cp=>if m = "get" /\ Gs o=true/\(ap.endLine == cp.line)=true then some [o,a,b] else none
 | _=>none
theorem vn{x:Expr}{xs:ZM}(h:Xd x=some xs):∃o m ap a b cp,x=.Call (.Attribute o m ap) [a,b] [] cp/\(if m = "get" /\ Gs o=true/\(ap.endLine == cp.line)=true then some [o,a,b] else none)=some xs:=by
 unfold Xd at h
 split at h
 .rename_i e;exact⟨_,_,_,_,_,_,Yj e,h⟩
 .cases h
noncomputable def rm(sc:ZW)(g:Str)(x:Expr):Option (ZM):=match vb x with
 | some (a,b)=>if isNm g a=true/\L4 sc g=true/\U1 b=true then some [b] else none
 | none=>none
theorem rb{sc:ZW}{g:Str}{x:Expr}{xs:ZM}(h:rm sc g x=some xs):∃q b p,x=.Subscript (.Name g q) b p/\L4 sc g=true/\U1 b=true/\xs=[b]:=by
 unfold rm at h
 split at h
 .rename_i e
  obtain⟨p,rfl⟩:=Qf e
  split at h
  .rename_i ho
   cases h;obtain⟨h1,h2,h3⟩:=ho;obtain⟨q,rfl⟩:=i4 h1;exact⟨q,_,p,rfl,h2,h3,rfl⟩
  .cases h
 .cases h
noncomputable def vBt(sc:ZW)(q:Pr)(x:Expr):Option (ZM):=match x6 x with
 | some (f,a::r)=>(match btV q with
  | some (n,_)=>if f=n/\L4 sc f=true then some (a::r) else none
  | none=>none)
 | _=>none
theorem vBt_ex{sc:ZW}{q:Pr}{x:Expr}{xs:ZM}(h:vBt sc q x=some xs):∃f p0 a r p,x=.Call (.Name f p0) (a::r) [] p/\(match btV q with
  | some (n,_)=>if f=n/\L4 sc f=true then some (a::r) else none
  | none=>none)=some xs:=by
 unfold vBt at h
 split at h
 .rename_i e
  obtain⟨p0,p,rfl⟩:=Rd e;exact⟨_,p0,_,_,p,rfl,h⟩
 .cases h
noncomputable def Xk(x:Expr):Option (ZM):=match Cu x with
 | some [a]=>some [a]
 | _=>none
theorem vf{x:Expr}{xs:ZM}(h:Xk x=some xs):∃a j p,x=.Tuple [a] j p/\xs=[a]:=by
 unfold Xk at h
 split at h
 .rename_i a e
  obtain⟨j,p,rfl⟩:=B1 e;cases h;exact⟨a,j,p,rfl,rfl⟩
 .cases h
noncomputable def isM1:Expr->Bool
 | .UnaryOp .USub a _=>is1 a
 | _=>false
theorem i5{x:Expr}(h:isM1 x=true):∃k p q,x=.UnaryOp .USub (.Constant (.int 1) k p) q:=by
 unfold isM1 at h
 split at h
 .obtain⟨k,p,rfl⟩:=is1_ex h;exact⟨k,p,_,rfl⟩
 .cases h
noncomputable def ra(x:Expr):Option (ZM):=match Hl x with
 | some (a,none,none,some s)=>if isM1 s=true then some [a] else none
 | _=>none
theorem rh{x:Expr}{xs:ZM}(h:ra x=some xs):∃a k p1 p2 p3 p4,x=.Subscript a (.Slice none none (some (.UnaryOp .USub (.Constant (.int 1) k p1) p2)) p3) p4/\xs=[a]:=by
 unfold ra at h
 split at h
 .rename_i a s e
  obtain⟨q,p,rfl⟩:=N9 e
  split at h
  .rename_i z
   obtain⟨k,p1,p2,rfl⟩:=i5 z;cases h;exact⟨a,k,p1,p2,q,p,rfl,rfl⟩
  .cases h
 .cases h
noncomputable def strK:Expr->Option Str
 | .Constant (.str y) _ _=>some y
 | _=>none
theorem sg{x:Expr}{y:Str}(h:strK x=some y):∃k p,x=.Constant (.str y) k p:=by
 unfold strK at h
 split at h
 .cases h;exact⟨_,_,rfl⟩
 .cases h
noncomputable def Xm(z:Str)(x:Expr):Option (ZM):=match C0 x with
 | .callA o m ap [a] cp=>if m = "join" /\ strK o=some z/\(ap.endLine == cp.line)=true then some [a] else none
 | _=>none
theorem vc{z:Str}{x:Expr}{xs:ZM}(h:Xm z x=some xs):∃k p ap a cp,x=.Call (.Attribute (.Constant (.str z) k p) "join" ap) [a] [] cp/\(ap.endLine == cp.line)=true/\xs=[a]:=by
 unfold Xm at h
 split at h
 .rename_i e
  split at h
  .rename_i q
   obtain⟨rfl,q2,q3⟩:=q;obtain⟨k,p,rfl⟩:=sg q2;cases h;exact⟨k,p,_,_,_,Yj e,q3,rfl⟩
  .cases h
 .cases h
def Ay:Expr->Bool
 | .Call _ [] _ _=>false
 | _=>true
theorem sup_of{o:Expr}(h:Ay o=true)(m:Str)(env:Env)(wh:Sem Value):attributeBase o m env wh=wh:=by
 unfold attributeBase
 split
 .cases h
 .rfl
noncomputable def Qb(sc:ZW)(x:Expr):Option (ZM):=match x6 x with
 | some (f,[y])=>(match C0 y with
  | .callA o m ap [] cp=>if f = "list" /\ L4 sc f=true/\m = "values" /\ Ay o=true/\(ap.endLine == cp.line)=true then some [o] else none
  | _=>none)
 | _=>none
theorem x5{sc:ZW}{x:Expr}{xs:ZM}(h:Qb sc x=some xs):∃q o ap cp p,x=.Call (.Name "list" q) [.Call (.Attribute o "values" ap) [] [] cp] [] p/\L4 sc "list" = true/\Ay o=true/\(ap.endLine == cp.line)=true/\xs=[o]:=by
 unfold Qb at h
 split at h
 .rename_i e
  obtain⟨q,p,rfl⟩:=Rd e
  split at h
  .rename_i e'
   split at h
   .rename_i q2
    obtain⟨rfl,q3,rfl,q4,q5⟩:=q2;cases h;exact⟨q,_,_,_,p,by rw[Yj e'],q3,q4,q5,rfl⟩
   .cases h
  .cases h
 .cases h
noncomputable def is2:Expr->Bool
 | .Constant (.int 2) _ _=>true
 | _=>false
theorem is2_ex{x:Expr}(h:is2 x=true):∃k p,x=.Constant (.int 2) k p:=by
 unfold is2 at h
 split at h
 .exact⟨_,_,rfl⟩
 .cases h
noncomputable def rl(x:Expr):Option (ZM):=match Hl x with
 | some (a,none,none,some s)=>if is2 s=true then some [a] else none
 | _=>none
theorem rd{x:Expr}{xs:ZM}(h:rl x=some xs):∃a k p1 p3 p4,x=.Subscript a (.Slice none none (some (.Constant (.int 2) k p1)) p3) p4/\xs=[a]:=by
 unfold rl at h
 split at h
 .rename_i a s e
  obtain⟨q,p,rfl⟩:=N9 e
  split at h
  .rename_i z
   obtain⟨k,p1,rfl⟩:=is2_ex z;cases h;exact⟨a,k,p1,q,p,rfl,rfl⟩
  .cases h
 .cases h
noncomputable def Xn(x:Expr):Option (ZM):=match C0 x with
 | .dct [some k,some k2] [v,v2]=>some [k,v,k2,v2]
 | _=>none
theorem vp{x:Expr}{xs:ZM}(h:Xn x=some xs):∃k v k2 v2 p,x=.Dict [some k,some k2] [v,v2] p/\xs=[k,v,k2,v2]:=by
 unfold Xn at h
 split at h
 .rename_i e
  obtain⟨p,rfl⟩:=Yj e;cases h;exact⟨_,_,_,_,p,rfl,rfl⟩
 .cases h
noncomputable def view(sc:ZW):Pr->Expr->Option (ZM)
 | .op o=>vOp o
 | .cm c=>vCm c
 | .c2 c d=>vC2 c d
 | .neg=>ri
 | .ix=>vIx
 | .sl true false=>Xf
 | .sl false true=>Xb
 | .sl true true=>Xg
 | .dnew=>Xc
 | .isi n=>r7 sc n
 | .get1=>Xt
 | .get2=>Xd
 | .tix g=>rm sc g
 | .tup1=>Xk
 | .rev=>ra
 | .join z=>Xm z
 | .lvals=>Qb sc
 | .sl2=>rl
 | .dct2=>Xn
 | q=>vBt sc q
end PV
namespace TNM
open PySem PySem.Calls PyProof.Rows SeqAt
inductive Nv:Value->Int->Prop
 | i(x:Int)(t:Tok):Nv (.int x t) x
 | b (k:Bool):Nv (.bool k) (if k=true then 1 else 0)
section
variable{prog:Program}{w:World}{A:Around}{E:ZQ}{s:Shared}{Q:ZQ}
theorem g_bb(a b:Bool):Gives (Builtin.«int.__lt__» ⟨[.bool a,.bool b],[]⟩) (.val (.bool (decide ((if a=true then (1:Int) else 0)<if b=true then 1 else 0)))):=by cases a<;>cases b<;>exact .of_eq rfl
theorem g_bi(a:Bool)(b:Int)(u:Tok):Gives (Builtin.«int.__lt__» ⟨[.bool a,.int b u],[]⟩) (.val (.bool (decide ((if a=true then (1:Int) else 0)<b)))):=by cases a<;>exact .of_eq rfl
theorem Zx0(a:Bool)(b:Int)(u:Tok):Gives (Builtin.«int.__gt__» ⟨[.bool a,.int b u],[]⟩) (.val (.bool (decide ((if a=true then (1:Int) else 0)>b)))):=by cases a<;>exact .of_eq rfl
theorem g_gbb(a b:Bool):Gives (Builtin.«int.__gt__» ⟨[.bool a,.bool b],[]⟩) (.val (.bool (decide ((if a=true then (1:Int) else 0)>if b=true then 1 else 0)))):=by cases a<;>cases b<;>exact .of_eq rfl
theorem lt_num{v u:Value}{x y:Int}(hv:Nv v x)(hu:Nv u y)(h:Q (.bool (decide (x<y))) s):wpAny (model prog w) A (richCompare .Lt v u) Q E s:=by
 cases hv with
 | i x t=>cases hu with
  | i y t'=>exact richCompare_gives (op:=.Lt) (typeIs_int s _ t) (typeIs_int s _ t') F.slot_int_lt F.entry_int_lt (F.args_int_lt_2 _ _) (gives_int_lt _ _ t t') (fun z=>nomatch z) h
  | b k=>exact rc_sub_first_or (typeIs_int s x t) rfl (by decide) F.sub_bool_int F.slot_bool_gt_refl (call_gives F.slot_bool_gt rfl F.entry_int_gt (F.args_int_gt_2 _ _) (Zx0 k x t) ⟨nofun,h⟩) (.inl rfl)
 | b k=>cases hu with
  | i y t'=>exact rc_left_or rfl (typeIs_int s y t') (by decide) F.sub_int_bool F.slot_bool_lt (call_gives F.slot_bool_lt rfl F.entry_int_lt (F.args_int_lt_2 _ _) (g_bi k y t') ⟨nofun,h⟩) (.inl rfl)
  | b k'=>exact richCompare_gives (op:=.Lt) rfl rfl F.slot_bool_lt F.entry_int_lt (F.args_int_lt_2 _ _) (g_bb k k') (fun z=>nomatch z) h
theorem gt_num{v u:Value}{x y:Int}(hv:Nv v x)(hu:Nv u y)(h:Q (.bool (decide (x>y))) s):wpAny (model prog w) A (richCompare .Gt v u) Q E s:=by
 cases hv with
 | i x t=>cases hu with
  | i y t'=>exact richCompare_gives (op:=.Gt) (typeIs_int s _ t) (typeIs_int s _ t') F.slot_int_gt F.entry_int_gt (F.args_int_gt_2 _ _) (gives_int_gt _ _ t t') (fun z=>nomatch z) h
  | b k=>exact rc_sub_first_or (typeIs_int s x t) rfl (by decide) F.sub_bool_int F.slot_bool_lt_refl (call_gives F.slot_bool_lt rfl F.entry_int_lt (F.args_int_lt_2 _ _) (g_bi k x t) ⟨nofun,h⟩) (.inl rfl)
 | b k=>cases hu with
  | i y t'=>exact rc_left_or rfl (typeIs_int s y t') (by decide) F.sub_int_bool F.slot_bool_gt (call_gives F.slot_bool_gt rfl F.entry_int_gt (F.args_int_gt_2 _ _) (Zx0 k y t') ⟨nofun,h⟩) (.inl rfl)
  | b k'=>exact richCompare_gives (op:=.Gt) rfl rfl F.slot_bool_gt F.entry_int_gt (F.args_int_gt_2 _ _) (g_gbb k k') (fun z=>nomatch z) h
theorem Rh{a b v:Value}{x y:Int}(ha:Nv a x)(hb:Nv b y){i:Nat}(e:#[a,b][i]?=some v):Nv v (if i=0 then x else y):=by
 match i,e with
 | 0,e=>cases e;exact ha
 | 1,e=>cases e;exact hb
 | i+2,e=>rw[Array.getElem?_eq_none (by show 2<=i+2;omega)]at e;cases e
theorem min_two{a b:Value}{x y:Int}(ha:Nv a x)(hb:Nv b y)(hh:A.handled=none)(h:∀h' tk,(∀c o,s.heap.get? c=some o->h'.get? c=some o)->Q (if y<x then b else a) { s with heap:=h',toks:=tk }):wpAny (model prog w) A (call (.builtin "min") [a,b]) Q E s:=by
 have tp:(s.heap.push { cls:=.type "tuple",data:=.seq #[a,b] }).IsTuple s.heap.objs.size #[a,b]:=⟨_,Mw _ rfl,rfl,0,rfl⟩;have sz:(s.heap.push { cls:=.type "tuple",data:=.seq #[a,b] }).objs.size=s.heap.objs.size+1:=Heap.size_push _ _;refine call_min_two (wpAny_pyIter_tuple tp ⟨_,[_,s.heap.objs.size],[_],_,_,_,fun i j=>decide ((if i=0 then x else y)<if j=0 then x else y),rfl,Walks.tuple (A:=A.in1) hh _ s.heap.objs.size (by rw[sz];exact Fb (Nat.lt_succ_self _)) #[a,b],⟨⟨_,Mw _ rfl,rfl,rfl⟩,tp.push _⟩,fun c hc=>?_,Nat.zero_lt_succ _,fun i j vi vj s' Q' E' pi pj q=>lt_num (Rh ha hb pi) (Rh ha hb pj) q,fun v h' tk hP hk=>?_⟩)
 .show c<((s.heap.push _).push _).objs.size;rw[Heap.size_push,sz];rcases Ya.mp hc with rfl | hc
  .rw[sz];exact Nat.lt_succ_self _
  .cases Dl.mp hc;exact Nat.lt_succ_of_lt (Nat.lt_succ_self _)
 .have old:∀c o,s.heap.get? c=some o->h'.get? c=some o:=fun c o e=>hk c o (fun z=>by
   have lt:=Mv e;rw[Dl.mp z,sz]at lt;exact Nat.lt_irrefl _ (Nat.lt_of_succ_lt lt)) (Vn _ (Vn _ e))
  have ev:v=if y<x then b else a:=by
   have hP:#[a,b][if decide ((if 1=0 then x else y)<if 0=0 then x else y)=true then 1 else 0]?=some v:=hP;rw[if_neg (by decide:¬ (1:Nat)=0),if_pos (rfl:(0:Nat)=0)]at hP;by_cases g:y<x
   .rw[if_pos (Jo g)]at hP;rw[if_pos g];exact(Nf hP).symm
   .rw[if_neg (by rw[decide_eq_true_eq];exact g)]at hP;rw[if_neg g];exact(Nf hP).symm
  rw[ev];exact h h' tk old
theorem max_two{a b:Value}{x y:Int}(ha:Nv a x)(hb:Nv b y)(hh:A.handled=none)(h:∀h' tk,(∀c o,s.heap.get? c=some o->h'.get? c=some o)->Q (if y>x then b else a) { s with heap:=h',toks:=tk }):wpAny (model prog w) A (call (.builtin "max") [a,b]) Q E s:=by
 have tp:(s.heap.push { cls:=.type "tuple",data:=.seq #[a,b] }).IsTuple s.heap.objs.size #[a,b]:=⟨_,Mw _ rfl,rfl,0,rfl⟩;have sz:(s.heap.push { cls:=.type "tuple",data:=.seq #[a,b] }).objs.size=s.heap.objs.size+1:=Heap.size_push _ _;refine call_max_two (wpAny_pyIter_tuple tp ⟨_,[_,s.heap.objs.size],[_],_,_,_,fun i j=>decide ((if i=0 then x else y)>if j=0 then x else y),rfl,Walks.tuple (A:=A.in1) hh _ s.heap.objs.size (by rw[sz];exact Fb (Nat.lt_succ_self _)) #[a,b],⟨⟨_,Mw _ rfl,rfl,rfl⟩,tp.push _⟩,fun c hc=>?_,Nat.zero_lt_succ _,fun i j vi vj s' Q' E' pi pj q=>gt_num (Rh ha hb pi) (Rh ha hb pj) q,fun v h' tk hP hk=>?_⟩)
 .show c<((s.heap.push _).push _).objs.size;rw[Heap.size_push,sz];rcases Ya.mp hc with rfl | hc
  .rw[sz];exact Nat.lt_succ_self _
  .cases Dl.mp hc;exact Nat.lt_succ_of_lt (Nat.lt_succ_self _)
 .have old:∀c o,s.heap.get? c=some o->h'.get? c=some o:=fun c o e=>hk c o (fun z=>by
   have lt:=Mv e;rw[Dl.mp z,sz]at lt;exact Nat.lt_irrefl _ (Nat.lt_of_succ_lt lt)) (Vn _ (Vn _ e))
  have ev:v=if y>x then b else a:=by
   have hP:#[a,b][if decide ((if 1=0 then x else y)>if 0=0 then x else y)=true then 1 else 0]?=some v:=hP;rw[if_neg (by decide:¬ (1:Nat)=0),if_pos (rfl:(0:Nat)=0)]at hP;by_cases g:y>x
   .rw[if_pos (Jo g)]at hP;rw[if_pos g];exact(Nf hP).symm
   .rw[if_neg (by rw[decide_eq_true_eq];exact g)]at hP;rw[if_neg g];exact(Nf hP).symm
  rw[ev];exact h h' tk old
end
end TNM
namespace TLM
open PySem PySem.Calls PyProof.Rows SeqAt
section
variable{prog:Program}{w:World}{A:Around}{E:ZQ}{s:Shared}
end
section
variable{prog:Program}{w:World}{A:Around}{R:Result->Shared->Prop}{I:Addr}{fp wr:ZS}{n:Nat}{P:Nat->Value->Prop}{St:Nat->Heap->Prop}
end
end TLM
namespace TLM
open PySem PySem.Spec PyProof.Rows L2 PV
end TLM
namespace PV
open PySem PySem.Spec PyProof.Rows L2
theorem zh{zs:Array (Int×Tok)}{ns:ZT}(en:zs.toList.map (·.1)=ns){i:Nat}(hi:i<ns.length):numAt zs i∈ns:=by rw[numAt_eq,en];exact getD_mem hi
theorem fw{zs:Array (Int×Tok)}{ns:ZT}(en:zs.toList.map (·.1)=ns){m:Int}(hm:m∈ns):∃j,j<ns.length/\numAt zs j=m:=by
 obtain⟨j,hj,ej⟩:=mem_getD hm;exact⟨j,hj,by rw[numAt_eq,en];exact ej⟩
section
variable{g:Md}{F:OM}{A:Around}{R:ZQ}{E:ZQ}{s:Shared}{t:T}{u v:Value}{a L:Addr}{ts ws:ZZ}{us:ZK}
theorem Zz4{i:Int}{t:Tok}(k:Ok g F L s (.f (.int (if i<0 then -i else i))) R):wpAny (model g.prog g.w) A (call (.builtin "abs") [.int i t]) R E s:=call_abs_int fun u tk=>k s.heap _ _ (.sc .int)
theorem sk{i:Int}{t:Tok}(h:i.natAbs.log2<1920)(k:Ok g F L s (.f (.str (toString i))) R):wpAny (model g.prog g.w) A (call (.type "str") [.int i t]) R E s:=PySem.P.str_of_int h (k s.heap _ _ (.sc .str))
theorem di{x:Str}{n:Int}{t:Tok}(h:PySem.intText? x=some n)(hz:x.length<=640)(k:Ok g F L s (.f (.int n)) R):wpAny (model g.prog g.w) A (call (.type "int") [.str x t]) R E s:=W.KIN.call_text h hz (k s.heap _ _ (.sc .int))
theorem Wh{ns:ZT}{us:ZK}(h:IntsAre us ns):∃zs:Array (Int×Tok),us.toArray=intItems zs/\zs.toList.map (·.1)=ns:=by
 obtain⟨zs,e⟩:=h.allInts.items;refine⟨zs,e, ?_⟩;have b:=nums_intItems zs;rw[<-e]at b;exact b.symm.trans h.numsOf
theorem sy{ns:ZT}{n:Nat}(hh:A.handled=none)(ho:s.heap.get? a=some { cls:=.type "list",data:=.seq us.toArray n })(h:IntsAre us ns)(k:Ok g F L s (.f (.int ns.sum)) R):wpAny (model g.prog g.w) A (call (.builtin "sum") [.ref a]) R E s:=by
 obtain⟨zs,e,en⟩:=Wh h;refine sum_intListG (xs:=zs) hh (by rw[<-e];exact⟨_,ho,rfl,n,rfl⟩) fun h' tk t' hk=>?_;rw[preSum_eq,T0l (by simp),en];exact k h' _ _ (.kept hk .int)
theorem bp{ns:ZT}{m:Int}{n:Nat}(hh:A.handled=none)(ho:s.heap.get? a=some { cls:=.type "list",data:=.seq us.toArray n })(h:IntsAre us ns)(em:oa ns=some m)(k:Ok g F L s (.f (.int m)) R):wpAny (model g.prog g.w) A (call (.builtin "max") [.ref a]) R E s:=by
 obtain⟨hm,hb⟩:=ou em;obtain⟨zs,e,en⟩:=Wh h;have len:zs.size=ns.length:=by rw[<-en,Y9,x3]
 have pos:=List.length_pos_of_mem hm;refine max_intList (xs:=zs) hh (by rw[<-e];exact⟨_,ho,rfl,n,rfl⟩) (by omega) fun v h' tk hv hk=>?_;obtain⟨t,rfl⟩:=intItems_at hv;obtain⟨hi,top⟩:=argBest_gt (numAt zs) (zs.size - 1);obtain⟨j,hj,ej⟩:=fw en hm;have h1:=top j (by omega);have h2:=hb _ (zh en (i:=argBest (fun i j=>decide (numAt zs i>numAt zs j)) (zs.size - 1)) (by omega));rw[show numAt zs (argBest (fun i j=>decide (numAt zs i>numAt zs j)) (zs.size - 1))=m by omega];exact k h' _ _ (.kept hk .int)
theorem br{ns:ZT}{m:Int}{n:Nat}(hh:A.handled=none)(ho:s.heap.get? a=some { cls:=.type "list",data:=.seq us.toArray n })(h:IntsAre us ns)(em:oy ns=some m)(k:Ok g F L s (.f (.int m)) R):wpAny (model g.prog g.w) A (call (.builtin "min") [.ref a]) R E s:=by
 obtain⟨hm,hb⟩:=Pq em;obtain⟨zs,e,en⟩:=Wh h;have len:zs.size=ns.length:=by rw[<-en,Y9,x3]
 have pos:=List.length_pos_of_mem hm;refine min_intList (xs:=zs) hh (by rw[<-e];exact⟨_,ho,rfl,n,rfl⟩) (by omega) fun v h' tk hv hk=>?_;obtain⟨t,rfl⟩:=intItems_at hv;obtain⟨hi,top⟩:=argBest_lt (numAt zs) (zs.size - 1);obtain⟨j,hj,ej⟩:=fw en hm;have h1:=top j (by omega);have h2:=hb _ (zh en (i:=argBest (fun i j=>decide (numAt zs i<numAt zs j)) (zs.size - 1)) (by omega));rw[show numAt zs (argBest (fun i j=>decide (numAt zs i<numAt zs j)) (zs.size - 1))=m by omega];exact k h' _ _ (.kept hk .int)
def NV:T->Int->Prop
 | .int i,x=>x=i
 | .bl b,x=>x=if b=true then 1 else 0
 | _,_=>False
theorem NV.nv{x:T}{v:Value}{i:Int}(h:NV x i)(r:IsT g F x v):TNM.Nv v i:=by
 cases r with
 | int=>cases h;exact .i _ _
 | bl=>cases h;exact .b _
 | _=>exact h.elim
theorem bu{x y:T}{i j:Int}{v u:Value}(hh:A.handled=none)(rx:IsT g F x v)(ry:IsT g F y u)(hx:NV x i)(hy:NV y j)(k:Ok g F L s (.f (if decide (j>i)=true then y else x)) R):wpAny (model g.prog g.w) A (call (.builtin "max") [v,u]) R E s:=by
 refine TNM.max_two (hx.nv rx) (hy.nv ry) hh fun h' tk kp=>k h' _ tk (.kept kp ?_);by_cases q:j>i
 .rw[if_pos q,if_pos (Jo q)];exact ry
 .rw[if_neg q,if_neg (by rw[decide_eq_true_eq];exact q)];exact rx
theorem bh{x y:T}{i j:Int}{v u:Value}(hh:A.handled=none)(rx:IsT g F x v)(ry:IsT g F y u)(hx:NV x i)(hy:NV y j)(k:Ok g F L s (.f (if decide (j<i)=true then y else x)) R):wpAny (model g.prog g.w) A (call (.builtin "min") [v,u]) R E s:=by
 refine TNM.min_two (hx.nv rx) (hy.nv ry) hh fun h' tk kp=>k h' _ tk (.kept kp ?_);by_cases q:j<i
 .rw[if_pos q,if_pos (Jo q)];exact ry
 .rw[if_neg q,if_neg (by rw[decide_eq_true_eq];exact q)];exact rx
end
section
variable{g:Md}{F:OM}{A:Around}{R:ZQ}{E:ZQ}{s:Shared}{t:T}{u v:Value}{r:Sl}{a L:Addr}{ts ws:ZZ}{us:ZK}
structure Rn(g:Md)(F:OM)(L:Addr)(A:Around)(s:Shared):Prop where
 hh:A.handled=none
 un:A.units+150<cLine
 gd:A.guards=some []
 fF:FH F s.heap
 hn:∃m,s.heap.Ns L m
 nL:F L=none
 big:sysModules<s.heap.objs.size
theorem bt_run{q:Pr}{nm:Str}{fv:Value}(hb:btV q=some (nm,fv))(n:Rn g F L A s)(se:Paired (V6 g F s.heap) ts us)(e:Ww q ts=some r)(k:Ok g F L s r R):wpAny (model g.prog g.w) A (call fv us) R E s:=by
 cases q<;>first | (cases hb;done) | skip
 case len =>
  cases hb
  replace e:pLen ts=some r:=e
  unfold pLen at e
  split at e
  rotate_left
  .cases e
  obtain⟨m,e1,rfl⟩:=Y7.mp e;obtain⟨u,rfl,s1⟩:=Cv se;obtain⟨m',e2,e3⟩:=ZP.mp (show (m4 _).bind (fun n=>some ((n:Nat):Int))=some m from e1);cases e3;exact iq s1 n.fF e2 k
 case all =>
  cases hb
  replace e:pAll ts=some r:=e
  unfold pAll at e
  split at e
  rotate_left
  .cases e
  obtain⟨bs,e1,rfl⟩:=Y7.mp e;obtain⟨u,rfl,s1⟩:=Cv se;obtain⟨a,us,m,rfl,z,ho,r⟩:=U3 s1;rw[T9 r e1]at ho;exact Zz3 n.hh ho k
 case any =>
  cases hb
  replace e:pAny ts=some r:=e
  unfold pAny at e
  split at e
  rotate_left
  .cases e
  obtain⟨bs,e1,rfl⟩:=Y7.mp e;obtain⟨u,rfl,s1⟩:=Cv se;obtain⟨a,us,m,rfl,z,ho,r⟩:=U3 s1;rw[T9 r e1]at ho;exact Zz2 n.hh ho k
 case list =>
  cases hb
  replace e:g0 ts=some r:=e
  unfold g0 at e
  split at e
  .cases e;obtain⟨u,rfl,s1⟩:=Cv se;obtain⟨a,us,rfl,z,⟨o,h1,h2,m,h3⟩,r⟩:=V3 n.fF s1;exact mr (T:="tuple") h1 h2 (.inr rfl) h3 z r k
  .cases e;obtain⟨u,rfl,s1⟩:=Cv se;obtain⟨a,vs,rfl,z,ns,dd,r⟩:=Bp s1;exact mh n.hh ns dd z r k
  .cases e
 case sorted =>
  cases hb
  replace e:Q2 ts=some r:=e
  unfold Q2 at e
  split at e
  .obtain⟨ws,e1,rfl⟩:=Y7.mp e;obtain⟨u,rfl,s1⟩:=Cv se;obtain⟨a,us,m,rfl,z,ho,r⟩:=U3 s1;exact R9 (T:="list") ho rfl (.inl rfl) rfl z (X2 r e1) k
  .obtain⟨ws,e1,rfl⟩:=Y7.mp e;obtain⟨u,rfl,s1⟩:=Cv se;obtain⟨a,vs,rfl,z,ns,dd,r⟩:=Bp s1;exact Ha n.hh n.hn ns dd z r e1 k
  .cases e
 case tuple =>
  cases hb
  replace e:Aq ts=some r:=e
  unfold Aq at e
  split at e
  rotate_left
  .cases e
  cases e;obtain⟨u,rfl,s1⟩:=Cv se;obtain⟨a,us,m,rfl,z,ho,r⟩:=U3 s1;exact qq n.fF ho z r k
 case min =>
  cases hb
  replace e:pMin ts=some r:=e
  unfold pMin at e
  split at e
  .cases e;obtain⟨u,v,rfl,s1,s2⟩:=pr2 se;cases s1;cases s2;exact ov n.hh k
  .cases e;obtain⟨u,v,rfl,s1,s2⟩:=pr2 se;exact bh n.hh s1 s2 rfl rfl k
  .unfold og at e;obtain⟨u,rfl,s1⟩:=Cv se;obtain⟨a,us,m,rfl,z,ho,ar⟩:=U3 s1
   split at e
   .rename_i zs e1
    obtain⟨q,e2,rfl⟩:=Y7.mp e;exact br n.hh ho (Gg ar e1).2 e2 k
   .cases e
  .cases e
 case max =>
  cases hb
  replace e:pMax ts=some r:=e
  unfold pMax at e
  split at e
  .cases e;obtain⟨u,v,rfl,s1,s2⟩:=pr2 se;cases s1;cases s2;exact oh n.hh k
  .cases e;obtain⟨u,v,rfl,s1,s2⟩:=pr2 se;exact bu n.hh s1 s2 rfl rfl k
  .obtain⟨zs,e1,e⟩:=ZP.mp e;obtain⟨q,e2,rfl⟩:=Y7.mp e;obtain⟨u,rfl,s1⟩:=Cv se;obtain⟨a,us,m,rfl,z,ho,ar⟩:=U3 s1;exact bp n.hh ho (Gg ar e1).2 e2 k
  .cases e
 case int =>
  cases hb
  replace e:pInt ts=some r:=e
  unfold pInt at e
  split at e
  .cases e;obtain⟨u,rfl,s1⟩:=Cv se;cases s1;exact call_int_int (k s.heap _ _ (.sc .int))
  .cases e;obtain⟨u,rfl,s1⟩:=Cv se;cases s1;exact call_int_bool (k s.heap _ _ (.sc .int))
  .split at e
   .rename_i hz
    obtain⟨m,e1,rfl⟩:=Y7.mp e;obtain⟨u,rfl,s1⟩:=Cv se;cases s1;exact di e1 hz k
   .cases e
  .cases e
 case dict =>
  cases hb
  replace e:fq ts=some r:=e
  unfold fq at e
  split at e
  .cases e;obtain⟨u,rfl,s1⟩:=Cv se;exact js n.big s1 k
  .obtain⟨XY,e1,rfl⟩:=Y7.mp e;obtain⟨u,rfl,s1⟩:=Cv se;exact Ij n.hh n.big n.fF s1 e1 k
  .cases e
 case repr =>
  cases hb
  replace e:gh ts=some r:=e
  unfold gh at e
  split at e
  rotate_left
  .cases e
  obtain⟨z,e1,rfl⟩:=Y7.mp e;obtain⟨u,rfl,s1⟩:=Cv se;exact y3 n.un n.gd n.fF s1 e1 k
 case srtP =>
  cases hb
  replace e:zd ts=some r:=e
  obtain⟨t,u,rfl,rfl,s1⟩:∃t u,ts=[t]/\us=[u]/\V6 g F s.heap t u:=by
   unfold zd at e
   split at e<;>first | (cases e;done) | (obtain⟨u,rfl,s1⟩:=Cv se;exact⟨_,_,rfl,rfl,s1⟩)
  exact yy n.un n.hn n.fF n.nL s1 e k
 case abs =>
  cases hb
  replace e:pAbs ts=some r:=e
  unfold pAbs at e
  split at e
  rotate_left
  .cases e
  cases e;obtain⟨u,rfl,s1⟩:=Cv se;cases s1;exact Zz4 k
 case sum =>
  cases hb
  replace e:pSum ts=some r:=e
  unfold pSum at e
  split at e
  rotate_left
  .cases e
  obtain⟨zs,e1,rfl⟩:=Y7.mp e;obtain⟨u,rfl,s1⟩:=Cv se;obtain⟨a,us,m,rfl,z,ho,ar⟩:=U3 s1;exact sy n.hh ho (Gg ar e1).2 k
 case str =>
  cases hb
  replace e:pStr ts=some r:=e
  unfold pStr at e
  split at e
  rotate_left
  .cases e
  split at e
  rotate_left
  .cases e
  rename_i hz
  cases e;obtain⟨u,rfl,s1⟩:=Cv se;cases s1;exact sk hz k
end
section
variable{X:Cx}{w:W}{k:Nat}{N:ZG}{sc:ZW}{F:OM}{p:P}{V:Vs}{s:Shared}
theorem Inv.rn(I:Inv X F p V s)(c:Ct X w k N sc)(hc:X.calm=true):Rn X.toMd F X.env.locals X.A s:=by
 refine⟨I.ok.hd hc,c.un,c.gd,I.fh,let ⟨m,hn,_⟩:=I.ns;⟨m,hn⟩,I.kpF (.inr (.inl rfl)), ?_⟩;obtain⟨o,es,ep,e,_⟩:=I.ok.mod.glob;exact N0o (by decide) (Mv (I.bk _ _ e))
theorem Inv.ok'{r:Sl}{Q:Sl->P->Prop}{F0:OM}(I:Inv X F p V s)(l:Le F0 F)(q:Q r p):Ok X.toMd F X.env.locals s r (EP X F0 V Q):=fun h' v t G=>(I.ep (tk:=t) G q).le l
variable{q:Pr}{es:E}{x y z:Expr}{Q:Sl->P->Prop}
theorem go1(hs:Hs X w true es [x])(I:Inv X F p V s)(h:wE w (.pr q es) p Q){f:ZQ}(kk:∀F' p' t u s' r,Le F F'->Inv X F' p' V s'->V6 X.toMd F' s'.heap t u->Ww q [t]=some r->Q r p'->f u s'):WP X (eval x X.env) f s :=
 show Tx X [x] (fun us s'=>match us with | [u]=>f u s' | _=>True) s from Sa hs I h fun F' p' ts us s' r l I' se e q=>by
  cases se with
  | nil=>exact trivial
  | cons s1 se=>cases se with
   | nil=>exact kk F' p' _ _ s' r l I' s1 e q
   | cons _ _=>exact trivial
theorem go2(hs:Hs X w true es [x,y])(I:Inv X F p V s)(h:wE w (.pr q es) p Q){f:Value->Value->Shared->Prop}(kk:∀F' p' t t' u v s' r,Le F F'->Inv X F' p' V s'->V6 X.toMd F' s'.heap t u->V6 X.toMd F' s'.heap t' v->Ww q [t,t']=some r->Q r p'->f u v s'):WP X (eval x X.env) (fun u s1=>WP X (eval y X.env) (fun v s2=>f u v s2) s1) s :=
 show Tx X [x,y] (fun us s'=>match us with | [u,v]=>f u v s' | _=>True) s from Sa hs I h fun F' p' ts us s' r l I' se e q=>by
  cases se with
  | nil=>exact trivial
  | cons s1 se=>cases se with
   | nil=>exact trivial
   | cons s2 se=>cases se with
    | nil=>exact kk F' p' _ _ _ _ s' r l I' s1 s2 e q
    | cons _ _=>exact trivial
theorem go3(hs:Hs X w true es [x,y,z])(I:Inv X F p V s)(h:wE w (.pr q es) p Q){f:Value->Value->Value->Shared->Prop}(kk:∀F' p' t t' t2 u v u2 s' r,Le F F'->Inv X F' p' V s'->V6 X.toMd F' s'.heap t u->V6 X.toMd F' s'.heap t' v->V6 X.toMd F' s'.heap t2 u2->Ww q [t,t',t2]=some r->Q r p'->f u v u2 s'):WP X (eval x X.env) (fun u s1=>WP X (eval y X.env) (fun v s2=>WP X (eval z X.env) (fun u2 s3=>f u v u2 s3) s2) s1) s :=
 show Tx X [x,y,z] (fun us s'=>match us with | [u,v,u2]=>f u v u2 s' | _=>True) s from Sa hs I h fun F' p' ts us s' r l I' se e q=>by
  cases se with
  | nil=>exact trivial
  | cons s1 se=>cases se with
   | nil=>exact trivial
   | cons s2 se=>cases se with
    | nil=>exact trivial
    | cons s3 se=>cases se with
     | nil=>exact kk F' p' _ _ _ _ _ _ s' r l I' s1 s2 s3 e q
     | cons _ _=>exact trivial
end
def isVI:E->Bool
 | .v _=>true
 | .io _=>true
 | _=>false
mutual
noncomputable def c7:E->Bool
 | .k _=>true
 | .g _=>true
 | .pr _ es=>Ny es
 | .tup es=>isNil es
 | _=>false
noncomputable def Ny:E->Bool
 | .nil=>true
 | .cons a r=>(isVI a || c7 a) && Ny r
 | _=>false
end
section
variable{w:W}
mutual
theorem Im:∀(a:E) {p:P} {Q:Sl->P->Prop},c7 a=true->wE w a p Q->∃r,Q r p/\∀Q':Sl->P->Prop,Q' r p->wE w a p Q'
 | .k t,p,Q,_,h=>⟨.f t,h,fun _ q=>q⟩
 | .g x,p,Q,_,h=>by
  obtain⟨t,e,h⟩:=Z9 (show on (w.gl x) fun t=>Q (.f t) p from h);exact⟨.f t,h,fun Q' q=>(show on (w.gl x) fun t=>Q' (.f t) p from Z1 e q)⟩
 | .pr r es,p,Q,c,h=>by
  obtain⟨as,h,k⟩:=Om es (show Ny es=true from c) (show wR w true es p fun as p1=>on (looks p1 as) fun ts=>on (Ww r ts) fun s=>Q s p1 from h);obtain⟨ts,e1,h⟩:=Z9 h;obtain⟨s,e2,h⟩:=Z9 h;exact⟨s,h,fun Q' q=>(show wR w true es p fun as p1=>on (looks p1 as) fun ts=>on (Ww r ts) fun s=>Q' s p1 from k _ (Z1 e1 (Z1 e2 q)))⟩
 | .v _,_,_,c,_=>by cases c
 | .mv _,_,_,c,_=>by cases c
 | .io _,_,_,c,_=>by cases c
 | .nil,_,_,c,_=>by cases c
 | .cons _ _,_,_,c,_=>by cases c
 | .tup es,p,Q,c,h=>by
  cases es with
  | nil =>
   have z:([]:ZZ).length<=sizeLine:=Mj _;have h:if ([]:ZZ).length<=sizeLine then Q (.f (.tup [])) p else False:=h
   rw[if_pos z]at h;exact⟨.f (.tup []),h,fun Q' q=>(show if ([]:ZZ).length<=sizeLine then Q' (.f (.tup [])) p else False by rw[if_pos z];exact q)⟩
  | _=>cases c
 | .lst _,_,_,c,_=>by cases c
 | .and _ _,_,_,c,_=>by cases c
 | .or _ _,_,_,c,_=>by cases c
 | .not _,_,_,c,_=>by cases c
 | .ite _ _ _,_,_,c,_=>by cases c
 | .call _ _,_,_,c,_=>by cases c
 | .cal _ _,_,_,c,_=>by cases c
 | .mt _ _ _,_,_,c,_=>by cases c
 | .comp _ _ _ _ _ _,_,_,c,_=>by cases c
 | .itr _ _,_,_,c,_=>by cases c
 | .tmp _,_,_,c,_=>by cases c
 | .tmB _,_,_,c,_=>by cases c
theorem Om:∀(es:E) {p:P} {K:List A->P->Prop},Ny es=true->wR w true es p K->∃as,K as p/\∀K':List A->P->Prop,K' as p->wR w true es p K'
 | .nil,p,K,_,h=>⟨[],h,fun _ q=>q⟩
 | .cons a r,p,K,c,h=>by
  have h:wH true a p (wE w a p) fun a1 p1=>wR w true r p1 fun as p2=>K (a1::as) p2:=h;obtain⟨c1,c2⟩:=Hq.mp (show ((isVI a || c7 a) && Ny r)=true from c)
  have slot:∀(i:Nat) {K0:A->P->Prop},(if done p i=true then K0 (.s i) p else False)->done p i=true/\K0 (.s i) p:=fun i {K0} h=>by
   split at h
   .exact⟨by assumption,h⟩
   .exact h.elim
  have toK:∀{s:Sl},(Cy s fun t=>wR w true r p fun as p2=>K (.t t::as) p2)->(∀Q':Sl->P->Prop,Q' s p->wE w a p Q')->∃t,(wR w true r p fun as p2=>K (.t t::as) p2)/\∀K':A->P->Prop,K' (.t t) p->wE w a p fun s p1=>Cy s fun t=>K' (.t t) p1:=fun {s} h k=>by
   cases s with
   | no=>exact h.elim
   | f t=>exact⟨t,h,fun K' q=>k _ q⟩
   | o t=>exact⟨t,h,fun K' q=>k _ q⟩
  have key:∃a1,(wR w true r p fun as p2=>K (a1::as) p2)/\∀K':A->P->Prop,K' a1 p->wH true a p (wE w a p) K':=by
   cases a with
   | v i=>obtain⟨d,h⟩:=slot i (K0:=fun a1 p1=>wR w true r p1 fun as p2=>K (a1::as) p2) h;exact⟨.s i,h,fun K' q=>(show if done p i=true then K' (.s i) p else False by rw[if_pos d];exact q)⟩
   | io i=>obtain⟨d,h⟩:=slot i (K0:=fun a1 p1=>wR w true r p1 fun as p2=>K (a1::as) p2) h;exact⟨.s i,h,fun K' q=>(show if done p i=true then K' (.s i) p else False by rw[if_pos d];exact q)⟩
   | k t=>exact⟨.t t,h,fun K' q=>q⟩
   | g x =>
    obtain⟨s,h,k⟩:=Im (.g x) (Q:=fun s p1=>Cy s fun t=>wR w true r p1 fun as p2=>K (.t t::as) p2) rfl h;obtain⟨t,h,k⟩:=toK h k;exact⟨.t t,h,k⟩
   | pr q es =>
    obtain⟨s,h,k⟩:=Im (.pr q es) (Q:=fun s p1=>Cy s fun t=>wR w true r p1 fun as p2=>K (.t t::as) p2) c1 h;obtain⟨t,h,k⟩:=toK h k;exact⟨.t t,h,k⟩
   | tup es =>
    obtain⟨s,h,k⟩:=Im (.tup es) (Q:=fun s p1=>Cy s fun t=>wR w true r p1 fun as p2=>K (.t t::as) p2) c1 h;obtain⟨t,h,k⟩:=toK h k;exact⟨.t t,h,k⟩
   | _=>cases c1
  obtain⟨a1,h,k1⟩:=key;obtain⟨as,h,k2⟩:=Om r c2 h;exact⟨a1::as,h,fun K' q=>(show wH true a p (wE w a p) fun a1 p1=>wR w true r p1 fun as p2=>K' (a1::as) p2 from k1 _ (k2 _ q))⟩
 | .k _,_,_,c,_=>by cases c
 | .g _,_,_,c,_=>by cases c
 | .pr _ _,_,_,c,_=>by cases c
 | .v _,_,_,c,_=>by cases c
 | .mv _,_,_,c,_=>by cases c
 | .io _,_,_,c,_=>by cases c
 | .tup _,_,_,c,_=>by cases c
 | .lst _,_,_,c,_=>by cases c
 | .and _ _,_,_,c,_=>by cases c
 | .or _ _,_,_,c,_=>by cases c
 | .not _,_,_,c,_=>by cases c
 | .ite _ _ _,_,_,c,_=>by cases c
 | .call _ _,_,_,c,_=>by cases c
 | .cal _ _,_,_,c,_=>by cases c
 | .mt _ _ _,_,_,c,_=>by cases c
 | .comp _ _ _ _ _ _,_,_,c,_=>by cases c
 | .itr _ _,_,_,c,_=>by cases c
 | .tmp _,_,_,c,_=>by cases c
 | .tmB _,_,_,c,_=>by cases c
end
end
noncomputable def quiet:Pr->E->Bool
 | .c2 _ _,.cons _ (.cons _ r)=>Ny r
 | .get1,.cons _ r=>Ny r
 | .get2,.cons _ r=>Ny r
 | .c2 _ _,_=>false
 | .get1,_=>false
 | .get2,_=>false
 | _,_=>true
theorem Nr{es:ZM}{env:Env}{cpos:Pos}(h:∀e∈es,noStar e=true)(hl:es.length<30):((backTo cpos (starEach es env)).all (fun x=>!x.1) && (backToKw cpos (keywordEach [] env)).all (fun x=>x.1.isSome)
  && decide (es.length+([]:List Keyword).length+(if ([]:List Keyword).isEmpty then 0 else 1)<30))=true:=by
 have h1:(backTo cpos (starEach es env)).all (fun x=>!x.1)=true:=by
  rw[List.all_eq_not_any_not];have:=Vx es env cpos h;simp only[Bool.not_not];rw[this];rfl
 rw[h1];show (true && true && decide (es.length+0+0<30))=true;rw[Jo (by omega)];rfl
section
variable{X:Cx}{w:W}{k:Nat}{N:ZG}{sc:ZW}{F:OM}{p:P}{V:Vs}{s:Shared}
theorem xw{q:Pr}{a r:E}{x:Expr}{xs:ZM}{Q:Sl->P->Prop}{f:ZQ}(hs:Hs X w true (.cons a r) (x::xs))(hq:Ny r=true)(I:Inv X F p V s)(h:wE w (.pr q (.cons a r)) p Q)
  (kk:∀F1 p1 b v s1 as ts rr,Le F F1->Inv X F1 p1 V s1->Ar X F1 V b v->looks p1 (b::as)=some ts->Ww q ts=some rr->Q rr p1->(∀K':List A->P->Prop,K' as p1->wR w true r p1 K')->f v s1):WP X (eval x X.env) f s:=by
 cases hs with | cons ha _ t =>
 have h:wH true a p (wE w a p) fun a1 p1=>wR w true r p1 fun as p2=>on (looks p2 (a1::as)) fun ts=>on (Ww q ts) fun s=>Q s p2:=h;refine Vz (ha F p V s _ I h) fun v s1 ⟨F1,p1,b,l1,I1,r1,_,h⟩=>?_;obtain⟨as,h,kr⟩:=Om r hq h;obtain⟨ts,e1,h⟩:=Z9 h;obtain⟨rr,e2,h⟩:=Z9 h;exact kk F1 p1 b v s1 as ts rr l1 I1 r1 e1 e2 h kr
theorem Pu{r:E}{xs:ZM}{p1:P}{as:List A}(t:Hs X w true r xs)(I:Inv X F p1 V s)(kr:∀K':List A->P->Prop,K' as p1->wR w true r p1 K'){K:ZK->Shared->Prop}(kk:∀F' us s',Le F F'->Inv X F' p1 V s'->Paired (Ar X F' V) as us->K us s'):Tx X xs K s :=
 evs t I (kr (fun as' q=>as'=as/\q=p1) ⟨rfl,rfl⟩) fun F' p' as' us s' l I' ar _ ⟨e1,e2⟩=>by subst e1 e2;exact kk F' us s' l I' ar
theorem Gp{a:A}{as:List A}{ts:ZZ}(h:looks p (a::as)=some ts):∃t r,look p a=some t/\looks p as=some r/\ts=t::r:=by
 obtain⟨t,e1,h⟩:=ZP.mp (show (look p a).bind _=some ts from h);obtain⟨r,e2,rfl⟩:=Y7.mp h;exact⟨t,r,e1,e2,rfl⟩
theorem Ct.gl'(c:Ct X w k N sc){x:Str}(h:L4 sc x=true):Gl X x/\(x == ("__debug__" : Str))=false:=by
 unfold L4 at h;rw[Jx,beq_iff_eq]at h;exact⟨c.gi h.1,by simpa using h.2⟩
theorem Ct.nm'(c:Ct X w k N sc){i:Nat}{x:Str}(h:Gc N sc i x=true):Nm X i x:=by
 unfold Gc at h;simp only[Jx,beq_iff_eq]at h;exact⟨by rw[c.nN];exact h.1.1.1,by simpa using h.1.2,by simpa using h.2⟩
theorem Xa(c:Ct X w k N sc){x:Str}{XY:ZX}(e:Lu x=some XY)(I:Inv X F p V s):∃a,X.mg x=some (.ref a)/\V6 X.toMd F s.heap (.dct XY) (.ref a):=by
 obtain⟨a,vs,hm,dd,ns,z,r⟩:=c.bn.t x XY e;have l:Le X.base.get? F:=fun a o h=>I.le a o (I.ok.b a o h);obtain⟨o,ho,k⟩:=Ft.of dd z ns;exact⟨a,hm,.of I.fh (.mkD (l a o ho) k (Yo.up r l))⟩
theorem Xu{x z:Str}{t:T}(h:Sv x z=some t):∃XY,Lu x=some XY/\Zj XY (.inr z)=some t:=ZP.mp h
variable{es:E}
theorem Zzr{q:Pr}{nm:Str}{fv:Value}(h:btV q=some (nm,fv)):nm∈Mx/\bootBuiltins nm=some fv/\nm ≠ "__name__" /\ ((∃id,fv=.builtin id)\/∃T,fv=.type T):=by
 unfold btV at h
 split at h<;>first | (cases h;done) | (cases h;exact⟨by decide +kernel,by decide +kernel,by decide +kernel,by first | exact .inl ⟨_,rfl⟩ | exact .inr ⟨_,rfl⟩⟩)
theorem Zxy(c:Ct X w k N sc)(hc:X.calm=true){q:Pr}{x:Expr}{xs:ZM}(hv:vBt sc q x=some xs)(hs:Hs X w true es xs):SE w (.pr q es) X x:=fun F p V s Q I h=>by
 obtain⟨f,p0,a,r,pos,rfl,hv2⟩:=vBt_ex hv
 clear hv
 split at hv2
 rotate_left
 .cases hv2
 rename_i nm fv hb
 split at hv2
 rotate_left
 .cases hv2
 rename_i ho
 cases hv2;obtain⟨rfl,g1⟩:=ho;obtain⟨gg,gd⟩:=c.gl' g1;obtain⟨b1,b2,b3,b4⟩:=Zzr hb;have st:=hs.star;have main:WP X (spliced (backTo pos (starEach (a::r) X.env))) (fun us s1=>WP X (call fv us) (EP X F V Q) s1) s:=Vh st (Sa hs I h fun F1 p1 ts us s1 rr l I1 se e q=>bt_run hb (I1.rn c hc) se e (I1.ok' l q));refine wpAny_Call_Name_kw (Tc I gg (c.bn.b _ b1) b2 gd b3 ?_);rcases b4 with ⟨id,rfl⟩ | ⟨T,rfl⟩
 .exact callWith_builtin1 main (Yd (st _ Yb)) (Vx r X.env pos fun e m=>st e (Y5 _ m))
 .exact callWith_type1 main (Yd (st _ Yb)) (Vx r X.env pos fun e m=>st e (Y5 _ m))
end
section
variable{X:Cx}{w:W}{k:Nat}{N:ZG}{sc:ZW}{es:E}
theorem se_op{o:Op}{x:Expr}{xs:ZM}(hv:vOp o x=some xs)(hs:Hs X w true es xs):SE w (.pr (.op o) es) X x:=fun F p V s Q I h=>by
 replace hv:=vOp_ex hv
 obtain⟨a,op,b,p0,rfl,hv⟩:=hv
 split at hv
 .rename_i ho
  subst ho;cases hv;exact wpAny_BinOp (go2 hs I h fun F1 p1 t t' u v s1 r l I1 Qp X6 e q=>op_run o I1.fh Qp X6 e (I1.ok' l q))
 .cases hv
theorem Zx6(c:Ct X w k N sc){cm:Cm}{a b:Expr}{f:ZQ}(hs:Hs X w true es [a,b]){F:OM}{p:P}{V:Vs}{s:Shared}{Q:Sl->P->Prop}(I:Inv X F p V s)(h:wE w (.pr (.cm cm) es) p Q)(kk:∀F1 p1 bb s1,Le F F1->Inv X F1 p1 V s1->Q (.f (.bl bb)) p1->f (.bool bb) s1) :
  WP X (eval a X.env) (fun v s1=>WP X (eval b X.env) (fun u s2=>WP X (compareOp (W4 cm) v u) f s2) s1) s :=
 go2 hs I h fun F1 p1 t t' u v s1 r l I1 Qp X6 e q=>by
  obtain⟨bb,e1,rfl⟩:=Y7.mp (show (Dn cm t t').map _=some r from e);exact Ib cm c.un I1.fh Qp X6 e1 fun tk=>kk F1 p1 bb _ l (I1.tok tk) q
theorem Zxw(c:Ct X w k N sc){cm:Cm}{x:Expr}{xs:ZM}(hv:vCm cm x=some xs)(hs:Hs X w true es xs):SE w (.pr (.cm cm) es) X x/\∀wh,ST w (.pr (.cm cm) es) X x wh:=by
 replace hv:=vCm_ex hv
 obtain⟨a,op,b,p0,rfl,hv⟩:=hv
 split at hv
 .rename_i ho
  obtain⟨rfl,hm⟩:=ho;cases hv
  exact⟨fun F p V s Q I h=>wpAny_Compare1 (Zx6 c hs I h fun F1 p1 bb s1 l I1 q=>⟨F1,p1,.f (.bl bb),l,I1,Top.bl,q⟩) hm,
   fun wh F p V s Q I h=>wpAny_isTrue_Compare1 (Zx6 c hs I h fun F1 p1 bb s1 l I1 q=>wpAny_truthy_bool ⟨F1,p1,l,I1,q⟩) hm⟩
 .cases hv
theorem Zx7(c:Ct X w k N sc){cm c5:Cm}{a b d:Expr}{fin:Bool->Shared->Prop}(hs:Hs X w true es [a,b,d])(hq:quiet (.c2 cm c5) es=true){F:OM}{p:P}{l:Vs}{s:Shared}{Q:Sl->P->Prop}(I:Inv X F p l s)(h:wE w (.pr (.c2 cm c5) es) p Q)
  (kk:∀F1 p1 bb s1,Le F F1->Inv X F1 p1 l s1->Q (.f (.bl bb)) p1->fin bb s1) :
  WP X (eval a X.env) (fun v s1=>WP X (eval b X.env) (fun u s2=>WP X (compareOp (W4 cm) v u) (fun e s3=>∃bb,e=.bool bb/\if bb=true then WP X (eval d X.env) (fun z s4=>WP X (compareOp (W4 c5) u z) (fun e s5=>∃bb,e=.bool bb/\fin bb s5) s4) s3 else fin false s3) s2) s1) s:=by
 cases hs with | @cons ea er x xs ha sa t=>cases t with | @cons eb r x xs hb sb t =>
 have hq:Ny r=true:=hq;have h:wH true ea p (wE w ea p) fun a1 p1=>wH true eb p1 (wE w eb p1) fun a2 p2=>wR w true r p2 fun as p3=>on (looks p3 (a1::a2::as)) fun ts=>on (Ww (.c2 cm c5) ts) fun s=>Q s p3:=h;refine Vz (ha F p l s _ I h) fun v s1 ⟨F1,p1,a1,l1,I1,r1,_,h⟩=>Vz (hb F1 p1 l s1 _ I1 h) fun u s2 ⟨F2,p2,a2,l2,I2,r2,_,h⟩=>?_;obtain⟨as,h,kr⟩:=Om r hq h;obtain⟨ts,e1,h⟩:=Z9 h;obtain⟨rr,e2,h⟩:=Z9 h;obtain⟨t1,q1,g1,g2,rfl⟩:=Gp e1;obtain⟨t2,q2,g3,g4,rfl⟩:=Gp g2;have r1:=r1.up l2
 match q2,g4,e2 with
 | [],g4,e2=>cases e2
 | _::_::_,g4,e2=>cases e2
 | [t3],g4,e2 =>
 obtain⟨b1,e3,e2⟩:=ZP.mp (show (Dn cm t1 t2).bind _=some rr from e2);refine Ib cm c.un I2.fh (I2.look g1 r1) (I2.look g3 r2) e3 fun tk=>⟨b1,rfl, ?_⟩;have I3:=I2.tok tk;cases b1 with
 | false =>
  cases e2;rw[if_neg Qv];exact kk F2 p2 false _ (l1.trans l2) I3 h
 | true =>
  obtain⟨b2,e4,rfl⟩:=Y7.mp e2;rw[if_pos rfl];refine Pu (K:=fun us s4=>match us with | [z]=>WP X (compareOp (W4 c5) u z) (fun e s5=>∃bb,e=.bool bb/\fin bb s5) s4 | _=>True) t I3 kr fun F4 us s4 l4 I4 ar=>?_;obtain⟨z,rfl,s3⟩:=Cv (I4.looks ar g4);exact Ib c5 c.un I4.fh (I4.look g3 (r2.up l4)) s3 e4 fun tk=>⟨b2,rfl,kk F4 p2 b2 _ (l1.trans (l2.trans l4)) (I4.tok tk) h⟩
theorem Zxv(c:Ct X w k N sc){cm c5:Cm}{x:Expr}{xs:ZM}(hv:vC2 cm c5 x=some xs)(hq:quiet (.c2 cm c5) es=true)(hs:Hs X w true es xs):SE w (.pr (.c2 cm c5) es) X x/\∀wh,ST w (.pr (.c2 cm c5) es) X x wh:=by
 replace hv:=vC2_ex hv
 obtain⟨a,op,op',b,d,p0,rfl,hv⟩:=hv
 split at hv
 rotate_left
 .cases hv
 rename_i ho
 obtain⟨rfl,rfl,hm⟩:=ho;cases hv
 refine⟨fun F p V s Q I h=>Compare_chain (Vz (Zx7 (fin:=fun bb s'=>EP X F V Q (.bool bb) s') c hs hq I h fun F1 p1 bb s1 l I1 q=>⟨F1,p1,.f (.bl bb),l,I1,Top.bl,q⟩) fun v s1 g=>chain_link (Vz g fun u s2 g=>Vz g fun e s3 ⟨bb,ee,g⟩=>?_)) hm,
  fun wh F p V s Q I h=>isTrue_chain (Vz (Zx7 (fin:=fun bb s'=>TP X F V Q bb s') c hs hq I h fun F1 p1 bb s1 l I1 q=>⟨F1,p1,l,I1,q⟩) fun v s1 g=>test_link (Vz g fun u s2 g=>Vz g fun e s3 ⟨bb,ee,g⟩=>?_)) hm⟩
 .subst ee;refine wpAny_truthy_bool ?_;cases bb with
  | false=>rw[if_neg Qv]at g;exact ite_ff g
  | true=>rw[if_pos rfl]at g;exact ite_tt (chain_last (Vz g fun z s4 g=>Vz g fun e s5 ⟨bb,ee,g⟩=>by subst ee;exact g))
 .subst ee;refine wpAny_truthy_bool ?_;cases bb with
  | false=>rw[if_neg Qv]at g;exact ite_ff g
  | true=>rw[if_pos rfl]at g;exact ite_tt (test_last (Vz g fun z s4 g=>Vz g fun e s5 ⟨bb,ee,g⟩=>by subst ee;exact wpAny_truthy_bool g))
theorem Se{b:Expr}(h:U1 b=true):∀o i,subscripted b false o i=operate [o,i] (getItem o i):=fun o i=>by cases b<;>first | rfl | cases h
theorem se_neg{x:Expr}{xs:ZM}(hv:ri x=some xs)(hs:Hs X w true es xs):SE w (.pr .neg es) X x:=fun F p V s Q I h=>by
 replace hv:=ro hv
 obtain⟨a,p0,rfl,hv⟩:=hv;cases hv;refine UnaryOp_ (go1 hs I h fun F1 p1 t u s1 r l I1 se e q=>?_);cases t<;>first | (cases e;done) | skip
 cases e;cases se;exact neg_int ((I1.ep (tk:=_) (.sc .int) q).le l)
theorem se_ix{x:Expr}{xs:ZM}(hv:vIx x=some xs)(hs:Hs X w true es xs):SE w (.pr .ix es) X x:=fun F p V s Q I h=>by
 replace hv:=vIx_ex hv
 obtain⟨a,b,p0,rfl,hv⟩:=hv
 split at hv
 .rename_i ho
  cases hv;refine Subscript_ (go2 hs I h fun F1 p1 t t' u v s1 r l I1 Qp X6 e q=>?_);obtain⟨z,e1,rfl⟩:=Y7.mp (show (Ek t t').map Sl.f=some r from e);exact dw I1.fh Qp X6 e1 (I1.ok' l q) (Se ho _ _)
 .cases hv
theorem Ho{F F1:OM}{p1:P}{V:Vs}{s1:Shared}{Q:Sl->P->Prop}{t:T}{v vl vu:Value}{lo hi:ZC}{r:Sl}{e:Expr}{lo' tw:Option Expr}{p2:Pos}(l:Le F F1)(I:Inv X F1 p1 V s1)(se:V6 X.toMd F1 s1.heap t v)(pl:IsPart vl lo)(pu:IsPart vu hi)(e1:slT t lo hi=some r)(q:Q r p1) :
  WP X (subscriptTail e (.Slice lo' tw none p2) v (.ref s1.heap.objs.size)) (EP X F V Q) { s1 with heap:=s1.heap.push { cls:=.type "slice",data:=.fields #[vl,vu,.none] } }:=by
 have I4:Inv X F1 p1 V { s1 with heap:=s1.heap.push { cls:=.type "slice",data:=.fields #[vl,vu,.none] } }:=I.kept (t:=s1.toks) fun b ob q=>Vn _ q
 have se4:V6 X.toMd F1 (s1.heap.push { cls:=.type "slice",data:=.fields #[vl,vu,.none] }) t v:=by
  unfold V6 at *;cases hc:B5 t with
  | true =>
   rw[hc]at se;obtain⟨a,o,rfl,_⟩:=se.at hc;exact se.to (D':=(s1.heap.push _).get?) hc fun o e=>Vn _ e
  | false=>rw[hc]at se;exact se
 obtain⟨T,id,hT,ht,hg⟩:=sl_run (A:=X.A) (E:=X.xe) I4.fh se4 (Heap.IsSliceOf.new ..) pl pu e1 (I4.ok' l q);exact tail_any (ops:=[.ref s1.heap.objs.size,v]) ht hT hg (by with_unfolding_all rfl)
theorem p8{x:Expr}{xs:ZM}(hv:Xf x=some xs)(hs:Hs X w true es xs):SE w (.pr (.sl true false) es) X x:=fun F p V s Q I h=>by
 replace hv:=vd hv
 obtain⟨a,l0,q0,p0,rfl,hv⟩:=hv;cases hv;refine Subscript_ (Vz (go2 (f:=fun v u s1=>WP X (subscriptTail a (.Slice (some l0) none none q0) v (.ref s1.heap.objs.size)) (EP X F V Q) { s1 with heap:=s1.heap.push { cls:=.type "slice",data:=.fields #[u,.none,.none] } }) hs I h fun F1 p1 t t' u v s1 r l I1 Qp X6 e q=>?_) fun v s1 g=>wpAny_Slice ?_)
 .obtain⟨i,e1,e2⟩:=ZP.mp (show (Ed t').bind (fun i=>slT t (some i) none)=some r from e);cases t'<;>first | (cases e1;done) | skip
  cases e1;cases X6;exact Ho l I1 Qp (.int _ _) .none e2 q
 .rw[evalPart_some];refine Vz g fun u s2 g=>?_;rw[evalPart_none];exact Z8 (Z8 g)
theorem uz{x:Expr}{xs:ZM}(hv:Xb x=some xs)(hs:Hs X w true es xs):SE w (.pr (.sl false true) es) X x:=fun F p V s Q I h=>by
 replace hv:=vt hv
 obtain⟨a,l0,q0,p0,rfl,hv⟩:=hv;cases hv;refine Subscript_ (Vz (go2 (f:=fun v u s1=>WP X (subscriptTail a (.Slice none (some l0) none q0) v (.ref s1.heap.objs.size)) (EP X F V Q) { s1 with heap:=s1.heap.push { cls:=.type "slice",data:=.fields #[.none,u,.none] } }) hs I h fun F1 p1 t t' u v s1 r l I1 Qp X6 e q=>?_) fun v s1 g=>wpAny_Slice ?_)
 .obtain⟨i,e1,e2⟩:=ZP.mp (show (Ed t').bind (fun i=>slT t none (some i))=some r from e);cases t'<;>first | (cases e1;done) | skip
  cases e1;cases X6;exact Ho l I1 Qp .none (.int _ _) e2 q
 .rw[evalPart_none];refine Z8 ?_;rw[evalPart_some];exact Vz g fun u s2 g=>Z8 g
theorem p6{x:Expr}{xs:ZM}(hv:Xg x=some xs)(hs:Hs X w true es xs):SE w (.pr (.sl true true) es) X x:=fun F p V s Q I h=>by
 replace hv:=vm hv
 obtain⟨a,l0,u0,q0,p0,rfl,hv⟩:=hv;cases hv;refine Subscript_ (Vz (go3 (f:=fun v u u2 s1=>WP X (subscriptTail a (.Slice (some l0) (some u0) none q0) v (.ref s1.heap.objs.size)) (EP X F V Q) { s1 with heap:=s1.heap.push { cls:=.type "slice",data:=.fields #[u,u2,.none] } }) hs I h fun F1 p1 t t' t2 u v u2 s1 r l I1 Qp X6 s3' e q=>?_) fun v s1 g=>wpAny_Slice ?_)
 .obtain⟨i,e1,e2⟩:=ZP.mp (show (Ed t').bind (fun i=>(Ed t2).bind fun j=>slT t (some i) (some j))=some r from e);obtain⟨j,e3,e4⟩:=ZP.mp e2;cases t'<;>first | (cases e1;done) | skip
  cases t2<;>first | (cases e3;done) | skip
  cases e1;cases e3;cases X6;cases s3';exact Ho l I1 Qp (.int _ _) (.int _ _) e4 q
 .rw[evalPart_some];refine Vz g fun u s2 g=>?_;rw[evalPart_some];refine Vz g fun u2 s3 g=>?_;rw[evalPart_none];exact Z8 g
end
section
variable{X:Cx}{w:W}{k:Nat}{N:ZG}{sc:ZW}{es:E}
theorem se_isi(c:Ct X w k N sc){n:Kd}{x:Expr}{xs:ZM}(hv:r7 sc n x=some xs)(hs:Hs X w true es xs):SE w (.pr (.isi n) es) X x:=fun F p V s Q I h=>by
 replace hv:=r6 hv
 obtain⟨f,q0,a,kn,q1,p0,rfl,hv⟩:=hv
 split at hv
 rotate_left
 .cases hv
 rename_i ho
 cases hv;obtain⟨rfl,g1,rfl,g2⟩:=ho;obtain⟨gg1,gd1⟩:=c.gl' g1;obtain⟨gg2,gd2⟩:=c.gl' g2;have st:=hs.star
 have st2:∀e∈[a,Expr.Name (Str.ofString (la n)) q1],noStar e=true:=fun e m=>by
  rcases Ya.mp m with rfl | m
  .exact st _ Yb
  .cases Dl.mp m;rfl
 have kb:(Str.ofString (la n))∈Mx/\bootBuiltins (Str.ofString (la n))=some (.type (la n))/\Str.ofString (la n) ≠ "__name__" := by cases n<;>decide +kernel
 have main:Tx X [a,Expr.Name (Str.ofString (la n)) q1] (fun us s1=>WP X (call (.builtin "isinstance") us) (EP X F V Q) s1) s :=
  go1 (f:=fun v s1=>WP X (eval (.Name (Str.ofString (la n)) q1) X.env) (fun u s2=>WP X (call (.builtin "isinstance") [v,u]) (EP X F V Q) s2) s1) hs I h fun F1 p1 t u s1 r l I1 se e q=>by
   obtain⟨b,e1,rfl⟩:=Y7.mp (show (Ap n t).map _=some r from e);exact Tc I1 gg2 (c.bn.b _ kb.1) kb.2.1 gd2 kb.2.2 (ia I1.kIn I1.fh se e1 (I1.ok' l q))
 refine wpAny_Call_Name_kw (Tc I gg1 (c.bn.b _ (by decide +kernel)) (by decide +kernel:bootBuiltins "isinstance" = some (.builtin "isinstance")) gd1 (by decide) ?_);exact callWith_builtin1 (Vh st2 main) (Yd (st _ Yb)) rfl
theorem uw{x:Expr}{xs:ZM}(hv:Xt x=some xs)(hq:quiet .get1 es=true)(hs:Hs X w true es xs):SE w (.pr .get1 es) X x:=fun F p l s Q I h=>by
 replace hv:=vr hv
 obtain⟨o,m,ap,a,cp,rfl,hv⟩:=hv
 split at hv
 rotate_left
 .cases hv
 rename_i ho
 cases hv;obtain⟨rfl,hn,hl⟩:=ho;cases hs with | @cons ea er _ _ ha sa t =>
 have st:=t.star;refine wpAny_Call_method_late (Dq hn _ _ _) (Nr st (by first | (show 1<30;decide) | (show 2<30;decide))) hl rfl (xw (.cons ha sa t) hq I h fun F1 p1 b v s1 as ts rr l1 I1 r1 e1 e2 q kr=>?_);obtain⟨t1,q1,g1,g2,rfl⟩:=Gp e1;cases t1<;>first | (rcases q1 with _ | ⟨_,_ | ⟨_,_⟩⟩<;>cases e2;done) | skip
 rename_i XY
 obtain⟨a0,vs,rfl,z,ns,dd,r⟩:=Bp (I1.look g1 r1);have dd0:=dd;obtain⟨ob,_,_,h1,h2,_⟩:=dd0;refine⟨"dict","dict.get",PySem.F.plainAttrs_dict,PySem.F.slot_dict_get,PySem.F.type_dict_get,dd.typeIs,fun a e=>by cases e;exact⟨ob,h1,h2.2.1⟩, ?_⟩
 have main:WP X (spliced (backTo cp (starEach (_::_) X.env))) (fun us s2=>WP X (call (.builtin "dict.get") (.ref a0::us)) (EP X F l Q) s2) s1:=Vh st (Pu t I1 kr fun F2 us s2 l2 I2 ar=>by
  rcases q1 with _ | ⟨kt,_ | ⟨_,_⟩⟩
  .cases e2
  .obtain⟨u,rfl,s3⟩:=Cv (I2.looks ar g2);obtain⟨key,e3,rfl⟩:=Y7.mp (show (Tn kt).map _=some rr from e2);exact tc (I2.look g1 (r1.up l2)) s3 e3 (I2.ok' (l1.trans l2) q)
  .cases e2)
 rw[Yd (st _ Yb)]at main ⊢;exact Calls.callWith_builtin rfl (Calls.evalArgs_plain main)
theorem uq{x:Expr}{xs:ZM}(hv:Xd x=some xs)(hq:quiet .get2 es=true)(hs:Hs X w true es xs):SE w (.pr .get2 es) X x:=fun F p l s Q I h=>by
 replace hv:=vn hv
 obtain⟨o,m,ap,a,b0,cp,rfl,hv⟩:=hv
 split at hv
 rotate_left
 .cases hv
 rename_i ho
 cases hv;obtain⟨rfl,hn,hl⟩:=ho;cases hs with | @cons ea er _ _ ha sa t =>
 have st:=t.star;refine wpAny_Call_method_late (Dq hn _ _ _) (Nr st (by first | (show 1<30;decide) | (show 2<30;decide))) hl rfl (xw (.cons ha sa t) hq I h fun F1 p1 b v s1 as ts rr l1 I1 r1 e1 e2 q kr=>?_);obtain⟨t1,q1,g1,g2,rfl⟩:=Gp e1;cases t1<;>first | (rcases q1 with _ | ⟨_,_ | ⟨_,_ | ⟨_,_⟩⟩⟩<;>cases e2;done) | skip
 rename_i XY
 obtain⟨a0,vs,rfl,z,ns,dd,r⟩:=Bp (I1.look g1 r1);have dd0:=dd;obtain⟨ob,_,_,h1,h2,_⟩:=dd0;refine⟨"dict","dict.get",PySem.F.plainAttrs_dict,PySem.F.slot_dict_get,PySem.F.type_dict_get,dd.typeIs,fun a e=>by cases e;exact⟨ob,h1,h2.2.1⟩, ?_⟩
 have main:WP X (spliced (backTo cp (starEach (_::_) X.env))) (fun us s2=>WP X (call (.builtin "dict.get") (.ref a0::us)) (EP X F l Q) s2) s1:=Vh st (Pu t I1 kr fun F2 us s2 l2 I2 ar=>by
  rcases q1 with _ | ⟨kt,_ | ⟨xt,_ | ⟨_,_⟩⟩⟩
  .cases e2
  .cases e2
  .obtain⟨u,v,rfl,s3,s4⟩:=pr2 (I2.looks ar g2);have e2:(if B5 xt=true then none else (Tn kt).map fun k=>Sl.f ((Zj XY k).getD xt))=some rr:=e2
   split at e2
   .cases e2
   .rename_i hct
    obtain⟨key,e3,rfl⟩:=Y7.mp e2;exact td (I2.look g1 (r1.up l2)) s3 s4 (by simpa using hct) e3 (I2.ok' (l1.trans l2) q)
  .cases e2)
 rw[Yd (st _ Yb)]at main ⊢;exact Calls.callWith_builtin (Vx [b0] X.env cp fun e m=>st e (Y5 _ m)) (Calls.evalArgs_plain main)
theorem sx{g:Str}{ts:ZZ}{r:Sl}(h:pTin g ts=some r\/aa g ts=some r):∃z t XY,ts=[.str z]/\Sv g z=some t/\Lu g=some XY/\Zj XY (.inr z)=some t:=by
 rcases h with h | h
 .unfold pTin at h
  split at h
  .obtain⟨t,e,_⟩:=Y7.mp h;obtain⟨XY,e1,e2⟩:=Xu e;exact⟨_,t,XY,rfl,e,e1,e2⟩
  .cases h
 .unfold aa at h
  split at h
  .obtain⟨t,e,_⟩:=Y7.mp h;obtain⟨XY,e1,e2⟩:=Xu e;exact⟨_,t,XY,rfl,e,e1,e2⟩
  .cases h
theorem se_tix(c:Ct X w k N sc){g:Str}{x:Expr}{xs:ZM}(hv:rm sc g x=some xs)(hs:Hs X w true es xs)(hne:(Lu g).isSome=true):SE w (.pr (.tix g) es) X x:=fun F p V s Q I h=>by
 obtain⟨q0,b,p0,rfl,g1,hn,rfl⟩:=rb hv;obtain⟨gg1,gd1⟩:=c.gl' g1;obtain⟨XY,e2⟩:=Option.isSome_iff_exists.mp hne;obtain⟨m,hm,_⟩:=Xa c e2 I;refine Subscript_ (Pf I gg1 hm gd1 (go1 hs I h fun F1 p1 t u s1 r l I1 se e q=>?_));obtain⟨z,t',kvs',ez,e1,e2',e3⟩:=sx (.inr (show aa g [t]=some r from e));cases ez;rw[e2]at e2';cases e2'
 have er:r=.f t':=by
  have e:(Sv g z).map Sl.f=some r:=e;rw[e1]at e;exact(Nf e).symm
 subst er;obtain⟨m',Gu,sd⟩:=Xa c e2 I1;rw[hm]at Gu;cases Gu;exact dw I1.fh sd se (show Ek (.dct XY) (.str z)=some t' from e3) (I1.ok' l q) (Se hn _ _)
theorem uv(c:Ct X w k N sc)(hc:X.calm=true){x:Expr}{xs:ZM}(hv:Xc x=some xs)(hs:Hs X w true es xs):SE w (.pr .dnew es) X x:=fun F p l s Q I h=>by
 replace hv:=vh hv
 obtain⟨p0,rfl,hv⟩:=hv;cases hv;cases hs;have h:Q (.o (.dct [])) p:=h;exact wpAny_Dict_empty (I.ep (tk:=s.toks) (.dctN (vs:=[]) (fun _ _ e=>Vn _ e) (Heap.get?_none_of_le (N4 _)) (Heap.DictOf.new s.heap) (Mj _) (Av (I.rn c hc).big) .nil) h)
end
end PV
namespace HT
open PySem PySem.Spec PyProof.Rows
section
variable{prog:Program}{w:World}{A:Around}{E:ZQ}{s:Shared}
theorem B9{sl:Addr}{n:Nat}{u:Tok}{Q:Int×Int×Nat->Shared->Prop}(hs:s.heap.IsSliceOf sl .none .none (.int (-1) u))
  (h:Q ((n:Int) - 1, -1,n) s):wpAny (model prog w) A (Builtin.Slice.sliceApplied (.ref sl) (pure (n:Int))) Q E s:=by
 obtain⟨os,Pp,l6,A1⟩:=id hs;unfold Builtin.Slice.sliceApplied Builtin.Slice.sliceFields;refine Zy (Zy (wpAny_field Pp A1 (x:=.none) rfl (Zy (wpAny_field Pp A1 (x:=.none) rfl (Zy (wpAny_field Pp A1 (x:=.int (-1) u) rfl (Z8 ?_)))))));refine Zy (slicePart_int ?_);show wpAny _ _ (if ((-1:Int) == 0)=true then _ else _) _ _ s;rw[if_neg (by decide)];refine Zy (slicePart_none (Zy (slicePart_none (Zy (Z8 ?_)))))
 have e:Builtin.Slice.slicePlaces ((n:Int) - 1) (-1) (-1)=n:=by
  unfold Builtin.Slice.slicePlaces;rw[if_neg (by decide)];by_cases hn:n=0
  .subst hn;decide
  .rw[if_pos (by omega)];have q:((n:Int) - 1 - -1 - 1) / - -1=(n:Int) - 1:=by rw[show (- -1:Int)=1 from rfl,Int.ediv_one];omega
   rw[q];omega
 show wpAny _ _ (pure ((n:Int) - 1,(-1:Int),Builtin.Slice.slicePlaces ((n:Int) - 1) (-1) (-1))) _ _ s;rw[e];exact Z8 h
theorem S0(xs:ZD):((List.range xs.size).filterMap fun(m:Nat)=>xs[(((xs.size:Int) - 1)+(m:Int) * (-1)).toNat]?)=xs.toList.reverse:=by
 apply List.ext_getElem?
 intro i
 have e:(List.range xs.size).filterMap (fun(m:Nat)=>xs[(((xs.size:Int) - 1)+(m:Int) * (-1)).toNat]?)=(List.range xs.size).map (fun m=>xs.toList.getD (xs.size - 1 - m) .none):=by
  have go:∀l:List Nat,(∀m∈l,m<xs.size)->l.filterMap (fun(m:Nat)=>xs[(((xs.size:Int) - 1)+(m:Int) * (-1)).toNat]?)=l.map (fun m=>xs.toList.getD (xs.size - 1 - m) .none):=by
   intro l
   induction l with
   | nil=>intro _;rfl
   | cons m l ih =>
    intro h;have Gu:=h m Yb;have q:(((xs.size:Int) - 1)+(m:Int) * (-1)).toNat=xs.size - 1 - m:=by omega
    have hl:xs.size - 1 - m<xs.size:=by omega
    have q2:xs[(((xs.size:Int) - 1)+(m:Int) * (-1)).toNat]?=some (xs.toList.getD (xs.size - 1 - m) .none):=by rw[q];simp[hl]
    rw[List.filterMap_cons,q2,O5,ih fun k hk=>h k (Y5 _ hk)]
  exact go _ fun m hm=>List.mem_range.mp hm
 rw[e];by_cases hi:i<xs.size
 .rw[lg,List.getElem?_range hi,List.getElem?_reverse (by simpa using hi)];have hl:xs.size - 1 - i<xs.size:=by omega
  simp[hl]
 .rw[List.getElem?_eq_none (by simp;omega),List.getElem?_eq_none (by simp;omega)]
theorem Bm{t sl:Addr}{items:ZD}{u:Tok}{Q:ZQ}(ht:IsTup s.heap t items)(hs:s.heap.IsSliceOf sl .none .none (.int (-1) u))(hsz:items.size<=sizeLine)
  (h:Q (.ref s.heap.objs.size) { s with heap:=s.heap.push { cls:=.type "tuple",data:=.seq items.toList.reverse.toArray } }):wpAny (model prog w) A (getItem (.ref t) (.ref sl)) Q E s:=by
 obtain⟨os,Pp,l6,A1⟩:=id hs;have hTs:s.TypeIs (.ref sl) "slice" := ⟨os,Pp,l6⟩
 have Jj:sizeOk (.seq items.toList.reverse.toArray):=by
  show items.toList.reverse.toArray.size<=sizeLine;rw[Ul,List.length_reverse,x3];exact hsz
 unfold getItem
 try with_reducible refine wpAny_holding ?_
 first | refine Zy (Z8 ?_) | skip
 refine Zy (wpAny_sequenceKey ht.typeIs (by decide) ?_)
 refine Zy (wpAny_callSpecial?_slot (name:=Str.ofString "__getitem__") ht.typeIs slot_tuple_getitem
  (wpAny_call_entry slot_tuple_getitem ht.typeIs entry_tuple_getitem ?_ (args_tuple_getitem _ _)))
 show wpAny _ _ (Builtin.Tuple.tupleItemsOf (.ref t) >>= _) _ _ s;refine Zy (tupleItemsOf_ ht ?_);refine Zy (wpAny_typeOf hTs ?_);rw[if_pos (by decide)];refine Zy (B9 hs ?_);have hno:¬ ((((items.size:Int) - 1) == 0 && (-1:Int) == 1 && items.size == items.size)=true):=by simp
 show wpAny _ _ (if (((items.size:Int) - 1) == 0 && (-1:Int) == 1 && items.size == items.size)=true then _ else _) _ _ s;rw[if_neg hno,S0]
 first
  | exact Zy (m:=Builtin.Tuple.tupleExact _) (wpAny_newObj_type (Z8 ⟨_,rfl,Z8 h⟩) Jj)
  | exact Zy (m:=Builtin.Tuple.tupleExact _) (wpAny_newObj_type (Zy (Z8 (Z8 ⟨_,rfl,Z8 h⟩))) Jj)
  | exact Zy (Zy (m:=Builtin.Tuple.tupleExact _) (wpAny_newObj_type (Z8 (Z8 ⟨_,rfl,Z8 h⟩)) Jj))
  | exact Zy (Zy (m:=Builtin.Tuple.tupleExact _) (wpAny_newObj_type (Z8 ⟨_,rfl,Z8 h⟩) Jj))
end
theorem La(us:ZK):slicePick us.toArray none none (some (-1))=us.reverse.toArray:=by
 have p:=S0 us.toArray
 have b:sliceBounds none none (some (-1)) us.toArray.size=((us.toArray.size:Int) - 1, -1, -1):=by
  simp[sliceBounds]
 unfold slicePick;rw[b]
 congr 1
 have r:sliceRange ((us.toArray.size:Int) - 1) (-1) (-1)=(List.range us.toArray.size).map fun(m:Nat)=>(((us.toArray.size:Int) - 1)+(m:Int) * (-1)).toNat:=by
  unfold sliceRange;rw[if_neg (by decide)];by_cases h:us.toArray.size=0
  .rw[h];decide
  .rw[if_pos (by omega)];have e:(((us.toArray.size:Int) - 1 - -1 - -1 - 1) / - -1).toNat=us.toArray.size:=by rw[show (- -1:Int)=1 from rfl,Int.ediv_one];omega
   show (List.range (((us.toArray.size:Int) - 1 - -1 - -1 - 1) / - -1).toNat).map _=_;rw[e];refine List.map_congr_left fun m _=>?_
   congr 1;omega
 show (sliceRange ((us.toArray.size:Int) - 1) (-1) (-1)).filterMap _=_;rw[r,List.filterMap_map];exact p
end HT
namespace PV
open PySem PySem.Spec PyProof.Rows L2
theorem He{l V:Type}{R:l->V->Prop}:∀{as:List l} {bs:List V},Paired R as bs->Paired R as.reverse bs.reverse
 | _,_,.nil=>.nil
 | _,_,.cons r t=>by rw[List.reverse_cons,List.reverse_cons];exact Gn (He t) (.cons r .nil)
section
variable{X:Cx}{w:W}{es:E}
theorem p5{x:Expr}{xs:ZM}(hv:Xk x=some xs)(hs:Hs X w true es xs):SE w (.pr .tup1 es) X x:=fun F p V s Q I h=>by
 obtain⟨a,j,pos,rfl,rfl⟩:=vf hv;refine wpAny_Tuple_spliced (Vh hs.star ?_);refine(show Tx X [a] _ s from go1 hs I h fun F1 p1 t u s1 r l I1 se e q=>?_);have e:(if B5 t=true then none else some (Sl.f (.tup [t])))=some r:=e
 split at e
 .cases e
 rename_i hc
 cases e;exact⟨by show 1<=sizeLine;decide,(I1.ep (tk:=s1.toks) (.tup I1.fh (.cons (Gd (by simpa using hc) se) .nil) (by show 1<=sizeLine;decide)) q).le l⟩
theorem uh{F F1:OM}{p1:P}{V:Vs}{s1:Shared}{Q:Sl->P->Prop}{t:T}{v:Value}{r:Sl}{a:Expr}{j tk:Nat}{t0:Tok}{q1 q2 q3:Pos}(l:Le F F1)(I:Inv X F1 p1 V s1)(se:V6 X.toMd F1 s1.heap t v)(e:pRev [t]=some r)(q:Q r p1) :
  WP X (subscriptTail a (.Slice none none (some (.UnaryOp .USub (.Constant (.int 1) j q1) q2)) q3) v (.ref s1.heap.objs.size)) (EP X F V Q) { s1 with heap:=s1.heap.push { cls:=.type "slice",data:=.fields #[.none,.none,.int (-1) t0] },toks:=tk }:=by
 have I4:Inv X F1 p1 V { s1 with heap:=s1.heap.push { cls:=.type "slice",data:=.fields #[.none,.none,.int (-1) t0] },toks:=tk }:=I.kept (t:=tk) fun b ob q=>Vn _ q
 have se4:V6 X.toMd F1 (s1.heap.push { cls:=.type "slice",data:=.fields #[.none,.none,.int (-1) t0] }) t v:=by
  unfold V6 at *;cases hc:B5 t with
  | true =>
   rw[hc]at se;obtain⟨a,o,rfl,_⟩:=se.at hc;exact se.to (D':=(s1.heap.push _).get?) hc fun o e=>Vn _ e
  | false=>rw[hc]at se;exact se
 cases t<;>first | (cases e;done) | skip
 .rename_i ts
  cases e;obtain⟨p,us,rfl,hz,tp,ar⟩:=V3 I4.fh se4;refine tail_any (ops:=[.ref p,.ref s1.heap.objs.size]) tp.typeIs slot_tuple_getitem.lookup (HT.Bm tp (Heap.IsSliceOf.new ..) (by rw[Ul];exact hz) ?_) (by with_unfolding_all rfl);exact I4.ok' l q _ _ _ (.tup I4.fh (He ar) (by rw[List.length_reverse];exact hz))
 .rename_i ts
  cases e;obtain⟨p,us,m,rfl,hz,ho,ar⟩:=U3 (s:={ s1 with heap:=s1.heap.push { cls:=.type "slice",data:=.fields #[.none,.none,.int (-1) t0] },toks:=tk }) se4;have hl:Heap.IsList (s1.heap.push { cls:=.type "slice",data:=.fields #[.none,.none,.int (-1) t0] }) p us.toArray:=⟨_,ho,rfl,⟨m,rfl⟩⟩;refine tail_any (ops:=[.ref p,.ref s1.heap.objs.size]) hl.typeIs slot_list_getitem.lookup (wpAny_getItem_list_slice hl (Heap.IsSliceOf.new ..) .none .none (.int (-1) t0) (by decide) ?_ (by rw[Ul];exact hz)) (by with_unfolding_all rfl);rw[HT.La];exact I4.ok' l q _ _ _ (.lst (He ar) (by rw[List.length_reverse];exact hz))
theorem se_rev{x:Expr}{xs:ZM}(hv:ra x=some xs)(hs:Hs X w true es xs):SE w (.pr .rev es) X x:=fun F p V s Q I h=>by
 obtain⟨a,j,p1,p2,p3,p4,rfl,rfl⟩:=rh hv;refine Subscript_ (go1 hs I h fun F1 q1 t v s1 r l I1 se e q=>wpAny_Slice ?_);rw[evalPart_none];refine Z8 (Z8 ?_);rw[evalPart_some];exact UnaryOp_ (wpAny_Constant_int (neg_int (uh l (I1.tok _) se e q)))
end
end PV
namespace HT
open PySem PySem.Spec PyProof.Rows
section
variable{prog:Program}{w:World}{A:Around}{E:ZQ}{s:Shared}
theorem B8{sl:Addr}{u:Tok}{Q:Int×Int×Nat->Shared->Prop}(hs:s.heap.IsSliceOf sl .none .none (.int 2 u))
  (h:Q (0,2,2) s):wpAny (model prog w) A (Builtin.Slice.sliceApplied (.ref sl) (pure (3:Int))) Q E s:=by
 obtain⟨os,Pp,l6,A1⟩:=id hs;unfold Builtin.Slice.sliceApplied Builtin.Slice.sliceFields;refine Zy (Zy (wpAny_field Pp A1 (x:=.none) rfl (Zy (wpAny_field Pp A1 (x:=.none) rfl (Zy (wpAny_field Pp A1 (x:=.int 2 u) rfl (Z8 ?_)))))));refine Zy (slicePart_int ?_);show wpAny _ _ (if ((2:Int) == 0)=true then _ else _) _ _ s;rw[if_neg (by decide)];refine Zy (slicePart_none (Zy (slicePart_none (Zy (Z8 ?_)))));exact Z8 h
theorem Bb{t sl:Addr}{x y z:Value}{u:Tok}{Q:ZQ}(ht:IsTup s.heap t #[x,y,z])(hs:s.heap.IsSliceOf sl .none .none (.int 2 u))
  (h:Q (.ref s.heap.objs.size) { s with heap:=s.heap.push { cls:=.type "tuple",data:=.seq #[x,z] } }):wpAny (model prog w) A (getItem (.ref t) (.ref sl)) Q E s:=by
 obtain⟨os,Pp,l6,A1⟩:=id hs;have hTs:s.TypeIs (.ref sl) "slice" := ⟨os,Pp,l6⟩
 have Jj:sizeOk (.seq #[x,z]):=by
  show 2<=sizeLine;have:=sizeLine_eq;omega
 unfold getItem
 try with_reducible refine wpAny_holding ?_
 first | refine Zy (Z8 ?_) | skip
 refine Zy (wpAny_sequenceKey ht.typeIs (by decide) ?_)
 refine Zy (wpAny_callSpecial?_slot (name:=Str.ofString "__getitem__") ht.typeIs slot_tuple_getitem
  (wpAny_call_entry slot_tuple_getitem ht.typeIs entry_tuple_getitem ?_ (args_tuple_getitem _ _)))
 show wpAny _ _ (Builtin.Tuple.tupleItemsOf (.ref t) >>= _) _ _ s;refine Zy (tupleItemsOf_ ht ?_);refine Zy (wpAny_typeOf hTs ?_);rw[if_pos (by decide)];refine Zy (B8 hs ?_);show wpAny _ _ (if ((0:Int) == 0 && (2:Int) == 1 && (2:Nat) == 3)=true then _ else _) _ _ s;rw[if_neg (by decide)]
 first
  | exact Zy (m:=Builtin.Tuple.tupleExact _) (wpAny_newObj_type (Z8 ⟨_,rfl,Z8 h⟩) Jj)
  | exact Zy (m:=Builtin.Tuple.tupleExact _) (wpAny_newObj_type (Zy (Z8 (Z8 ⟨_,rfl,Z8 h⟩))) Jj)
  | exact Zy (Zy (m:=Builtin.Tuple.tupleExact _) (wpAny_newObj_type (Z8 (Z8 ⟨_,rfl,Z8 h⟩)) Jj))
  | exact Zy (Zy (m:=Builtin.Tuple.tupleExact _) (wpAny_newObj_type (Z8 ⟨_,rfl,Z8 h⟩) Jj))
end
end HT
namespace PV
open PySem PySem.Spec PyProof.Rows L2
section
variable{X:Cx}{w:W}{k:Nat}{N:ZG}{sc:ZW}{es:E}
theorem ux{z:Str}{x:Expr}{xs:ZM}(hv:Xm z x=some xs)(hs:Hs X w true es xs):SE w (.pr (.join z) es) X x:=fun F p V s Q I h=>by
 obtain⟨j,p0,ap,a,cp,rfl,hl,rfl⟩:=vc hv;have st:=hs.star;refine wpAny_Call_method_late (Dq rfl _ _ _) (Nr st (by show 1<30;decide)) hl rfl (wpAny_Constant_str ⟨"str","str.join",PySem.F.plainAttrs_str,PySem.F.slot_str_join,PySem.F.type_str_join,rfl,(fun a e=>by cases e), ?_⟩)
 have main:WP X (spliced (backTo cp (starEach [a] X.env))) (fun us s2=>WP X (call (.builtin "str.join") (.str z s.toks::us)) (EP X F V Q) s2) { s with toks:=s.toks+1 }:=Vh st (show Tx X [a] _ _ from go1 hs (I.tok _) h fun F1 p1 t u s1 r l I1 se e q=>by
  cases t<;>first | (cases e;done) | skip
  rename_i ts
  obtain⟨ss,e1,e2⟩:=ZP.mp (show (M7 ts).bind _=some r from e)
  split at e2
  rotate_left
  .cases e2
  rename_i hz
  cases e2;obtain⟨b,us,m,rfl,z1,ho,ar⟩:=U3 se;refine join_list ⟨_,ho,rfl,⟨m,rfl⟩⟩ (T8 ar e1).2 hz fun t' k=>?_;exact I1.ok' l q _ _ _ (.sc .str))
 rw[Yd (st _ Yb)]at main ⊢;exact Calls.callWith_builtin rfl (Calls.evalArgs_plain main)
theorem zw{g:Md}{F:OM}:∀{XY:ZX} {vs:List (Key×Value)},Yo g F XY vs->Zo g F (XY.map (·.2)) (vs.map (·.2))
 | _,_,.nil=>.nil
 | _,_,.cons h t=>.cons h.2 (zw t)
theorem vg{g:Md}{F:OM}{XY:ZX}{vs:List (Key×Value)}{us:ZK}(rk:Yo g F XY vs)(l:us.length=vs.length)(h:∀(j:Nat) (v:Value),us[j]?=some v->∃k,vs[j]?=some (k,v)):Zo g F (XY.map (·.2)) us:=by
 have e:us=vs.map (·.2):=by
  refine List.ext_getElem? fun i=>?_;rw[lg];cases e:us[i]? with
  | none=>rw[List.getElem?_eq_none (by have:=List.getElem?_eq_none_iff.mp e;omega)];rfl
  | some v=>obtain⟨k,e'⟩:=h i v e;rw[e'];rfl
 rw[e];exact zw rk
theorem yr(c:Ct X w k N sc)(hc:X.calm=true){x:Expr}{xs:ZM}(hv:Qb sc x=some xs)(hs:Hs X w true es xs):SE w (.pr .lvals es) X x:=fun F p V s Q I h=>by
 obtain⟨q0,o,ap,cp,pos,rfl,g1,hn,hl,rfl⟩:=x5 hv;obtain⟨gg,gd⟩:=c.gl' g1;refine wpAny_Call_Name_kw (Tc I gg (c.bn.b _ (by decide +kernel)) (by decide +kernel:bootBuiltins "list" = some (.type "list")) gd (by decide) ?_);refine callWith_type1 ?_ rfl rfl;show WP X (spliced ((false,eval (.Call (.Attribute o "values" ap) [] [] cp) X.env)::[])) _ s;refine Calls.spliced_cons ?_;refine wpAny_Call_method0_late (sup_of hn _ _ _) hl (go1 hs I h fun F1 p1 t v s1 r l I1 se e q=>?_);cases t<;>first | (cases e;done) | skip
 rename_i XY
 cases e;obtain⟨d,vs,rfl,z,ns,dd,rk⟩:=Bp se;obtain⟨ep,da⟩:=dd.dictAt;have dd0:=dd;obtain⟨ob,_,_,h1,h2,_⟩:=dd0;refine⟨"dict","dict.values",PySem.F.plainAttrs_dict,PySem.F.slot_dict_values,PySem.F.type_dict_values,dd.typeIs,fun a e=>by cases e;exact⟨ob,h1,h2.2.1⟩,Calls.callWith_builtin rfl (PySem.evalArgs_none ?_)⟩;refine call_meetsIn PySem.F.slot_dict_values dd.typeIs PySem.F.entry_dict_values (PySem.F.args_dict_values_1 _) (meets_dict_values (Zp X.prog X.w) d ns) ⟨⟨vs,dd⟩, ?_⟩;refine Calls.spliced_nil ?_;have k0:∀b ob,s1.heap.get? b=some ob->(s1.heap.push { cls:=.type "dict_values",data:=.fields #[.ref d] }).get? b=some ob:=fun b ob e=>Vn _ e;refine PySem.W.kdl_call (s:={ s1 with heap:=s1.heap.push { cls:=.type "dict_values",data:=.fields #[.ref d] } }) (@PySem.W.kdl_values X.prog X.w _ _ (Zp X.prog X.w) d s1.heap.objs.size vs ep) (I1.ok.hd hc) ⟨⟨_,Mw _ rfl,rfl,rfl⟩,da.push _⟩ z fun h' tk acc c' k1 Cp A2=>?_;have r:Zo X.toMd F1 (XY.map (·.2)) acc.toList:=vg rk (by rw[x3];exact A2.1) fun j v e=>A2.2 j v (by rw[<-Array.getElem?_toList];exact e);have k2:∀b o,s1.heap.get? b=some o->h'.get? b=some o:=fun b o e=>k1 b o (k0 b o e);exact I1.ok' l q h' _ tk (.own (fun b o _=>k2 b o) (fun _ hn=>hn.keeps k2) rfl (Heap.get?_none_of_le (by show s1.heap.objs.size<=(s1.heap.push _).objs.size;rw[Heap.size_push];omega)) (Pj (n:=c') Cp r (by rw[A2.1];exact z)))
theorem se_sl2{x:Expr}{xs:ZM}(hv:rl x=some xs)(hs:Hs X w true es xs):SE w (.pr .sl2 es) X x:=fun F p V s Q I h=>by
 obtain⟨a,j,p1,p3,p4,rfl,rfl⟩:=rd hv;refine Subscript_ (go1 hs I h fun F1 q1 t v s1 r l I1 se e q=>wpAny_Slice ?_);rw[evalPart_none];refine Z8 (Z8 ?_);rw[evalPart_some];refine wpAny_Constant_int ?_;obtain⟨y,e4,rfl⟩:=Y7.mp (show (thr t).map (fun q=>Sl.f (.tup [q.1,q.2.2]))=some r from e);cases thr_is e4;generalize s1.toks=t0;have I4:Inv X F1 q1 V { s1 with heap:=s1.heap.push { cls:=.type "slice",data:=.fields #[.none,.none,.int 2 t0] },toks:=t0+1 }:=I1.kept (t:=t0+1) fun b ob q=>Vn _ q;obtain⟨b,us,rfl,hz,tp,ar⟩:=V3 I4.fh (Gd rfl se);cases ar with | cons i1 ar =>
 cases ar with | cons i2 ar =>
 cases ar with | cons i3 ar =>
 cases ar;show WP X (subscriptTail a (.Slice none none (some (.Constant (.int 2) j p1)) p3) (.ref b) (.ref s1.heap.objs.size)) (EP X F V Q) { s1 with heap:=s1.heap.push { cls:=.type "slice",data:=.fields #[.none,.none,.int 2 t0] },toks:=t0+1 };refine tail_any (ops:=[.ref b,.ref s1.heap.objs.size]) tp.typeIs slot_tuple_getitem.lookup (HT.Bb tp (Heap.IsSliceOf.new ..) ?_) (by with_unfolding_all rfl);exact I4.ok' l q _ _ _ (.tup (us:=[_,_]) I4.fh (.cons i1 (.cons i3 .nil)) (by show 2<=sizeLine;decide))
theorem ot{a b:Key}{x y:Value}(h:a≠b):merged [] [(a,x),(b,y)]=[(a,x),(b,y)]:=by
 unfold merged;simp[stored,h]
theorem go4{q:Pr}{x y z o:Expr}{F:OM}{p:P}{V:Vs}{s:Shared}{Q:Sl->P->Prop}(hs:Hs X w true es [x,y,z,o])(I:Inv X F p V s)(h:wE w (.pr q es) p Q){f:Value->Value->Value->Value->Shared->Prop}(kk:∀F' p' t t' t2 t3 u v u2 u3 s' r,Le F F'->Inv X F' p' V s'->V6 X.toMd F' s'.heap t u->V6 X.toMd F' s'.heap t' v->V6 X.toMd F' s'.heap t2 u2->V6 X.toMd F' s'.heap t3 u3->Ww q [t,t',t2,t3]=some r->Q r p'->f u v u2 u3 s'):WP X (eval x X.env) (fun u s1=>WP X (eval y X.env) (fun v s2=>WP X (eval z X.env) (fun u2 s3=>WP X (eval o X.env) (fun u3 s4=>f u v u2 u3 s4) s3) s2) s1) s :=
 show Tx X [x,y,z,o] (fun us s'=>match us with | [u,v,u2,u3]=>f u v u2 u3 s' | _=>True) s from Sa hs I h fun F' p' ts us s' r l I' se e q=>by
  cases se with
  | nil=>exact trivial
  | cons s1 se=>cases se with
   | nil=>exact trivial
   | cons s2 se=>cases se with
    | nil=>exact trivial
    | cons s3 se=>cases se with
     | nil=>exact trivial
     | cons s4 se=>cases se with
      | nil=>exact kk F' p' _ _ _ _ _ _ _ _ s' r l I' s1 s2 s3 s4 e q
      | cons _ _=>exact trivial
theorem uy(c:Ct X w k N sc)(hc:X.calm=true){x:Expr}{xs:ZM}(hv:Xn x=some xs)(hsA:∀fp h,Ct (X.pin fp h) w k N sc->Hs (X.pin fp h) w true es xs):SE w (.pr .dct2 es) X x:=fun F p V s Q I h=>by
 obtain⟨k0,v0,k1,v1,pp,rfl,rfl⟩:=vp hv;have nD:s.heap.get? s.heap.objs.size=none:=Heap.get?_none_of_le (N4 _);have big:=(I.rn c hc).big;have dd:(s.heap.push { cls:=.type "dict",data:=.dict #[] }).DictOf (Zp X.prog X.w) s.heap.objs.size []:=Heap.DictOf.new s.heap;have I1:Inv X F p V { s with heap:=s.heap.push { cls:=.type "dict",data:=.dict #[] } }:=I.kept (t:=s.toks) fun _ _ e=>Vn _ e;generalize hD:s.heap.objs.size=D at *;have f1:∀b∈[D],Fp X F p V b:=fun b m=>by cases Dl.mp m;exact I.isFp nD
 have eD:(s.heap.push { cls:=.type "dict",data:=.dict #[] }).get? D=some { cls:=.type "dict",data:=.dict #[] }:=by rw[<-hD];exact Mw _ rfl
 have ho:∀b∈[D],∃o,(s.heap.push { cls:=.type "dict",data:=.dict #[] }).get? b=some o:=fun b m=>by cases Dl.mp m;exact⟨_,eD⟩
 have nk:∀b∈[D],¬ X.kp b:=fun b m=>(f1 b m).k;have I2:=I1.pin f1 ho;have cp:=c.pin I.ok nk ho;refine wpAny_Dict_walk (knd:=Zp X.prog X.w) rfl rfl (fun z=>nomatch z) (by show 2<=15;decide) (pairTrees_cons_walk ?_);refine Vz (go4 (X:=X.pin [D] (s.heap.push { cls:=.type "dict",data:=.dict #[] })) (hsA _ _ cp) I2 h (fun F1 p1 t1 t t2 u u0 v u2 v2 s1 r l J1 z1 z2 z3 z4 e q=>?_)) fun kv s1 q1=>Vz q1 fun vv s2 q2=>pairTrees_cons_walk q2;refine pairTrees_nil_walk ?_;obtain⟨I3,f3,k3⟩:=J1.unpin I.ok nk ho;cases t1 with
 | str a =>
  cases t2 with
  | str b =>
   have e:(if a=b\/B5 t=true\/B5 u=true then none else some (Sl.o (.dct [(.inr a,t),(.inr b,u)])))=some r:=e
   split at e
   .cases e
   rename_i hct
   cases e;have ne:a≠b:=fun z=>hct (.inl z);have c1:B5 t=false:=by cases z:B5 t with | false=>rfl | true=>exact absurd (.inr (.inl z)) hct
   have c2:B5 u=false:=by cases z:B5 u with | false=>rfl | true=>exact absurd (.inr (.inr z)) hct
   have e3:=k3 D (Dl.mpr rfl) _ eD;refine⟨[(.inr a,v),(.inr b,v2)],⟨key_is (k:=.inr a) rfl z1,rfl,key_is (k:=.inr b) rfl z3,rfl,trivial⟩,by rw[hD];exact⟨_,_,_,e3,⟨rfl,rfl,rfl⟩,rfl,fun e he=>absurd he (by simp),.nil,List.nodup_nil⟩,fun h' dd' hs=>?_⟩;rw[hD]at dd' hs ⊢;rw[ot (fun z=>ne (Sum.inr.inj z))]at dd';obtain⟨o,R0,ep,g1,g2,g3,g4,g5,g6⟩:=dd';have it:IsT X.toMd F1 t v:=Gd c1 z2;have iu:IsT X.toMd F1 u v2:=Gd c2 z4;have fD:=f3 D (Dl.mpr rfl);have I4:=I3.turned (fp:=[D]) (h':=h') (tk:=s1.toks+2) f3 (fun b o n e=>(hs.2 b (by simpa using n)).trans e);exact⟨F1,p1,.o (.dct [(.inr a,t),(.inr b,u)]),l,I4,⟨D,rfl,⟨rfl,fD.n,fD.k,.mkD g1 ⟨g2,⟨R0,ep,g3,g4,g5⟩,g6,by show 2<=sizeLine;decide,B0n.mpr (Ne.symm (Fb big))⟩ (.cons ⟨rfl,it⟩ (.cons ⟨rfl,iu⟩ .nil))⟩,fD.o⟩,q⟩
  | _=>cases e
 | _=>cases e
end
section
variable{X:Cx}{w:W}{k:Nat}{N:ZG}{sc:ZW}{es:E}{a:E}{x:Expr}
def mtI:Mt->String
 | .append => "list.append"
 | .extend => "list.extend"
 | .pop => "list.pop"
 | .popAt => "list.pop"
 | .insert => "list.insert"
noncomputable def metN:Mt->Str
 | .append => "append"
 | .extend => "extend"
 | .pop => "pop"
 | .popAt => "pop"
 | .insert => "insert"
def metA:Mt->Nat
 | .pop=>0
 | .insert=>2
 | _=>1
def isApp:Mt->Bool
 | .insert=>false
 | _=>true
theorem Iz{V:Type}(l:List V):l.eraseIdx (l.length - 1)=l.dropLast:=by
 rw[List.dropLast_eq_take,List.eraseIdx_eq_take_drop_succ];rw[List.drop_eq_nil_of_le (by omega),ZE]
theorem notLongL{n:Nat}(h:n<=sizeLine):Builtin.List.listTooLong n=false:=by
 unfold Builtin.List.listTooLong;have:=sizeLine_eq;exact Mr (by omega)
theorem pe{i:Int}{n:Nat}(h0:0<=i)(h1:i<n):seqIndex? i n=some i.toNat:=by
 obtain⟨j,rfl⟩:=Int.eq_ofNat_of_zero_le h0;obtain⟨k,e,q,_⟩:=R4 (xs:=List.range n) (i:=(j:Int)) (v:=j) (Zzu (by rw[List.getElem?_range (by omega)]));rw[XZ]at e
 have hk:k=j:=by
  rw[List.getElem?_range (by have:=(wt.mp q).1;simpa using this)]at q;exact Nf q
 rw[e,hk];rfl
theorem So{l V:Type}{R:l->V->Prop}:∀{as:List l} {bs:List V} (n:Nat),Paired R as bs->Paired R (as.eraseIdx n) (bs.eraseIdx n)
 | _,_,_,.nil=>.nil
 | _,_,0,.cons _ t=>t
 | _,_,n+1,.cons h t=>.cons h (So n t)
theorem Cw{l V:Type}{R:l->V->Prop}:∀{as:List l} {bs:List V},Paired R as bs->Paired R as.dropLast bs.dropLast
 | _,_,.nil=>.nil
 | _,_,.cons _ .nil=>.nil
 | _,_,.cons h (.cons h2 t)=>.cons h (Cw (.cons h2 t))
theorem om{g:Md}{F:OM}{A:Around}{E:ZQ}{Q:ZQ}{s:Shared}{m:Mt}{b:Addr}{n:Nat}{us vs:ZK}{ts args:ZZ}{r:T×T}(fF:FH F s.heap)(e4:s.heap.get? b=some { cls:=.type "list",data:=.seq us.toArray n })(z:us.length<=sizeLine)(ar:Zo g F ts us)(at':Zo g F args vs)(e:mtT m (.lst ts) args=some r)
  (k:∀h' us' Bz v m',r.1=.lst Bz->(∀b',b'≠b->h'.get? b'=s.heap.get? b')->h'.get? b=some { cls:=.type "list",data:=.seq us'.toArray m' }->us'.length<=sizeLine->Zo g F Bz us'->IsT g F r.2 v->Q v { s with heap:=h' }):wpAny (model g.prog g.w) A (call (.builtin (mtI m)) (.ref b::vs)) Q E s:=by
 have fin:∀{f:ZD->ZD} {us':ZK} {Bz:ZZ} {v:Value},r.1=.lst Bz->f us.toArray=us'.toArray->us'.length<=sizeLine->Zo g F Bz us'->IsT g F r.2 v->Q v { s with heap:=s.heap.update b (Obj.mapSeq f) }:=fun {f us' Bz v} q1 q2 q3 q4 q5=>by
  obtain⟨m',em⟩:∃m',Obj.mapSeq f { cls:=.type "list",data:=.seq us.toArray n }={ cls:=.type "list",data:=.seq us'.toArray m' }:=⟨_,by rw[<-q2];rfl⟩;exact k _ us' Bz v m' q1 (fun b' nb=>Heap.get?_update_other _ _ (Ne.symm nb)) ((Heap.get?_update_self _ e4 (by rfl)).trans (congrArg some em)) q3 q4 q5
 cases m with
 | append =>
  cases at' with
  | nil=>cases e
  | @cons _ u _ _ it t=>cases t with
  | cons _ _=>cases e
  | nil =>
  obtain⟨hz,e⟩:=Option.ite_none_right_eq_some.mp (show (if ts.length<sizeLine then some (T.lst (ts++[_]),T.non) else none)=some r from e);cases e;refine call_meets PySem.F.slot_list_append ⟨_,e4,rfl⟩ PySem.F.entry_list_append (PySem.F.args_list_append_2 _ _) (PySem.list_append b us.toArray n u (by rw[Ul, <-ar.length];omega)) ⟨e4, ?_⟩;exact fin (us':=us++[u]) rfl (by simp) (by rw[Nb, <-ar.length];exact hz) (Gn ar (.cons it .nil)) .non
 | extend =>
  cases at' with
  | nil=>cases e
  | @cons a _ _ _ it t=>cases t with
  | cons _ _=>cases a<;>cases e
  | nil=>cases a with
  | lst ws =>
  obtain⟨hz,e⟩:=Option.ite_none_right_eq_some.mp (show (if ts.length+ws.length<=sizeLine then some (T.lst (ts++ws),T.non) else none)=some r from e);cases e;obtain⟨b2,Gf,n2,rfl,z2,N7,ar2⟩:=U3 (.of fF it);have hsz:us.toArray.size+Gf.toArray.size<=sizeLine:=by rw[Ul,Ul, <-ar.length, <-ar2.length];exact hz
  have hlong:¬ (!us.toArray.isEmpty && Builtin.List.listTooLong (us.toArray.size+Gf.toArray.size))=true:=by
   rw[notLongL hsz,Bool.and_false];exact Qv
  have sz:=sizeLine_eq
  refine call_meets PySem.F.slot_list_extend ⟨_,e4,rfl⟩ PySem.F.entry_list_extend (PySem.F.args_list_extend_2 _ _)
   (AutoSeq1.list_extend_list_list_0 b us.toArray n b2 Gf.toArray n2 hlong (by rw[Ul];omega) (by omega)) ⟨e4,N7, ?_⟩
  exact fin (us':=us++Gf) rfl (by simp) (by rw[Nb, <-ar.length, <-ar2.length];exact hz) (Gn ar ar2) .non
  | _=>cases e
 | pop =>
  cases at' with
  | cons _ _=>cases e
  | nil =>
  obtain⟨x,e1,rfl⟩:=Y7.mp (show (ts.getLast?).map (fun x=>(T.lst ts.dropLast,x))=some r from e)
  have l0:ts.length≠0:=fun z=>by
   rw[List.eq_nil_of_length_eq_zero z]at e1;cases e1
  have lu:=ar.length;rw[List.getLast?_eq_getElem?,Lh (by omega)]at e1;have ix:=Wj .none ar (ts.length - 1) (by omega);rw[Nf e1]at ix;rw[List.getD_eq_getElem?_getD,Lh (by omega)]at ix
  have hy':us.toArray[us.toArray.size - 1]?=some (us[ts.length - 1]'(by omega)):=by
   rw[show us.toArray.size - 1=ts.length - 1 by rw[Ul, <-lu],List.getElem?_toArray,Lh (by omega)]
  have sz:=sizeLine_eq;refine call_meets PySem.F.slot_list_pop ⟨_,e4,rfl⟩ PySem.F.entry_list_pop (PySem.F.args_list_pop_1 _) (MeetsSeq.list_pop_last b us.toArray n _ hy' (by rw[Ul];omega)) ⟨e4, ?_⟩;exact fin (us':=us.dropLast) rfl (by rw[Ul,List.eraseIdxIfInBounds_toArray,Iz]) (by rw[List.length_dropLast];omega) (Cw ar) ix
 | popAt =>
  cases at' with
  | nil=>cases e
  | @cons a _ _ _ it t=>cases t with
  | cons _ _=>cases a<;>cases e
  | nil=>cases it with
  | @int _ i tk =>
  obtain⟨hi,e⟩:=Option.ite_none_right_eq_some.mp (show (if 0<=i/\i<ts.length then (ts[i.toNat]?).map fun x=>(T.lst (ts.eraseIdx i.toNat),x) else none)=some r from e);obtain⟨x,e1,rfl⟩:=Y7.mp e;have lu:=ar.length;have sz:=sizeLine_eq;rw[Lh (by omega)]at e1;have ix:=Wj .none ar i.toNat (by omega);rw[Nf e1]at ix;rw[List.getD_eq_getElem?_getD,Lh (by omega)]at ix
  refine call_meets PySem.F.slot_list_pop ⟨_,e4,rfl⟩ PySem.F.entry_list_pop (PySem.F.args_list_pop_2 _ _)
   (MeetsSeq.list_pop_at b us.toArray n i tk i.toNat (us[i.toNat]'(by omega)) (fitsIndex_both (by omega) (by omega)) (by rw[Ul];exact pe (by omega) (by omega)) (by rw[List.getElem?_toArray,Lh (by omega)]) (by rw[Ul];omega)) ⟨e4, ?_⟩
  exact fin (us':=us.eraseIdx i.toNat) rfl (by rw[List.eraseIdxIfInBounds_toArray]) (by have:=List.length_eraseIdx_le us i.toNat;omega) (So _ ar) ix
  | _=>cases e
 | insert=>cases e
theorem se_mt{m:Mt}{xs:ZM}{i:Nat}{y:Str}{p0 ap cp:Pos}(hm:isApp m=true)(n:Nm X i y)(hs:Hs X w false es xs)(ni:Uz es=true)(hl:(ap.endLine == cp.line)=true)(hx:xs.length=metA m):SE w (.mt m i es) X (.Call (.Attribute (.Name y p0) (metN m) ap) xs [] cp):=fun F p V s Q I h=>by
 have h:if ownL p i=true then wR w false es p fun as p1=>on (looks p1 as) fun ts=>match p1[i]? with
   | some (.o t)=>on (mtT m t ts) fun r=>Q (.f r.2) (p1.set i (.o r.1))
   | _=>False
  else False:=h
 split at h
 rotate_left
 .exact h.elim
 rename_i ho
 obtain⟨b,hb,us0,m0,ho0⟩:∃b:Addr,V[i]?=some (some (.ref b))/\∃us m,s.heap.get? b=some { cls:=.type "list",data:=.seq us m }:=by
  unfold ownL at ho
  split at ho
  .rename_i l q
   obtain⟨b,h1,w1⟩:=I.r.ow i _ q;obtain⟨_,o,us,e,e2,⟨_,m,rfl⟩,_⟩:=w1.t.unL;cases e;exact⟨b,h1,_,m,e2⟩
  .cases ho
 have st:=hs.star
 have main:WP X (spliced (backTo cp (starEach xs X.env))) (fun us s2=>WP X (call (.builtin (mtI m)) (.ref b::us)) (EP X F V Q) s2) s:=Vh st (evs hs I h fun F1 p1 as us s1 l I1 ar nt q=>by
  obtain⟨ts,e,q⟩:=Z9 q
  split at q
  rotate_left
  .exact q.elim
  rename_i t et
  obtain⟨r,e2,q9⟩:=Z9 q;have at':=B2 (nt rfl ni) ar e;obtain⟨b',h1,w1⟩:=I1.r.ow i _ et;rw[hb]at h1;cases h1
  obtain⟨us,rfl⟩:∃us,t=.lst us:=by
   cases m<;>(cases t<;>first | exact⟨_,rfl⟩ | (cases hm;done) | (cases ts<;>cases e2))
  obtain⟨_,o,vs,e3,e4,⟨z,m',rfl⟩,r'⟩:=w1.t.unL;cases e3;refine om I1.fh e4 z r' at' e2 fun h' us' Bz v m' q1 kp e5 q3 q4 q5=>?_;rw[q1]at q9;exact⟨F1,_,.f r.2,l,I1.mut (tk:=s1.toks) et hb (fun b o ne e=>(kp b ne).trans e) rfl (.mkL e5 ⟨q3,m',rfl⟩ q4),q5,q9⟩)
 cases m with
 | insert=>cases hm
 | append =>
  obtain⟨x,rfl⟩:=List.length_eq_one_iff.mp hx;refine wpAny_Call_method_late (Dq rfl _ _ _) (Nr st (by show 1<30;decide)) hl rfl (Dv n I hb ⟨"list","list.append",PySem.F.plainAttrs_list,PySem.F.slot_list_append,PySem.F.type_list_append,⟨_,ho0,rfl⟩,fun a e=>by cases e;exact⟨_,ho0,rfl⟩, ?_⟩);rw[Yd (st _ Yb)]at main ⊢;exact Calls.callWith_builtin rfl (Calls.evalArgs_plain main)
 | extend =>
  obtain⟨x,rfl⟩:=List.length_eq_one_iff.mp hx;refine wpAny_Call_method_late (Dq rfl _ _ _) (Nr st (by show 1<30;decide)) hl rfl (Dv n I hb ⟨"list","list.extend",PySem.F.plainAttrs_list,PySem.F.slot_list_extend,PySem.F.type_list_extend,⟨_,ho0,rfl⟩,fun a e=>by cases e;exact⟨_,ho0,rfl⟩, ?_⟩);rw[Yd (st _ Yb)]at main ⊢;exact Calls.callWith_builtin rfl (Calls.evalArgs_plain main)
 | popAt =>
  obtain⟨x,rfl⟩:=List.length_eq_one_iff.mp hx;refine wpAny_Call_method_late (Dq rfl _ _ _) (Nr st (by show 1<30;decide)) hl rfl (Dv n I hb ⟨"list","list.pop",PySem.F.plainAttrs_list,PySem.F.slot_list_pop,PySem.F.type_list_pop,⟨_,ho0,rfl⟩,fun a e=>by cases e;exact⟨_,ho0,rfl⟩, ?_⟩);rw[Yd (st _ Yb)]at main ⊢;exact Calls.callWith_builtin rfl (Calls.evalArgs_plain main)
 | pop =>
  obtain rfl:=List.eq_nil_of_length_eq_zero hx;refine wpAny_Call_method_late (Dq rfl _ _ _) (Nr st (by show 0<30;decide)) hl rfl (Dv n I hb ⟨"list","list.pop",PySem.F.plainAttrs_list,PySem.F.slot_list_pop,PySem.F.type_list_pop,⟨_,ho0,rfl⟩,fun a e=>by cases e;exact⟨_,ho0,rfl⟩, ?_⟩);exact Calls.callWith_builtin rfl main
theorem S6:∀{ts:ZZ} {i:Nat} (h:i<ts.length),fm ts=true->noC ts[i]=true
 | t::r,0,_,e=>(Hq.mp (show (noC t && fm r)=true from e)).1
 | t::r,i+1,h,e=>S6 (Nat.lt_of_succ_lt_succ h) (Hq.mp (show (noC t && fm r)=true from e)).2
theorem Top.pure{g:Md}{F F' D:OM}{t:T}{v:Value}(hk:∀a o us,F a=some o->Rf o us->F' a=some o)(h:Top g F D t v)(hD:D=F)(n:noC t=true):IsT g F' t v:=by
 induction h with
 | non=>exact .non
 | bl=>exact .bl
 | int=>exact .int
 | str=>exact .str
 | tup h k l e ih=>subst hD;exact .tup (hk _ _ _ h k) k l fun i hi=>ih i hi rfl (S6 hi n)
 | _=>cases n
theorem Yo.pure{g:Md}{F F':OM}{XY:ZX}{vs:List (Key×Value)}(hk:∀a o us,F a=some o->Rf o us->F' a=some o)(n:∀z∈XY,noC z.2=true)(r:Yo g F XY vs):Yo g F' XY vs:=by
 induction r with
 | nil=>exact .nil
 | cons h1 _ ih=>exact .cons ⟨h1.1,Top.pure hk h1.2 rfl (n _ Yb)⟩ (ih fun z m=>n z (Y5 _ m))
open Classical in
noncomputable def C3(F:OM)(p:P)(l:Vs)(h:Heap):OM:=fun a=>if ∃(i:Nat) (t:T),p[i]?=some (Sl.o t)/\l[i]?=some (some (.ref a)) then h.get? a else F a
open Classical in
noncomputable def Nj(F:OM)(p:P)(l:Vs):OM:=fun a=>if ∃(i:Nat) (t:T),p[i]?=some (Sl.o t)/\l[i]?=some (some (.ref a)) then none else F a
theorem Po{p:P}{i:Nat}{s:Sl}(h:(frz p)[i]?=some s):∃s',p[i]?=some s'/\s=frs s':=by
 unfold frz at h;rw[lg]at h;obtain⟨s',e,rfl⟩:=Y7.mp h;exact⟨s',e,rfl⟩
theorem Hr(I:Inv X F p l s):Le F (C3 F p l s.heap)/\Inv X (C3 F p l s.heap) (frz p) l s:=by
 have own:∀{i:Nat} {t:T} {b:Addr},p[i]?=some (Sl.o t)->l[i]?=some (some (.ref b))->Ce X F s.heap b t:=fun {i t b} e e2=>by
  obtain⟨c,h1,w1⟩:=I.r.ow i t e;rw[e2]at h1;cases h1;exact w1
 have fo:∀{i:Nat} {t:T} {b:Addr},p[i]?=some (Sl.o t)->l[i]?=some (some (.ref b))->C3 F p l s.heap b=s.heap.get? b:=fun e e2=>if_pos ⟨_,_,e,e2⟩
 have l1:Le F (C3 F p l s.heap):=fun b o e=>by
  unfold C3
  split
  .exact I.fh b o e
  .exact e
 have I1:Inv X (C3 F p l s.heap) (frz p) l s:=by
  refine I.step rfl I.bare l1 (fun b o e=>?_) (fun _ _ _ _ e=>.same e) (fun _ hn=>hn) ⟨fun i t e=>?_,fun i t e=>?_,fun i j t u b e _ _ _=>?_,by unfold frz;rw[Y9];exact I.r.ln⟩
  .unfold C3 at e
   split at e
   .rename_i z
    obtain⟨i,t,z1,z2⟩:=z;exact⟨e,(own z1 z2).k⟩
   .exact I.f b o e
  .obtain⟨s',e1,e2⟩:=Po e;cases s' with
   | no=>cases e2
   | f u =>
    cases e2;obtain⟨v,h1,h2⟩:=I.r.fz i _ e1;exact⟨v,h1,h2.up l1⟩
   | o u =>
    cases e2;obtain⟨b,h1,w1⟩:=I.r.ow i _ e1;exact⟨_,h1,(w1.t.to (D':=C3 F p l s.heap) w1.c fun o q=>(fo e1 h1).trans q).up l1 fun _ _ e=>e⟩
  .obtain⟨s',e1,e2⟩:=Po e;cases s'<;>cases e2
  .obtain⟨s',e1,e2⟩:=Po e;cases s'<;>cases e2
 exact⟨l1,I1⟩
theorem Qt{F2:OM}{p2:P}{s2:Shared}(I:Inv X F p l s)(l1:Le F (C3 F p l s.heap))(l2:Le (C3 F p l s.heap) F2)(I2:Inv X F2 p2 l s2):Le F (Nj F2 p l)/\Inv X (Nj F2 p l) p l s2:=by
 have own:∀{i:Nat} {t:T} {b:Addr},p[i]?=some (Sl.o t)->l[i]?=some (some (.ref b))->Ce X F s.heap b t:=fun {i t b} e e2=>by
  obtain⟨c,h1,w1⟩:=I.r.ow i t e;rw[e2]at h1;cases h1;exact w1
 have fo:∀{i:Nat} {t:T} {b:Addr},p[i]?=some (Sl.o t)->l[i]?=some (some (.ref b))->C3 F p l s.heap b=s.heap.get? b:=fun e e2=>if_pos ⟨_,_,e,e2⟩;have keep:∀{i:Nat} {t:T} {b:Addr} {o:Obj},p[i]?=some (Sl.o t)->l[i]?=some (some (.ref b))->s.heap.get? b=some o->F2 b=some o:=fun e1 e2 e3=>l2 _ _ ((fo e1 e2).trans e3)
 have l3:Le F (Nj F2 p l):=fun b o e=>by
  unfold Nj
  split
  .rename_i z
   obtain⟨i,t,z1,z2⟩:=z;rw[(own z1 z2).f]at e;cases e
  .exact l2 _ _ (l1 _ _ e)
 have I3:Inv X (Nj F2 p l) p l s2:=by
  refine⟨I2.ok,I2.os,I2.bare,I.le.trans l3,fun b o e=>?_,I2.g,I2.fr,I2.ns,I2.cell,I2.len,⟨fun i t e=>?_,fun i t e=>?_,I.r.ap,I.r.ln⟩,I2.pr⟩
  .unfold Nj at e
   split at e
   .cases e
   .exact I2.f b o e
  .obtain⟨v,h1,h2⟩:=I.r.fz i t e;exact⟨v,h1,h2.up l3⟩
  .obtain⟨b,h1,w1⟩:=I.r.ow i t e;exact⟨b,h1,w1.to l3 (if_pos ⟨i,t,e,h1⟩) fun o q=>I2.fh b o (keep e h1 q)⟩
 exact⟨l3,I3⟩
theorem yn(h:SE w a X x):SE w (.tmp a) X x:=fun F p l s Q I hw=>by
 have hw:wE w a (frz p) fun r _=>on (tmpR r) fun r=>Q r p:=hw
 have own:∀{i:Nat} {t:T} {b:Addr},p[i]?=some (Sl.o t)->l[i]?=some (some (.ref b))->Ce X F s.heap b t:=fun {i t b} e e2=>by
  obtain⟨c,h1,w1⟩:=I.r.ow i t e;rw[e2]at h1;cases h1;exact w1
 have fo:∀{i:Nat} {t:T} {b:Addr},p[i]?=some (Sl.o t)->l[i]?=some (some (.ref b))->C3 F p l s.heap b=s.heap.get? b:=fun e e2=>if_pos ⟨_,_,e,e2⟩;obtain⟨l1,I1⟩:=Hr I;refine Vz (h _ _ l s _ I1 hw) fun v s2 ⟨F2,p2,r,l2,I2,rs,q⟩=>?_;obtain⟨r',e,q⟩:=Z9 q;have keep:∀{i:Nat} {t:T} {b:Addr} {o:Obj},p[i]?=some (Sl.o t)->l[i]?=some (some (.ref b))->s.heap.get? b=some o->F2 b=some o:=fun e1 e2 e3=>l2 _ _ ((fo e1 e2).trans e3);obtain⟨l3,I3⟩:=Qt I l1 l2 I2
 have hk:∀b o us,F2 b=some o->Rf o us->Nj F2 p l b=some o:=fun b o us e k=>by
  unfold Nj
  split
  .rename_i z
   obtain⟨i,t,z1,z2⟩:=z;have w1:=own z1 z2;obtain⟨o',e1⟩:=w1.at;have e2:=keep z1 z2 e1;rw[e]at e2;cases e2;have hc:=w1.c;have ht:=w1.t;cases t with
   | lst ts =>
    obtain⟨_,o',us',q1,q2,⟨_,m,rfl⟩,_⟩:=ht.unL;cases q1;rw[e1]at q2;cases q2;exact absurd k.c (by simp)
   | dct ts =>
    obtain⟨_,o',us',q1,q2,k',_⟩:=ht.unD;cases q1;rw[e1]at q2;cases q2;obtain⟨R0,ep,d,_⟩:=k'.es;obtain⟨m,d'⟩:=k.s;rw[d]at d';cases d'
   | _=>cases hc
  .exact e
 unfold tmpR at e
 split at e
 .split at e
  .rename_i t n
   cases e;exact⟨_,p,.f t,l3,I3,Top.pure hk rs rfl n,q⟩
  .cases e
 .split at e
  .rename_i t XY
   split at e
   .rename_i n
    cases e;obtain⟨b,rfl,w1,nn⟩:=rs;obtain⟨_,o,vs,q1,q2,k',r⟩:=w1.t.unD;cases q1
    have f3:Nj F2 p l b=none:=by
     unfold Nj
     split
     .rfl
     .exact w1.f
    refine⟨_,p,.o (.dct XY),l3,I3,⟨b,rfl,⟨rfl,f3,w1.k,.mkD q2 k' ?_⟩,fun i u e1 e2=>?_⟩,q⟩
    .exact Yo.pure hk (R5.mp n) r
    .obtain⟨o',e3⟩:=(own e1 e2).at;have:=keep e1 e2 e3;rw[w1.f]at this;cases this
   .cases e
  .cases e
 .cases e
theorem se_tmB(h:SE w a X x):SE w (.tmB a) X x:=fun F p l s Q I hw=>by
 have hw:wE w a (frz p) fun r _=>Q5 r fun b=>Q (.f (.bl b)) p:=hw;obtain⟨l1,I1⟩:=Hr I;refine Vz (h _ _ l s _ I1 hw) fun v s2 ⟨F2,p2,r,l2,I2,rs,q⟩=>?_;obtain⟨l3,I3⟩:=Qt I l1 l2 I2;cases r with
 | f t=>cases t with
  | bl b=>cases rs;exact⟨_,p,.f (.bl b),l3,I3,.bl,q⟩
  | _=>exact q.elim
 | o t=>exact q.elim
 | no=>exact q.elim
theorem st_tmB{wh:Sem Value}(h:ST w a X x wh):ST w (.tmB a) X x wh:=fun F p l s Q I hw=>by
 obtain⟨l1,I1⟩:=Hr I;refine Vz (h _ _ l s (fun b _=>Q b p) I1 hw) fun b s2 ⟨F2,p2,l2,I2,q⟩=>?_;obtain⟨l3,I3⟩:=Qt I l1 l2 I2;exact⟨_,p,l3,I3,q⟩
end
noncomputable def K4(x:Expr):Option (ZM):=match C0 x with
 | .lst xs=>some xs
 | _=>none
noncomputable def Ng(op:BoolOp)(z:Expr):Option (Expr×Expr×ZM×Pos):=match C0 z with
 | .boo o (x::y::r) pos=>if o=op then some (x,y,r,pos) else none
 | _=>none
noncomputable def Lf(z:Expr):Option Expr:=match C0 z with
 | .un o x=>if o=.Not then some x else none
 | _=>none
noncomputable def Zz0(z:Expr):Option (Expr×Expr×Expr):=match C0 z with
 | .ife c a b=>some (c,a,b)
 | _=>none
def Ca:Expr->Option (Str×ZM):=x6
noncomputable def xl(z:Expr):Option (Str×Str×ZM):=match C0 z with
 | .callA o m ap xs cp=>(match Dg o with
  | some y=>if (ap.endLine == cp.line)=true then some (y,m,xs) else none
  | none=>none)
 | _=>none
noncomputable def xr(z:Expr):Option (Expr×Expr×Expr×ZM×Scope):=match C0 z with
 | .lc elt [⟨t,iter,ifs,0⟩] scope=>some (elt,t,iter,ifs,scope)
 | _=>none
noncomputable def Zzi(x:Expr):Option (Str×Expr):=match C0 x with
 | .callA o m ap xs cp=>if xs.isEmpty=true/\Gs o=true/\(ap.endLine == cp.line)=true then some (m,o) else none
 | _=>none
noncomputable def plainT:Expr->Bool
 | .UnaryOp .Not _ _=>false
 | .BoolOp _ _ _=>false
 | .IfExp _ _ _ _=>false
 | .Compare _ _ _ _=>false
 | _=>true
def Tg:Expr->Bool
 | .Set _ _ _=>false
 | _=>true
def dh:E->Bool
 | .and _ _=>true
 | _=>false
def Zxr:E->Bool
 | .or _ _=>true
 | _=>false
noncomputable def Cq:E->Expr->Bool
 | .and a b,x=>match Ng .And x with
  | some (x0,y,r,pos)=>Cq a x0 && (if r.isEmpty then Cq b y else Cq b (.BoolOp .And (y::r) pos) && dh b)
  | none=>false
 | .or a b,x=>match Ng .Or x with
  | some (x0,y,r,pos)=>Cq a x0 && (if r.isEmpty then Cq b y else Cq b (.BoolOp .Or (y::r) pos) && Zxr b)
  | none=>false
 | .not a,x=>match Lf x with
  | some y=>Cq a y
  | none=>false
 | .pr (.cm _) _,_=>true
 | .pr (.c2 _ _) _,_=>true
 | .tmB a,x=>Cq a x
 | _,x=>plainT x
def ai:Pr->Bool
 | .tix g=>(Lu g).isSome
 | _=>true
noncomputable def ikN:Ik->Str
 | .rng => "range"
 | .zip => "zip"
noncomputable def ikLk:Ik->Nat->Bool
 | .rng,1=>true
 | .rng,2=>true
 | .zip,2=>true
 | _,_=>false
def ikV:Ik->Bool
 | _=>false
def i9:Ik->Expr->Bool
 | .rng,_=>true
 | _,t=>isTup t
noncomputable def conK:T->Const->Bool
 | .int i,.int j=>i == j
 | .str i,.str j=>i == j
 | .bl i,.bool j=>i == j
 | .non,.none=>true
 | _,_=>false
def cnst:Expr->Option Const
 | .Constant c _ _=>some c
 | _=>none
noncomputable def repK(t:T)(x:Expr):Bool:=match cnst x with
 | some c=>conK t c
 | none=>false
mutual
noncomputable def rep:Bool->ZG->Scope->E->Expr->Bool
 | _,N,sc,.v i,x=>match Dg x with
  | some y=>Gc N sc.names i y
  | none=>false
 | _,N,sc,.mv i,x=>match Dg x with
  | some y=>Gc N sc.names i y
  | none=>false
 | _,_,_,.k t,x=>repK t x
 | _,_,sc,.g g,x=>match Dg x with
  | some y=>g == y && L4 sc.names y
  | none=>false
 | tp,N,sc,.tup es,x=>match Cu x with
  | some xs=>Uz es && Um tp N sc es xs
  | none=>false
 | tp,N,sc,.lst es,x=>match K4 x with
  | some xs=>Uz es && Um tp N sc es xs
  | none=>false
 | tp,N,sc,.pr q es,x=>match view sc.names q x with
  | some xs=>Uz es && quiet q es && ai q && Um tp N sc es xs
  | none=>false
 | tp,N,sc,.and a b,x=>match Ng .And x with
  | some (x0,y,r,pos)=>rep tp N sc a x0 && (if r.isEmpty then rep tp N sc b y else rep tp N sc b (.BoolOp .And (y::r) pos))
  | none=>false
 | tp,N,sc,.or a b,x=>match Ng .Or x with
  | some (x0,y,r,pos)=>rep tp N sc a x0 && (if r.isEmpty then rep tp N sc b y else rep tp N sc b (.BoolOp .Or (y::r) pos))
  | none=>false
 | tp,N,sc,.not a,x=>match Lf x with
  | some y=>rep tp N sc a y
  | none=>false
 | tp,N,sc,.ite c a b,x=>match Zz0 x with
  | some (z,x0,y)=>rep tp N sc c z && Cq c z && rep tp N sc a x0 && rep tp N sc b y
  | none=>false
 | tp,N,sc,.call f es,x=>match Ca x with
  | some (g,xs)=>f == g && W2.contains f && L4 sc.names g && !xs.isEmpty && Um tp N sc es xs
  | none=>false
 | tp,N,sc,.cal i es,x=>match Ca x with
  | some (g,xs)=>Gc N sc.names i g && !xs.isEmpty && Uz es && Um tp N sc es xs
  | none=>false
 | tp,N,sc,.mt m i es,x=>match xl x with
  | some (y,n,xs)=>n == metN m && isApp m && Gc N sc.names i y && Uz es && Um tp N sc es xs && decide (xs.length=metA m)
  | none=>false
 | tp,N,sc,.comp tg it c el fr ns,x=>match xr x with
  | some (elt,t,iter,ifs,scope)=>tp && Su tp N sc t it iter && Li sc scope && Ga N scope.names ns fr && decide ns.Nodup && Ji (fun i=>(fr[i]?).join.isSome) tg && Tg iter && repG ns scope.names tg t
   && (if isNil c then ifs.isEmpty else (match ifs with
    | [z]=>rep false ns scope c z && Cq c z
    | _=>false)) && rep false ns scope el elt
  | none=>false
 | tp,N,sc,.tmp a,x=>rep tp N sc a x
 | tp,N,sc,.tmB a,x=>rep tp N sc a x
 | _,_,_,_,_=>false
noncomputable def Su:Bool->ZG->Scope->Expr->E->Expr->Bool
 | tp,N,sc,t,.itr q es,x=>match Ca x with
  | some (f,xs)=>f == ikN q && !ikV q && L4 sc.names f && i9 q t && ikLk q xs.length && Uz es && Um tp N sc es xs
  | none=>(match Zzi x with
   | some y=>y.1 == ikN q && ikV q && i9 q t && Uz es && Um tp N sc es [y.2]
   | none=>false)
 | tp,N,sc,_,.v i,x=>match Dg x with
  | some y=>Gc N sc.names i y
  | none=>false
 | tp,N,sc,_,.pr q es,x=>match view sc.names q x with
  | some xs=>Uz es && quiet q es && ai q && Um tp N sc es xs
  | none=>false
 | tp,N,sc,_,.call f es,x=>match Ca x with
  | some (g,xs)=>f == g && W2.contains f && L4 sc.names g && !xs.isEmpty && Um tp N sc es xs
  | none=>false
 | tp,N,sc,_,.lst es,x=>match K4 x with
  | some xs=>Uz es && Um tp N sc es xs
  | none=>false
 | tp,N,sc,_,.tup es,x=>match Cu x with
  | some xs=>Uz es && Um tp N sc es xs
  | none=>false
 | _,_,_,_,_,_=>false
noncomputable def Um:Bool->ZG->Scope->E->ZM->Bool
 | _,_,_,.nil,[]=>true
 | tp,N,sc,.cons a r,x::xs=>noStar x && (match a with
  | .io i=>(match Dg x with
   | some y=>Gc N sc.names i y
   | none=>false)
  | _=>rep tp N sc a x) && Um tp N sc r xs
 | _,_,_,_,_=>false
end
theorem Wv{x:Expr}{env:Env}(h:plainT x=true):∀whole,isTrue x env whole=(do let v <-whole;standAt x.pos;holding [v] (truthy v)):=by
 intro wh;cases x<;>first | rfl | cases h | (rename_i op _ _;cases op<;>first | rfl | cases h)
theorem D0{x:Expr}{env:Env}(h:Tg x=true):∀v,foldedSetIterable x env v=pure v:=by
 intro v;cases x<;>first | rfl | cases h
theorem ny{x:Expr}{y:ZM}(h:K4 x=some y):∃pos,x=.List y pos:=by
 unfold K4 at h
 split at h
 .rename_i e;cases h;exact Yj e
 .cases h
theorem nr{op:BoolOp}{x x0 y:Expr}{r:ZM}{pos:Pos}(h:Ng op x=some (x0,y,r,pos)):x=.BoolOp op (x0::y::r) pos:=by
 unfold Ng at h
 split at h
 .rename_i e'
  split at h
  .rename_i e;cases h;rw[<-e];exact Yj e'
  .cases h
 .cases h
theorem K3{x y:Expr}(h:Lf x=some y):∃pos,x=.UnaryOp .Not y pos:=by
 unfold Lf at h
 split at h
 .rename_i e'
  split at h
  .rename_i e;cases h;rw[<-e];exact Yj e'
  .cases h
 .cases h
theorem Zze{x a b c:Expr}(h:Zz0 x=some (c,a,b)):∃pos,x=.IfExp c a b pos:=by
 unfold Zz0 at h
 split at h
 .rename_i e;cases h;exact Yj e
 .cases h
theorem nj{x:Expr}{y m:Str}{xs:ZM}(h:xl x=some (y,m,xs)):∃p ap cp,x=.Call (.Attribute (.Name y p) m ap) xs [] cp/\(ap.endLine == cp.line)=true:=by
 unfold xl at h
 split at h
 .rename_i e
  split at h
  .rename_i e'
   obtain⟨p,rfl⟩:=Ux e'
   split at h
   .rename_i z;cases h;exact⟨p,_,_,Yj e,z⟩
   .cases h
  .cases h
 .cases h
theorem Zzo{x:Expr}{y:Str×Expr}(h:Zzi x=some y):∃ap cp,x=.Call (.Attribute y.2 y.1 ap) [] [] cp/\Gs y.2=true/\(ap.endLine == cp.line)=true:=by
 unfold Zzi at h
 split at h
 .rename_i e
  split at h
  .rename_i z
   cases h;obtain⟨z1,z2,z3⟩:=z;have:=Yj e;cases List.isEmpty_iff.mp z1;exact⟨_,_,this,z2,z3⟩
  .cases h
 .cases h
theorem nc{x elt t iter:Expr}{ifs:ZM}{scope:Scope}(h:xr x=some (elt,t,iter,ifs,scope)):∃pos,x=.ListComp elt [⟨t,iter,ifs,0⟩] scope pos:=by
 unfold xr at h
 split at h
 .rename_i e;cases h;exact Yj e
 .cases h
def Zqz:E->Bool
 | .and _ _=>true
 | .or _ _=>true
 | _=>false
def NE(e:E):Prop:=∀(w:W) (X:Cx) (k:Nat) (N:ZG) (sc:Scope) (tp:Bool) (x:Expr),Ct X w k N sc.names->(tp=true->X.env.scope.names=sc.names)->rep tp N sc e x=true->SE w e X x
def NT(e:E):Prop:=∀(w:W) (X:Cx) (k:Nat) (N:ZG) (sc:Scope) (tp:Bool) (x:Expr) (wh:Sem Value),Ct X w k N sc.names->(tp=true->X.env.scope.names=sc.names)->rep tp N sc e x=true->Cq e x=true->(Zqz e=true\/wh=eval x X.env)->ST w e X x wh
def NR(e:E):Prop:=∀(w:W) (X:Cx) (k:Nat) (N:ZG) (sc:Scope) (tp m:Bool) (xs:ZM),Ct X w k N sc.names->(tp=true->X.env.scope.names=sc.names)->Um tp N sc e xs=true->Hs X w m e xs
def NI(e:E):Prop:=∀(w:W) (X:Cx) (k:Nat) (N:ZG) (sc:Scope) (tp:Bool) (t x:Expr),Ct X w k N sc.names->(tp=true->X.env.scope.names=sc.names)->Su tp N sc t e x=true->SI w e X t x
theorem Yh{e:E}(h:NE e)(ht:∀x,Cq e x=plainT x)(ha:Zqz e=false):NT e:=fun w X k N sc tp x wh c ct hr ht' hw=>by
 rcases hw with z | rfl
 .rw[ha]at z;cases z
 .exact yq (h w X k N sc tp x c ct hr) (Wv (by rw[<-ht x];exact ht'))
theorem za{e:E}(h:∀tp N sc x,rep tp N sc e x=false):NE e:=fun w X k N sc tp x c ct hr=>by rw[h]at hr;cases hr
theorem zp{e:E}(h:∀tp N sc x,rep tp N sc e x=false):NT e:=fun w X k N sc tp x wh c ct hr=>by rw[h]at hr;cases hr
theorem Vu{e:E}(h:∀tp N sc xs,Um tp N sc e xs=false):NR e:=fun w X k N sc tp m xs c ct hr=>by rw[h]at hr;cases hr
theorem U2{e:E}(h:∀tp N sc t x,Su tp N sc t e x=false):NI e:=fun w X k N sc tp t x c ct hr=>by rw[h]at hr;cases hr
theorem S7{e:E}(h:NE e)(r:∀tp N sc t x,Su tp N sc t e x=rep tp N sc e x):NI e:=fun w X k N sc tp t x c ct hr=>si_of (h w X k N sc tp x c ct (by rw[<-r tp N sc t x];exact hr))
theorem ne_v(i:Nat):NE (.v i):=fun w X k N sc tp x c ct hr=>by
 replace hr:(match Dg x with | some y=>Gc N sc.names i y | none=>false)=true:=hr
 split at hr
 .rename_i e;obtain⟨p,rfl⟩:=Ux e;exact se_v (c.nm' hr)
 .cases hr
theorem Zxt(i:Nat):NE (.mv i):=fun w X k N sc tp x c ct hr=>by
 replace hr:(match Dg x with | some y=>Gc N sc.names i y | none=>false)=true:=hr
 split at hr
 .rename_i e;obtain⟨p,rfl⟩:=Ux e;exact se_mv (c.nm' hr)
 .cases hr
theorem Zzt{t:T}{k:Const}(h:conK t k=true):(t=.non/\k=.none)\/(∃b,t=.bl b/\k=.bool b)\/(∃i,t=.int i/\k=.int i)\/∃x,t=.str x/\k=.str x:=by
 unfold conK at h
 split at h
 .cases eq_of_beq h;exact .inr (.inr (.inl ⟨_,rfl,rfl⟩))
 .cases eq_of_beq h;exact .inr (.inr (.inr ⟨_,rfl,rfl⟩))
 .cases eq_of_beq h;exact .inr (.inl ⟨_,rfl,rfl⟩)
 .exact .inl ⟨rfl,rfl⟩
 .cases h
theorem ne_k(t:T):NE (.k t):=fun w X k N sc tp x c ct hr=>by
 replace hr:repK t x=true:=hr
 unfold repK at hr
 split at hr
 .rename_i cc e
  cases x<;>first | cases e | skip
  exact se_k (Zzt hr)
 .cases hr
theorem ne_g(g:Str):NE (.g g):=fun w X k N sc tp x c ct hr=>by
 replace hr:(match Dg x with | some y=>g == y && L4 sc.names y | none=>false)=true:=hr
 split at hr
 .rename_i e
  obtain⟨p0,rfl⟩:=Ux e;rw[Jx,beq_iff_eq]at hr;obtain⟨rfl,h⟩:=hr;obtain⟨g1,g2⟩:=c.gl' h;intro F p l s Q I h;obtain⟨t,e,h⟩:=Z9 (show on (w.gl g) fun t=>Q (.f t) p from h);obtain⟨v,hm,it⟩:=c.gl g t e;exact Pf I g1 hm g2 ⟨F,p,.f t,.refl F,I,it.up fun a o e=>I.le a o (I.ok.b a o e),h⟩
 .cases hr
theorem Af{es:E}(ih:NR es):NE (.tup es):=fun w X k N sc tp x c ct hr=>by
 replace hr:(match Cu x with | some xs=>Uz es && Um tp N sc es xs | none=>false)=true:=hr
 split at hr
 .rename_i e
  obtain⟨j,p,rfl⟩:=B1 e;rw[Jx]at hr;exact se_tup (ih w X k N sc tp false _ c ct hr.2) hr.1
 .cases hr
theorem Ab{es:E}(ih:NR es):NE (.lst es):=fun w X k N sc tp x c ct hr=>by
 replace hr:(match K4 x with | some xs=>Uz es && Um tp N sc es xs | none=>false)=true:=hr
 split at hr
 .rename_i e
  obtain⟨p,rfl⟩:=ny e;rw[Jx]at hr;exact se_lst (ih w X k N sc tp false _ c ct hr.2) hr.1
 .cases hr
theorem kh{tp:Bool}{N:ZG}{sc:Scope}{q:Pr}{es:E}{x:Expr}(hr:rep tp N sc (.pr q es) x=true):∃xs,view sc.names q x=some xs/\Uz es=true/\quiet q es=true/\ai q=true/\Um tp N sc es xs=true:=by
 replace hr:(match view sc.names q x with | some xs=>Uz es && quiet q es && ai q && Um tp N sc es xs | none=>false)=true:=hr
 split at hr
 .rename_i xs e
  simp only[Jx]at hr;exact⟨xs,e,hr.1.1.1,hr.1.1.2,hr.1.2,hr.2⟩
 .cases hr
theorem bq{q:Pr}{es:E}(ih:NR es):NE (.pr q es):=fun w X k N sc tp x c ct hr=>by
 obtain⟨xs,hv,h1,h2,h3,h4⟩:=kh hr;have hs:=ih w X k N sc tp true _ c ct h4;have hc:=c.calm;cases q with
 | op o=>exact se_op hv hs
 | cm m=>exact(Zxw c hv hs).1
 | c2 m m'=>exact(Zxv c hv h2 hs).1
 | neg=>exact se_neg hv hs
 | ix=>exact se_ix hv hs
 | sl lo hi=>cases lo<;>cases hi<;>first | exact p8 hv hs | exact uz hv hs | exact p6 hv hs | exact Zxy c hc hv hs
 | dnew=>exact uv c hc hv hs
 | isi n=>exact se_isi c hv hs
 | get1=>exact uw hv h2 hs
 | get2=>exact uq hv h2 hs
 | tix g=>exact se_tix c hv hs h3
 | tup1=>exact p5 hv hs
 | rev=>exact se_rev hv hs
 | join z=>exact ux hv hs
 | lvals=>exact yr c hc hv hs
 | sl2=>exact se_sl2 hv hs
 | dct2=>exact uy c hc hv fun fp h cc=>ih w _ k N sc tp true _ cc ct h4
 | _=>exact Zxy c hc hv hs
theorem nt_pr{q:Pr}{es:E}(ih:NR es):NT (.pr q es):=fun w X k N sc tp x wh c ct hr ht hw=>by
 obtain⟨xs,hv,h1,h2,h3,h4⟩:=kh hr;have hs:=ih w X k N sc tp true _ c ct h4
 have pl:plainT x=true->ST w (.pr q es) X x wh:=fun z=>by
  rcases hw with y | rfl
  .cases y
  .exact yq (bq ih w X k N sc tp x c ct hr) (Wv z)
 cases q with
 | cm m=>exact(Zxw c hv hs).2 wh
 | c2 m m'=>exact(Zxv c hv h2 hs).2 wh
 | _=>exact pl ht
theorem Oa{op:BoolOp}{tp:Bool}{N:ZG}{sc:Scope}{a b:E}{x:Expr}(hr:(match Ng op x with
  | some (x0,y,r,pos)=>rep tp N sc a x0 && (if r.isEmpty then rep tp N sc b y else rep tp N sc b (.BoolOp op (y::r) pos))
  | none=>false)=true):∃x0 y r pos,x=.BoolOp op (x0::y::r) pos/\Ng op x=some (x0,y,r,pos)/\rep tp N sc a x0=true/\((r=[]/\rep tp N sc b y=true)\/(r.isEmpty=false/\rep tp N sc b (.BoolOp op (y::r) pos)=true)):=by
 split at hr
 .rename_i x0 y r pos e
  rw[Jx]at hr;refine⟨x0,y,r,pos,nr e,e,hr.1, ?_⟩;cases r with
  | nil=>exact .inl ⟨rfl,hr.2⟩
  | cons z r=>exact .inr ⟨rfl,hr.2⟩
 .cases hr
theorem ne_and{a b:E}(ha:NE a)(hb:NE b):NE (.and a b):=fun w X k N sc tp x c ct hr=>by
 obtain⟨x0,y,r,pos,rfl,_,h1,h2⟩:=Oa hr;refine se_and (ha w X k N sc tp _ c ct h1) ?_;rcases h2 with ⟨rfl,h2⟩ | ⟨_,h2⟩
 .exact yl (hb w X k N sc tp _ c ct h2)
 .exact hb w X k N sc tp _ c ct h2
theorem ne_or{a b:E}(ha:NE a)(hb:NE b):NE (.or a b):=fun w X k N sc tp x c ct hr=>by
 obtain⟨x0,y,r,pos,rfl,_,h1,h2⟩:=Oa hr;refine se_or (ha w X k N sc tp _ c ct h1) ?_;rcases h2 with ⟨rfl,h2⟩ | ⟨_,h2⟩
 .exact yl (hb w X k N sc tp _ c ct h2)
 .exact hb w X k N sc tp _ c ct h2
theorem nt_and{a b:E}(ha:NT a)(hb:NT b):NT (.and a b):=fun w X k N sc tp x wh c ct hr ht _=>by
 obtain⟨x0,y,r,pos,rfl,e,h1,h2⟩:=Oa hr
 replace ht:(match Ng .And (Expr.BoolOp .And (x0::y::r) pos) with
  | some (x0,y,r,pos)=>Cq a x0 && (if r.isEmpty then Cq b y else Cq b (.BoolOp .And (y::r) pos) && dh b)
  | none=>false)=true:=ht
 rw[e]at ht;obtain⟨t1,t2⟩:=Hq.mp ht;refine st_and (ha w X k N sc tp _ _ c ct h1 t1 (.inr rfl)) fun wh'=>?_;rcases h2 with ⟨rfl,h2⟩ | ⟨re,h2⟩
 .exact sf (hb w X k N sc tp _ _ c ct h2 t2 (.inr rfl)) rfl
 .rw[re]at t2;obtain⟨t2,t3⟩:=Hq.mp t2;exact hb w X k N sc tp _ _ c ct h2 t2 (.inl (by cases b<;>first | rfl | cases t3))
theorem nt_or{a b:E}(ha:NT a)(hb:NT b):NT (.or a b):=fun w X k N sc tp x wh c ct hr ht _=>by
 obtain⟨x0,y,r,pos,rfl,e,h1,h2⟩:=Oa hr
 replace ht:(match Ng .Or (Expr.BoolOp .Or (x0::y::r) pos) with
  | some (x0,y,r,pos)=>Cq a x0 && (if r.isEmpty then Cq b y else Cq b (.BoolOp .Or (y::r) pos) && Zxr b)
  | none=>false)=true:=ht
 rw[e]at ht;obtain⟨t1,t2⟩:=Hq.mp ht;refine st_or (ha w X k N sc tp _ _ c ct h1 t1 (.inr rfl)) fun wh'=>?_;rcases h2 with ⟨rfl,h2⟩ | ⟨re,h2⟩
 .exact st_or1 (hb w X k N sc tp _ _ c ct h2 t2 (.inr rfl)) rfl
 .rw[re]at t2;obtain⟨t2,t3⟩:=Hq.mp t2;exact hb w X k N sc tp _ _ c ct h2 t2 (.inl (by cases b<;>first | rfl | cases t3))
theorem ne_not{a:E}(ha:NE a):NE (.not a):=fun w X k N sc tp x c ct hr=>by
 replace hr:(match Lf x with | some y=>rep tp N sc a y | none=>false)=true:=hr
 split at hr
 .rename_i y e
  obtain⟨p,rfl⟩:=K3 e;exact se_not (ha w X k N sc tp _ c ct hr)
 .cases hr
theorem nt_not{a:E}(ha:NT a):NT (.not a):=fun w X k N sc tp x wh c ct hr ht _=>by
 replace hr:(match Lf x with | some y=>rep tp N sc a y | none=>false)=true:=hr
 replace ht:(match Lf x with | some y=>Cq a y | none=>false)=true:=ht
 split at hr
 .rename_i y e
  rw[e]at ht;obtain⟨p,rfl⟩:=K3 e;exact st_not (ha w X k N sc tp _ _ c ct hr ht (.inr rfl))
 .cases hr
theorem bj{d a b:E}(hd:NT d)(ha:NE a)(hb:NE b):NE (.ite d a b):=fun w X k N sc tp x c ct hr=>by
 replace hr:(match Zz0 x with | some (z,x0,y)=>rep tp N sc d z && Cq d z && rep tp N sc a x0 && rep tp N sc b y | none=>false)=true:=hr
 split at hr
 .rename_i z x0 y e
  obtain⟨p,rfl⟩:=Zze e;simp only[Jx]at hr;exact se_ite (hd w X k N sc tp _ _ c ct hr.1.1.1 hr.1.1.2 (.inr rfl)) (ha w X k N sc tp _ c ct hr.1.2) (hb w X k N sc tp _ c ct hr.2)
 .cases hr
theorem Qm{x:Expr}{f:Str}{xs:ZM}(h:Ca x=some (f,xs)):∃p pos,x=.Call (.Name f p) xs [] pos:=Rd h
theorem Px{f:Str}{es:E}(ih:NR es):NE (.call f es):=fun w X k N sc tp x c ct hr=>by
 replace hr:(match Ca x with | some (g,xs)=>f == g && W2.contains f && L4 sc.names g && !xs.isEmpty && Um tp N sc es xs | none=>false)=true:=hr
 split at hr
 .rename_i g xs e
  obtain⟨p,pos,rfl⟩:=Qm e;simp only[Jx,beq_iff_eq]at hr;obtain⟨⟨⟨⟨rfl,h2⟩,h3⟩,h4⟩,h5⟩:=hr;unfold L4 at h3;rw[Jx,beq_iff_eq]at h3;cases xs with
  | nil=>cases h4
  | cons y ys=>exact ug c c.calm h3.1 (by simpa using h3.2) (by simpa using h2) (ih w X k N sc tp false _ c ct h5)
 .cases hr
theorem bw{i:Nat}{es:E}(ih:NR es):NE (.cal i es):=fun w X k N sc tp x c ct hr=>by
 replace hr:(match Ca x with | some (g,xs)=>Gc N sc.names i g && !xs.isEmpty && Uz es && Um tp N sc es xs | none=>false)=true:=hr
 split at hr
 .rename_i g xs e
  obtain⟨p,pos,rfl⟩:=Qm e;simp only[Jx]at hr;obtain⟨⟨⟨h1,h2⟩,h3⟩,h4⟩:=hr;cases xs with
  | nil=>cases h2
  | cons y ys=>exact se_cal c c.calm (c.nm' h1) (ih w X k N sc tp false _ c ct h4)
 .cases hr
theorem Zxc{m:Mt}{i:Nat}{es:E}(ih:NR es):NE (.mt m i es):=fun w X k N sc tp x c ct hr F p l s Q I hw=>by
 replace hr:(match xl x with | some (y,n,xs)=>n == metN m && isApp m && Gc N sc.names i y && Uz es && Um tp N sc es xs && decide (xs.length=metA m) | none=>false)=true:=hr
 split at hr
 .rename_i y n xs e
  obtain⟨p0,ap,cp,rfl,hl⟩:=nj e;simp only[Jx,beq_iff_eq,decide_eq_true_eq]at hr;obtain⟨⟨⟨⟨⟨rfl,h1⟩,h2⟩,h3⟩,h4⟩,h5⟩:=hr;exact se_mt h1 (c.nm' h2) (ih w X k N sc tp false _ c ct h4) h3 hl h5 F p l s Q I hw
 .cases hr
theorem xm{tg it cd el:E}{fr:ZV}{ns:ZG}{tp:Bool}{N:ZG}{sc:Scope}{x:Expr}(hr:rep tp N sc (.comp tg it cd el fr ns) x=true):∃elt t iter ifs scope pos,x=.ListComp elt [⟨t,iter,ifs,0⟩] scope pos/\tp=true/\Su tp N sc t it iter=true/\Li sc scope=true/\Ga N scope.names ns fr=true/\ns.Nodup/\Ji (fun i=>(fr[i]?).join.isSome) tg=true/\Tg iter=true/\repG ns scope.names tg t=true /\
  ((isNil cd=true/\ifs=[])\/(isNil cd=false/\∃z,ifs=[z]/\rep false ns scope cd z=true/\Cq cd z=true))/\rep false ns scope el elt=true:=by
 replace hr:(match xr x with
  | some (elt,t,iter,ifs,scope)=>tp && Su tp N sc t it iter && Li sc scope && Ga N scope.names ns fr && decide ns.Nodup && Ji (fun i=>(fr[i]?).join.isSome) tg && Tg iter && repG ns scope.names tg t
   && (if isNil cd then ifs.isEmpty else (match ifs with
    | [z]=>rep false ns scope cd z && Cq cd z
    | _=>false)) && rep false ns scope el elt
  | none=>false)=true:=hr
 split at hr
 .rename_i elt t iter ifs scope e
  obtain⟨pos,rfl⟩:=nc e;simp only[Jx,decide_eq_true_eq]at hr;obtain⟨⟨⟨⟨⟨⟨⟨⟨⟨h1,h2⟩,h3⟩,h4⟩,h5⟩,h6⟩,h7⟩,h8⟩,h9⟩,h10⟩:=hr;refine⟨elt,t,iter,ifs,scope,pos,rfl,h1,h2,h3,h4,h5,h6,h7,h8, ?_,h10⟩;cases hn:isNil cd with
  | true =>
   rw[hn]at h9;exact .inl ⟨rfl,List.isEmpty_iff.mp h9⟩
  | false =>
   rw[hn]at h9
   match ifs,h9 with
   | [z],h9=>exact .inr ⟨rfl,z,rfl,Hq.mp h9⟩
 .cases hr
theorem cu{cd:E}{ifs:ZM}{ns:ZG}{scope:Scope}{w:W}{k:Nat}(jb:NT cd)(h:(isNil cd=true/\ifs=[])\/(isNil cd=false/\∃z,ifs=[z]/\rep false ns scope cd z=true/\Cq cd z=true)):∀Y,Ct Y w k ns scope.names->HT w cd Y ifs:=fun Y c=>by
 rcases h with ⟨h,rfl⟩ | ⟨h,z,rfl,h1,h2⟩
 .exact ht_nil h
 .exact ht_one h (jb w Y k ns scope false z _ c (fun z=>nomatch z) h1 h2 (.inr rfl))
theorem zo{tg it cd el:E}{fr:ZV}{ns:ZG}(hit:NI it)(jb:NT cd)(hel:NE el):NE (.comp tg it cd el fr ns):=fun w X k N sc tp x c ct hr=>by
 obtain⟨elt,t,iter,ifs,scope,pos,rfl,h1,h2,h3,h4,h5,h6,h7,h8,h9,h10⟩:=xm hr;exact uk c (ct h1) c.calm h3 h4 h5 (hit w X k N sc tp t iter c ct h2) h8 h6 (cu jb h9) (fun Y cc=>hel w.nx Y k ns scope false elt cc (fun z=>nomatch z) h10) (D0 h7)
theorem ni_itr{q:Ik}{es:E}(ih:NR es):NI (.itr q es):=fun w X k N sc tp t x c ct hr=>by
 replace hr:(match Ca x with
  | some (f,xs)=>f == ikN q && !ikV q && L4 sc.names f && i9 q t && ikLk q xs.length && Uz es && Um tp N sc es xs
  | none=>(match Zzi x with
   | some y=>y.1 == ikN q && ikV q && i9 q t && Uz es && Um tp N sc es [y.2]
   | none=>false))=true:=hr
 split at hr
 .rename_i f xs e
  obtain⟨p,pos,rfl⟩:=Qm e;simp only[Jx,beq_iff_eq,decide_eq_true_eq,Bool.not_eq_true']at hr;obtain⟨⟨⟨⟨⟨⟨rfl,h0⟩,h2⟩,h3⟩,h4⟩,h5⟩,h6⟩:=hr;unfold L4 at h2;rw[Jx,beq_iff_eq]at h2;have hs:=ih w X k N sc tp false _ c ct h6;cases q with
  | rng=>cases xs with
   | nil=>cases h4
   | cons a r=>exact si_rng c h2.1 hs h5
  | zip=>match xs,h4 with
   | [a,b],_ =>
    cases t<;>first | exact si_zip c h2.1 hs h5 | cases h3
 .split at hr
  .rename_i y e
   obtain⟨ap,cp,rfl,hc,hl⟩:=Zzo e;simp only[Jx,beq_iff_eq]at hr;obtain⟨⟨⟨⟨h1,h0⟩,h3⟩,h5⟩,h6⟩:=hr;have hs:=ih w X k N sc tp false _ c ct h6;cases q with
   | rng=>cases h0
   | zip=>cases h0
  .cases hr
theorem a8{a r:E}(ha:NE a)(Wp:NR r):NR (.cons a r):=fun w X k N sc tp m xs c ct hr=>by
 cases xs with
 | nil=>cases(show false=true from hr)
 | cons x xs =>
  replace hr:(noStar x && (match (generalizing:=false) a with
  | .io i=>(match Dg x with
   | some y=>Gc N sc.names i y
   | none=>false)
  | _=>rep tp N sc a x) && Um tp N sc r xs)=true:=hr
  simp only[Jx]at hr;obtain⟨⟨h1,h2⟩,h3⟩:=hr;refine .cons ?_ h1 (Wp w X k N sc tp m xs c ct h3);cases a with
  | io i =>
   have h2:(match Dg x with | some y=>Gc N sc.names i y | none=>false)=true:=h2
   split at h2
   .rename_i e;obtain⟨p,rfl⟩:=Ux e;exact(Zxj (m:=m) (c.nm' h2)).2
   .cases h2
  | v i =>
   have h2':(match Dg x with | some y=>Gc N sc.names i y | none=>false)=true:=h2;cases m with
   | false=>exact sh_v (ha w X k N sc tp x c ct h2)
   | true =>
    split at h2'
    .rename_i e;obtain⟨p,rfl⟩:=Ux e;exact(Zxj (m:=true) (c.nm' h2')).1
    .cases h2'
  | _=>exact sh_of (fun _ z=>nomatch z) (fun _ z=>nomatch z) (ha w X k N sc tp x c ct h2)
theorem nr_nil:NR .nil:=fun w X k N sc tp m xs c ct hr=>by
 cases xs with
 | nil=>exact .nil
 | cons _ _=>cases(show false=true from hr)
theorem Dy:∀e:E,NE e/\NT e/\NR e/\NI e:=by
 intro e
 induction e with
 | v i=>exact⟨ne_v i,Yh (ne_v i) (fun _=>rfl) rfl,Vu fun tp N sc xs=>rfl,S7 (ne_v i) fun tp N sc t x=>rfl⟩
 | mv i=>exact⟨Zxt i,Yh (Zxt i) (fun _=>rfl) rfl,Vu fun tp N sc xs=>rfl,U2 fun tp N sc t x=>rfl⟩
 | io i=>exact⟨za fun tp N sc x=>rfl,zp fun tp N sc x=>rfl,Vu fun tp N sc xs=>rfl,U2 fun tp N sc t x=>rfl⟩
 | k t=>exact⟨ne_k t,Yh (ne_k t) (fun _=>rfl) rfl,Vu fun tp N sc xs=>rfl,U2 fun tp N sc t x=>rfl⟩
 | g x=>exact⟨ne_g x,Yh (ne_g x) (fun _=>rfl) rfl,Vu fun tp N sc xs=>rfl,U2 fun tp N sc t x=>rfl⟩
 | nil=>exact⟨za fun tp N sc x=>rfl,zp fun tp N sc x=>rfl,nr_nil,U2 fun tp N sc t x=>rfl⟩
 | cons a r ha hr=>exact⟨za fun tp N sc x=>rfl,zp fun tp N sc x=>rfl,a8 ha.1 hr.2.2.1,U2 fun tp N sc t x=>rfl⟩
 | tup es ih=>exact⟨Af ih.2.2.1,Yh (Af ih.2.2.1) (fun _=>rfl) rfl,Vu fun tp N sc xs=>rfl,S7 (Af ih.2.2.1) fun tp N sc t x=>rfl⟩
 | lst es ih=>exact⟨Ab ih.2.2.1,Yh (Ab ih.2.2.1) (fun _=>rfl) rfl,Vu fun tp N sc xs=>rfl,S7 (Ab ih.2.2.1) fun tp N sc t x=>rfl⟩
 | pr q es ih=>exact⟨bq ih.2.2.1,nt_pr ih.2.2.1,Vu fun tp N sc xs=>rfl,S7 (bq ih.2.2.1) fun tp N sc t x=>rfl⟩
 | and a b ha hb=>exact⟨ne_and ha.1 hb.1,nt_and ha.2.1 hb.2.1,Vu fun tp N sc xs=>rfl,U2 fun tp N sc t x=>rfl⟩
 | or a b ha hb=>exact⟨ne_or ha.1 hb.1,nt_or ha.2.1 hb.2.1,Vu fun tp N sc xs=>rfl,U2 fun tp N sc t x=>rfl⟩
 | not a ha=>exact⟨ne_not ha.1,nt_not ha.2.1,Vu fun tp N sc xs=>rfl,U2 fun tp N sc t x=>rfl⟩
 | ite d a b hd ha hb=>exact⟨bj hd.2.1 ha.1 hb.1,Yh (bj hd.2.1 ha.1 hb.1) (fun _=>rfl) rfl,Vu fun tp N sc xs=>rfl,U2 fun tp N sc t x=>rfl⟩
 | call f es ih=>exact⟨Px ih.2.2.1,Yh (Px ih.2.2.1) (fun _=>rfl) rfl,Vu fun tp N sc xs=>rfl,S7 (Px ih.2.2.1) fun tp N sc t x=>rfl⟩
 | cal i es ih=>exact⟨bw ih.2.2.1,Yh (bw ih.2.2.1) (fun _=>rfl) rfl,Vu fun tp N sc xs=>rfl,U2 fun tp N sc t x=>rfl⟩
 | mt m i es ih=>exact⟨Zxc ih.2.2.1,Yh (Zxc ih.2.2.1) (fun _=>rfl) rfl,Vu fun tp N sc xs=>rfl,U2 fun tp N sc t x=>rfl⟩
 | comp tg it cd el fr ns htg hit jb hel=>exact⟨zo hit.2.2.2 jb.2.1 hel.1,Yh (zo hit.2.2.2 jb.2.1 hel.1) (fun _=>rfl) rfl,Vu fun tp N sc xs=>rfl,U2 fun tp N sc t x=>rfl⟩
 | itr q es ih=>exact⟨za fun tp N sc x=>rfl,zp fun tp N sc x=>rfl,Vu fun tp N sc xs=>rfl,ni_itr ih.2.2.1⟩
 | tmp a ha=>exact⟨fun w X k N sc tp x c ct hr=>yn (ha.1 w X k N sc tp x c ct hr),Yh (fun w X k N sc tp x c ct hr=>yn (ha.1 w X k N sc tp x c ct hr)) (fun _=>rfl) rfl,Vu fun tp N sc xs=>rfl,U2 fun tp N sc t x=>rfl⟩
 | tmB a ha=>exact⟨fun w X k N sc tp x c ct hr=>se_tmB (ha.1 w X k N sc tp x c ct hr),fun w X k N sc tp x wh c ct hr ht hw=>st_tmB (ha.2.1 w X k N sc tp x wh c ct hr ht (hw.imp (fun z=>by cases z) id)),Vu fun tp N sc xs=>rfl,U2 fun tp N sc t x=>rfl⟩
def Ph:E->Bool
 | .comp _ _ _ _ _ _=>true
 | _=>false
noncomputable def My:Expr->Bool
 | .ListComp _ _ _ _=>false
 | .SetComp _ _ _ _=>false
 | .DictComp _ _ _ _ _=>false
 | _=>true
theorem X0{x:Expr}{t:Option Expr}{ln:Nat}{env:Env}(h:My x=true):swapsWith x t ln env=pure false:=by
 cases x<;>first | rfl | cases h
inductive ShS where
 | ret(x:Option Expr) | ex(x:Expr) | asg(t x:Expr) | ite(z:Expr)(a b:List Stmt) | loop(t it:Expr)(b:List Stmt) | wh(z:Expr)(b:List Stmt) | pass | brk | cont | rais(e:Expr) | tri(b:List Stmt)(c:Expr)(n:Str)(b₀:Stmt)(h:List Stmt) | non
noncomputable def shA:ZM->Expr->ShS
 | [],_=>.non
 | t::r,x=>match r with
  | []=>.asg t x
  | _::_=>.non
def shL(t it:Expr)(b:List Stmt):List Stmt->ShS
 | []=>.loop t it b
 | _::_=>.non
def shW(z:Expr)(b:List Stmt):List Stmt->ShS
 | []=>.wh z b
 | _::_=>.non
def shR:Option Expr->Option Expr->ShS
 | some e,none=>.rais e
 | _,_=>.non
noncomputable def shT(b:List Stmt):List ExceptHandler->List Stmt->List Stmt->ShS
 | [.ExceptHandler (some c) (some n) (b₀::h) _],[],[]=>.tri b c n b₀ h
 | _,_,_=>.non
noncomputable def Rc:Stmt->ShS
 | .Return x _=>.ret x
 | .Expr x _=>.ex x
 | .Assign ts x _=>shA ts x
 | .If z a b _=>.ite z a b
 | .For t it b e _=>shL t it b e
 | .While z b e _=>shW z b e
 | .Pass _=>.pass
 | .Break _=>.brk
 | .Continue _=>.cont
 | .Raise e c _=>shR e c
 | .Try b hs o f _=>shT b hs o f
 | _=>.non
def ShSI:ShS->Stmt->Prop
 | .ret x,s=>∃p,s=.Return x p
 | .ex x,s=>∃p,s=.Expr x p
 | .asg t x,s=>∃p,s=.Assign [t] x p
 | .ite z a b,s=>∃p,s=.If z a b p
 | .loop t it b,s=>∃p,s=.For t it b [] p
 | .wh z b,s=>∃p,s=.While z b [] p
 | .pass,s=>∃p,s=.Pass p
 | .brk,s=>∃p,s=.Break p
 | .cont,s=>∃p,s=.Continue p
 | .rais e,s=>∃p,s=.Raise (some e) none p
 | .tri b c n b₀ h,s=>∃q p,s=.Try b [.ExceptHandler (some c) (some n) (b₀::h) q] [] [] p
 | .non,_=>True
theorem ph(s:Stmt):ShSI (Rc s) s:=by
 cases s
 case Assign ts x p=>cases ts with
  | nil=>trivial
  | cons t r=>cases r with
   | nil=>exact⟨_,rfl⟩
   | cons _ _=>trivial
 case For t it b e p=>cases e with
  | nil=>exact⟨_,rfl⟩
  | cons _ _=>trivial
 case While z b e p=>cases e with
  | nil=>exact⟨_,rfl⟩
  | cons _ _=>trivial
 case Raise e c p =>
  cases e<;>cases c<;>first | exact⟨_,rfl⟩ | trivial
 case Try b hs o f p =>
  show ShSI (shT b hs o f) _;unfold shT
  split
  .exact⟨_,_,rfl⟩
  .trivial
 all_goals first | exact⟨_,rfl⟩ | exact True.intro
theorem U0{s:Stmt}{h:ShS}(e:Rc s=h):ShSI h s:=e ▸ ph s
def Ae:E->Bool
 | .k t=>match t with
  | .non=>true
  | _=>false
 | _=>false
theorem jv{a:E}(h:Ae a=true):a=.k .non:=by
 cases a with
 | k t=>cases t with
  | non=>rfl
  | _=>cases h
 | _=>cases h
noncomputable def fu(t:Expr):Option Str:=match C0 t with
 | .name y=>some y
 | _=>none
theorem zu{t:Expr}{y:Str}(h:fu t=some y):∃p,t=.Name y p:=by
 unfold fu at h
 split at h
 .rename_i e
  cases h;exact Yj e
 .cases h
noncomputable def ub(t:Expr):Option (Str×Expr):=match C0 t with
 | .sub o k=>(fu o).map (·,k)
 | _=>none
theorem uf{t k:Expr}{y:Str}(h:ub t=some (y,k)):∃q p,t=.Subscript (.Name y q) k p:=by
 unfold ub at h
 split at h
 .rename_i e
  obtain⟨p,rfl⟩:=Yj e;obtain⟨z,e1,e2⟩:=Y7.mp h;cases e2;obtain⟨q,rfl⟩:=zu e1;exact⟨q,p,rfl⟩
 .cases h
noncomputable def uu(N:ZG)(sc:Scope):E->Expr->Bool
 | .io i,z=>(match Dg z with
  | some y=>Gc N sc.names i y
  | none=>false)
 | c,z=>rep true N sc c z && Cq c z
mutual
noncomputable def repS(N:ZG)(sc:Scope):S->Stmt->Bool
 | .ret a,st=>match Rc st with
  | .ret x=>(match x with
   | some x=>rep true N sc a x
   | none=>Ae a)
  | _=>false
 | .ex a,st=>match Rc st with
  | .ex x=>rep true N sc a x && My x
  | _=>false
 | .set i a,st=>match Rc st with
  | .asg t x=>(match fu t with
   | some y=>N[i]? == some y && locs sc.names y && rep true N sc a x && (My x || Ph a)
   | none=>false)
  | _=>false
 | .unp tg a,st=>match Rc st with
  | .asg t x=>repG N sc.names tg t && isTup t && rep true N sc a x && !isTup x
  | _=>false
 | .put i k a,st=>match Rc st with
  | .asg t x=>(match ub t with
   | some q=>Gc N sc.names i q.1 && rep true N sc a x && rep true N sc k q.2 && U1 q.2
   | none=>false)
  | _=>false
 | .ite c a b,st=>match Rc st with
  | .ite z x y=>rep true N sc c z && Cq c z && Mp N sc a x && Mp N sc b y
  | _=>false
 | .loop tg it b,st=>match Rc st with
  | .loop t iter body=>Su true N sc t it iter && repG N sc.names tg t && Mp N sc b body && Tg iter
  | _=>false
 | .wh c b,st=>match Rc st with
  | .wh z body=>uu N sc c z && Mp N sc b body
  | _=>false
 | .pass,st=>match Rc st with
  | .pass=>true
  | _=>false
 | .brk,st=>match Rc st with
  | .brk=>true
  | _=>false
 | .cont,st=>match Rc st with
  | .cont=>true
  | _=>false
 | _,_=>false
noncomputable def Mp(N:ZG)(sc:Scope):S->List Stmt->Bool
 | .nil,[]=>true
 | .seq a r,st::rest=>repS N sc a st && Mp N sc r rest
 | _,_=>false
end
theorem qy{elt:Expr}{gs:List Comprehension}{scope:Scope}{pos p:Pos}{t:Str}{ln:Nat}{env:Env}:swapsWith (.ListComp elt gs scope pos) (some (.Name t p)) ln env=pure (env.blockKind == .function && env.kindOf t == some .local && p.line == pos.line && !(scope.names.any fun(n,k)=>n == t && (k == .local || k == .cell))):=rfl
def NS(s:S):Prop:=∀(w:W) (X:Cx) (k:Nat) (N:ZG) (sc:Scope),Ct X w k N sc.names->X.env.scope.names=sc.names->PassesOwn (model X.prog X.w) X.A X.env X.xe->X.stack=X.env::X.outer->X.env.frame=some X.env.locals->(∀st,repS N sc s st=true->SS w s X st)/\∀sts,Mp N sc s sts=true->SB w s X sts
theorem st_io{w:W}{X:Cx}{k:Nat}{N:ZG}{sc:Scope}(c:Ct X w k N sc.names){i:Nat}{y:Str}{pos:Pos}(h:Gc N sc.names i y=true):ST w (.io i) X (.Name y pos) (eval (.Name y pos) X.env):=fun F p l s Q I hw=>by
 obtain⟨b,e,q⟩:=Z9 (show on (lenO p i) fun b=>Q b p from hw);unfold lenO at e
 split at e
 .rename_i ts e1
  cases e;obtain⟨a,h1,w1⟩:=I.r.ow i _ e1;obtain⟨_,o,us,e2,e3,⟨z,m,rfl⟩,r⟩:=w1.t.unL;cases e2;have sz:=sizeLine_eq;refine isTrue_plain (Dv (c.nm' h) I h1 ?_) rfl;refine wpAny_truthy_list (show s.heap.IsList a us.toArray from⟨_,e3,rfl,⟨m,rfl⟩⟩) (by simp only[Ul];omega) ?_;refine⟨F,p,Le.refl F,I.tok _, ?_⟩
  have ee:us.toArray.isEmpty=ts.isEmpty:=by
   cases r with
   | nil=>rfl
   | cons _ _=>rfl
  simpa [ee] using q
 .cases e
theorem st_wh{w:W}{X:Cx}{k:Nat}{N:ZG}{sc:Scope}(c:Ct X w k N sc.names)(ct:X.env.scope.names=sc.names){cd:E}{z:Expr}(h:uu N sc cd z=true):ST w cd X z (eval z X.env):=by
 unfold uu at h
 split at h
 .split at h
  .rename_i e
   obtain⟨q,rfl⟩:=Ux e;exact st_io c h
  .cases h
 .obtain⟨h1,h2⟩:=Hq.mp h;exact(Dy _).2.1 w X k N sc true _ _ c (fun _=>ct) h1 h2 (.inr rfl)
theorem Tf{s:S}{w:W}{X:Cx}{N:ZG}{sc:Scope}(h:∀sts,Mp N sc s sts=false):∀sts,Mp N sc s sts=true->SB w s X sts:=fun sts z=>by rw[h]at z;cases z
theorem a9{s:S}{w:W}{X:Cx}{N:ZG}{sc:Scope}(h:∀st,repS N sc s st=false):∀st,repS N sc s st=true->SS w s X st:=fun st z=>by rw[h]at z;cases z
section
variable{X:Cx}{w:W}{k:Nat}{N:ZG}{sc:Scope}
theorem set_n(c:Ct X w k N sc.names)(ct:X.env.scope.names=sc.names){i:Nat}{a:E}{x:Expr}{y:Str}{pos pos':Pos}(h1:N[i]?=some y)(h2:locs sc.names y=true)(h3:rep true N sc a x=true)(h4:(My x || Ph a)=true):SS w (.set i a) X (.Assign [.Name y pos'] x pos):=by
 have hse:=(Dy a).1 w X k N sc true x c (fun _=>ct) h3;rw[Bool.or_eq_true]at h4;rcases h4 with h4 | h4
 .exact yj c h1 h2 hse (X0 h4)
 .cases a<;>first | cases h4 | skip
  rename_i tg it cd el fr ns
  obtain⟨elt,t,iter,ifs,scope,Si,rfl,g1,g2,g3,g4,g5,g6,g7,g8,g9,g10⟩:=xm h3
  have hsw:swapsWith (.ListComp elt [⟨t,iter,ifs,0⟩] scope Si) (some (.Name y pos')) pos.line X.env=pure false\/swapsWith (.ListComp elt [⟨t,iter,ifs,0⟩] scope Si) (some (.Name y pos')) pos.line X.env=pure true:=by
   rw[qy];cases(X.env.blockKind == .function && X.env.kindOf y == some .local && pos'.line == Si.line && !(scope.names.any fun(n,k)=>n == y && (k == .local || k == .cell)))<;>first | exact .inl rfl | exact .inr rfl
  rcases hsw with hsw | hsw
  .exact yj c h1 h2 hse hsw
  .exact sr c ct c.calm g3 g4 g5 h1 h2 ((Dy it).2.2.2 w X k N sc true t iter c (fun _=>ct) g2) g8 g6 (cu (Dy cd).2.1 g9) (fun Y cc=>(Dy el).1 w.nx Y k ns scope false elt cc (fun z=>nomatch z) g10) (D0 g7) hsw
end
theorem fy:∀s:S,NS s:=by
 intro s
 induction s with
 | nil =>
  intro w X k N sc c ct po N6 Nl;refine⟨a9 fun st=>rfl,fun sts h=>?_⟩;cases sts with
  | nil=>exact sb_nil
  | cons _ _=>cases(show false=true from h)
 | seq a r ha hr =>
  intro w X k N sc c ct po N6 Nl;refine⟨a9 fun st=>rfl,fun sts h=>?_⟩;cases sts with
  | nil=>cases(show false=true from h)
  | cons st rest =>
   obtain⟨h1,h2⟩:=Hq.mp (show (repS N sc a st && Mp N sc r rest)=true from h);exact sb_seq ((ha w X k N sc c ct po N6 Nl).1 st h1) ((hr w X k N sc c ct po N6 Nl).2 rest h2)
 | ret a =>
  intro w X k N sc c ct po N6 Nl;refine⟨fun st h=>?_,Tf fun sts=>rfl⟩
  replace h:(match Rc st with | .ret x=>(match x with | some x=>rep true N sc a x | none=>Ae a) | _=>false)=true:=h
  split at h
  .rename_i e
   obtain⟨p,rfl⟩:=U0 e
   split at h
   .exact ss_ret ((Dy a).1 w X k N sc true _ c (fun _=>ct) h)
   .rw[jv h];exact su
  .cases h
 | ex a =>
  intro w X k N sc c ct po N6 Nl;refine⟨fun st h=>?_,Tf fun sts=>rfl⟩
  replace h:(match Rc st with | .ex x=>rep true N sc a x && My x | _=>false)=true:=h
  split at h
  .rename_i e
   obtain⟨p,rfl⟩:=U0 e;rw[Jx]at h;exact ss_ex ((Dy a).1 w X k N sc true _ c (fun _=>ct) h.1) (X0 h.2)
  .cases h
 | set i a =>
  intro w X k N sc c ct po N6 Nl;refine⟨fun st h=>?_,Tf fun sts=>rfl⟩
  replace h:(match Rc st with | .asg t x=>(match fu t with | some y=>N[i]? == some y && locs sc.names y && rep true N sc a x && (My x || Ph a) | none=>false) | _=>false)=true:=h
  split at h
  .rename_i e
   obtain⟨p,rfl⟩:=U0 e
   split at h
   .rename_i e
    obtain⟨p,rfl⟩:=zu e;simp only[Jx,beq_iff_eq]at h;obtain⟨⟨⟨h1,h2⟩,h3⟩,h4⟩:=h;exact set_n c ct h1 h2 h3 h4
   .cases h
  .cases h
 | unp tg a =>
  intro w X k N sc c ct po N6 Nl;refine⟨fun st h=>?_,Tf fun sts=>rfl⟩
  replace h:(match Rc st with | .asg t x=>repG N sc.names tg t && isTup t && rep true N sc a x && !isTup x | _=>false)=true:=h
  split at h
  .rename_i t x e
   obtain⟨p,rfl⟩:=U0 e;simp only[Jx]at h;obtain⟨⟨⟨h1,h2⟩,h3⟩,h4⟩:=h;cases t<;>first | cases h2 | skip
   exact ss_unp c c.calm h1 ((Dy a).1 w X k N sc true _ c (fun _=>ct) h3) (by simpa using h4)
  .cases h
 | put i kk a =>
  intro w X k N sc c ct po N6 Nl;refine⟨fun st h=>?_,Tf fun sts=>rfl⟩
  replace h:(match Rc st with | .asg t x=>(match ub t with | some q=>Gc N sc.names i q.1 && rep true N sc a x && rep true N sc kk q.2 && U1 q.2 | none=>false) | _=>false)=true:=h
  split at h
  .rename_i e
   obtain⟨p,rfl⟩:=U0 e
   split at h
   .rename_i e
    obtain⟨q,p,rfl⟩:=uf e;simp only[Jx]at h;obtain⟨⟨⟨h1,h2⟩,h3⟩,h4⟩:=h;exact ss_put (c.nm' h1) ((Dy a).1 w X k N sc true _ c (fun _=>ct) h2) ((Dy kk).1 w X k N sc true _ c (fun _=>ct) h3)
   .cases h
  .cases h
 | ite cd a b ha hb =>
  intro w X k N sc c ct po N6 Nl;refine⟨fun st h=>?_,Tf fun sts=>rfl⟩
  replace h:(match Rc st with | .ite z x y=>rep true N sc cd z && Cq cd z && Mp N sc a x && Mp N sc b y | _=>false)=true:=h
  split at h
  .rename_i e
   obtain⟨p,rfl⟩:=U0 e;simp only[Jx]at h;obtain⟨⟨⟨h1,h2⟩,h3⟩,h4⟩:=h;exact ss_ite ((Dy cd).2.1 w X k N sc true _ _ c (fun _=>ct) h1 h2 (.inr rfl)) ((ha w X k N sc c ct po N6 Nl).2 _ h3) ((hb w X k N sc c ct po N6 Nl).2 _ h4)
  .cases h
 | loop tg it b hb =>
  intro w X k N sc c ct po N6 Nl;refine⟨fun st h=>?_,Tf fun sts=>rfl⟩
  replace h:(match Rc st with | .loop t iter body=>Su true N sc t it iter && repG N sc.names tg t && Mp N sc b body && Tg iter | _=>false)=true:=h
  split at h
  .rename_i e
   obtain⟨p,rfl⟩:=U0 e;simp only[Jx]at h;obtain⟨⟨⟨h1,h2⟩,h3⟩,h4⟩:=h;exact ss_for po c c.calm ((Dy it).2.2.2 w X k N sc true _ _ c (fun _=>ct) h1) h2 (fun fp hh cc=>(hb w _ k N sc cc ct po N6 Nl).2 _ h3) (D0 h4)
  .cases h
 | wh cd b hb =>
  intro w X k N sc c ct po N6 Nl;refine⟨fun st h=>?_,Tf fun sts=>rfl⟩
  replace h:(match Rc st with | .wh z body=>uu N sc cd z && Mp N sc b body | _=>false)=true:=h
  split at h
  .rename_i e
   obtain⟨p,rfl⟩:=U0 e;simp only[Jx]at h;obtain⟨h1,h3⟩:=h;exact ss_wh po (st_wh c ct h1) ((hb w X k N sc c ct po N6 Nl).2 _ h3)
  .cases h
 | pass =>
  intro w X k N sc c ct po N6 Nl;refine⟨fun st h=>?_,Tf fun sts=>rfl⟩
  replace h:(match Rc st with | .pass=>true | _=>false)=true:=h
  split at h
  .rename_i e;obtain⟨p,rfl⟩:=U0 e;exact so
  .cases h
 | brk =>
  intro w X k N sc c ct po N6 Nl;refine⟨fun st h=>?_,Tf fun sts=>rfl⟩
  replace h:(match Rc st with | .brk=>true | _=>false)=true:=h
  split at h
  .rename_i e;obtain⟨p,rfl⟩:=U0 e;exact ss_brk
  .cases h
 | cont =>
  intro w X k N sc c ct po N6 Nl;refine⟨fun st h=>?_,Tf fun sts=>rfl⟩
  replace h:(match Rc st with | .cont=>true | _=>false)=true:=h
  split at h
  .rename_i e;obtain⟨p,rfl⟩:=U0 e;exact si
  .cases h
 | rais cl a =>
  intro w X k N sc c ct po N6 Nl;exact⟨a9 fun st=>rfl,Tf fun sts=>rfl⟩
 | tri b cl i h0 =>
  intro w X k N sc c ct po N6 Nl;exact⟨a9 fun st=>rfl,Tf fun sts=>rfl⟩
end PV
namespace Att
open PySem PySem.W PySem.Calls PyProof.Rows
theorem C6{P:Params}{h:Heap}:∀(ns:ZT) (vs:ZK),WellAll P h vs (ns.map WData.int)->IntsAre vs ns:=by
 intro ns
 induction ns with
 | nil =>
  intro vs w;rw[List.map_nil]at w;cases w;exact .nil
 | cons n ns ih =>
  intro vs w;rw[O5]at w;cases w with
  | cons a b =>
   cases a;exact .cons _ _ (ih _ b)
theorem qt{l:OpenLaw}{n:Nat}(hn:l.most=some n){P:Params}{h:Heap}{args:List WData}{vals:ZK}
  (ed:l.row.toRowW.claim.pre args=true) (hwl:WellAll P h vals args) :
  ∃a vs ns,vals=[Value.ref a]/\args=[WData.list (ns.map WData.int)]/\h.get? a=some { cls:=.type "list",data:=.seq vs.toArray }/\IntsAre vs ns/\ns.length<=n:=by
 have hsh:WShape.hasAll [] args [.list .int]=true:=(pre_splitW ed).1;have hc:l.pre.holds [] { args:=args }=true:=(pre_splitW ed).2;obtain⟨d,r,rfl,h1,h2⟩:=hasAllW_cons hsh;obtain rfl:=hasAllW_nil h2;obtain⟨xs,rfl,h3⟩:=hasW_list h1;obtain⟨ns,rfl⟩:=items_int h3
 have hlen:ns.length<=n:=by
  unfold OpenLaw.pre at hc
  have h4:(WTm.not (.lt (.lit (.int (n:Int))) (.len (.arg 0)))).holds [] { args:=[.list (ns.map .int)] }=true:=by
   have h4:=(holds_andW hc).1;rw[hn]at h4;exact h4
  have h5:=condW_of h4 (w_not (w_lt w_lit (w_len_list (w_arg rfl))));rw[Y9]at h5;refine Nat.le_of_not_lt fun q=>?_;have q':(n:Int)<((ns.length:Nat):Int):=by omega
  first
   | (rw[Jo q']at h5;exact absurd h5 (by decide))
   | (simp at h5;omega)
 cases hwl with
 | cons w1 w2 =>
  cases w2;cases w1 with
  | list ho hall=>exact⟨_,_,ns,rfl,rfl,ho,C6 ns _ hall,hlen⟩
theorem ql(l:OpenLaw)(args:List WData):l.row.toRowW.claim.post args (.bool true) args=true :=
 postW_of (r:=l.row.toRowW) (X:=(true == true))
  (show WShape.has [] (.bool true) .bool=true by first | rfl | decide | simp[WShape.has,WShape.arms,WShape.armsAll])
  (show (WTm.eq .res (.lit (.bool true))).value [] { args:=args,res:=some (.bool true),after:=args }=some (.bool (true == true)) from w_eq_bool (w_res rfl) w_lit) rfl
theorem K1{l:OpenLaw}{n:Nat}{q:Program}{loose:ZG}{XP:(ZJ)->Heap->Prop}{YP:World->Heap->Prop}{d:DefRec}
  (hn:l.most=some n) (hdf:d.params.defaults=[])
  (call:∀(w:World) (s₀ s₁:Shared) (mg mb:ZJ) (fa:Addr) (o:Obj) (pm cd doc:Value) (a:Addr) (vs:ZK) (ns:ZT),
   Ground q loose [] XP w s₀ mg mb s₁.heap->YP w s₁.heap ->
   s₁.heap.get? fa=some o->o.data=.func (docDef d.name d.params d.body d.scope pm cd doc)->s₁.heap.CodeRec cd d.name->mg d.name=some (.ref fa) ->
   s₁.heap.get? a=some { cls:=.type "list",data:=.seq vs.toArray }->IntsAre vs ns->ns.length<=n->s₁.gens=#[] ->
   codeAny (model l.prog w) callerA (.call (.ref fa) ⟨[.ref a],[]⟩) (fun r s'=>r=.ok (.ret (.bool true))/\OldK s₁.heap s'.heap/\s'.os=s₁.os/\AllBare s'.gens) s₁) :
  WalkO q loose XP YP l.row.toRowW d [] (fun f vs=>PySem.call f vs):=by
 intro w s₀ s₁ mg mb G Y fa o pm cd doc dV kV ho hd jb hD hmg hg args vals as ed hlay hrd hwl hlo;obtain rfl:dV=.none:=Dflts.none hD hdf;obtain rfl:kV=.none:=Dflts.noKw hD;obtain⟨a,vs,ns,rfl,rfl,hobj,hints,hlen⟩:=qt hn ed hwl;refine enter_call (codeAny_mono (call w s₀ s₁ mg mb fa o pm cd doc a vs ns G Y ho (fd_plain hd) jb hmg hobj hints hlen hg) fun r s' hq=>?_);obtain⟨rfl,h2,h3,h4⟩:=hq;exact⟨.inl ⟨.bool true,.bool true,[],rfl,fun _=>rfl,.bool true,ql l _,fun _=>⟨List.Pairwise.nil,fun _ hm=>(nomatch hm)⟩⟩,h2,h3,h4⟩
end Att
namespace L2
open PySem PySem.Spec PyProof.Rows
end L2
namespace PV
open PySem PySem.Spec PyProof.Rows L2
theorem Zc.mk'{K:W.Frag}{x:Str}{st:Stmt}{f:Addr}{oc:Value}{od an:ZR}{osl:ZY}{kV doc pm cdv ct:Value}(l:K.lookup f=some ⟨oc,od,.func (W.fnOf x x (Bh st) (Us st) (Zf st) .none kV doc pm an cdv ct),osl⟩)
  (c:W.codeIn K cdv x=true) (k:W.keepIn K (.ref f)=true):Zc K x st f (W.fnOf x x (Bh st) (Us st) (Zf st) .none kV doc pm an cdv ct):=⟨⟨oc,od,kV,doc,pm,an,cdv,ct,osl,rfl,l,c⟩,k⟩
structure Ut(g:Md)(f:Str)(d:Df):Prop where
 ex:∃st a fd N ps,Zc g.K f st a fd/\g.mg f=some (.ref a)/\Ml N ps (Zf st)/\N.length=d.n/\ps.length=d.ar/\Mp N (Zf st) d.code (Us st)=true/\Binds g.K fd ps []
def wx(g:Md)(gl:Str->Option T):Prop:=∀x t,gl x=some t->∃v,g.mg x=some v/\IsT g g.base.get? t v
section
variable{g:Md}{tab:Str->Option Df}{gl:Str->Option T}
theorem Zx5{Y:Cx}{w:W}{k:Nat}{N ps:ZG}{sc:Scope}{C:Cs}(eY:Y.toMd=g)(es:Y.env.scope=sc)(eN:Y.N=N)(eo:Y.own=true)(ec:Y.calm=true)(hr:Rb k Y.A)(e1:w.C=C)(e2:w.gl=gl)(hx:Zz5 Y w)(S:Ml N ps sc)(bn:BN g)(fn:∀f as R Xe,C f as R Xe->FnP g C k f)(hg:wx g gl):Ct Y w k N sc.names:=by
 subst eY e1 e2;exact⟨eN,S.nd,fun y kd e=>.inl (by rw[es];exact e),fun _=>hr,(by have:=hr.un;omega),hr.gd,bn,fn,hg,hx,fun _ _=>eo,ec⟩
theorem tl{x:Str}{d:Df}{k:Nat}{C C':Cs}(F:Ut g x d)(bn:BN g)(fn:∀f as R Xe,C f as R Xe->FnP g C k f)(hg:wx g gl)(hC:∀as R Xe,C' x as R Xe->L0 d ⟨C,gl,fun e _=>Xe e⟩ as R):FnP g C' (k+1) x:=by
 obtain⟨st,a,fd,N,ps,Fn,hm,S,hn,ha,hrep,hb⟩:=F.ex;exact fn_of Fn hm S hn ha hb hC fun Y w eY es eN eo ec N6 Nl hr e1 e2 hx po=>(fy d.code w Y k N (Zf st) (Zx5 eY es eN eo ec hr e1 e2 hx S bn fn hg) (by rw[es]) po N6 Nl).2 _ hrep
theorem knot(bn:BN g)(ft:∀f d,tab f=some d->Ut g f d)(hg:wx g gl):∀n f as R Xe,Cn tab gl n f as R Xe->FnP g (Cn tab gl n) n f
 | 0,f,as,R,Xe,h=>h.elim
 | n+1,f,as,R,Xe,h=>by
  obtain⟨d,e,_⟩:=Z9 (show on (tab f) (fun d=>L0 d ⟨Cn tab gl n,gl,fun e _=>Xe e⟩ as R) from h)
  exact tl (ft f d e) bn (knot bn ft hg n) hg fun as R Xe h=>by
   obtain⟨d',e',h⟩:=Z9 (show on (tab f) (fun d=>L0 d ⟨Cn tab gl n,gl,fun e _=>Xe e⟩ as R) from h);rw[e]at e';cases e';exact h
noncomputable def Kj(g:Md)(A:Around)(s:Shared)(u:Value)(N:ZG)(x:Str)(sc:Scope)(f:Addr)(cd:Value):Cx where
 toMd:=g
 A:=A.deeper (envOfC x sc s.heap.objs.size f cd)
 N:=N
 env:=envOfC x sc s.heap.objs.size f cd
 outer:=[]
 stack:=[envOfC x sc s.heap.objs.size f cd]
 own:=true
 calm:=true
 os:=s.os
 G:=fun _=>none
 F0:=s.heap.get?
 σ0:=start N [u]
 pt:=fun _=>false
 xe:=fun _ _=>False
theorem i7{A:Around}{s s1:Shared}{u:Value}{t:T}{N:ZG}{x y:Str}{sc:Scope}{f:Addr}{cd:Value}(mod:Mod g)(hb:g.base=s.heap)(bare:AllBare s.gens)(hd:A.handled=none)(hf:A.frames=some [])(S:Ml N [y] sc)(it:IsT g s.heap.get? t u)
  (x1:InCallC s s.heap.objs.size (bindL (envOfC x sc s.heap.objs.size f cd).kindOf ([y].zip [u]) fun _=>none) (cellsFrom (s.heap.objs.size+1) sc.names []) (bindC (envOfC x sc s.heap.objs.size f cd).kindOf ([y].zip [u]) fun _=>none) s1) :
  Inv (Kj g A s u N x sc f cd) s.heap.get? (.f t::List.replicate (N.length - 1) .no) (start N [u]) s1:=by
 have hpl:1<=N.length:=by have:=congrArg List.length S.pre;rw[j7]at this;simp at this;omega
 obtain⟨h1,tk,rfl,hk⟩:=x1.done;have new:∀{b:Addr},s.heap.objs.size<=b->s.heap.get? b=none:=fun h=>Heap.get?_none_of_le h
 have nokp:∀{b:Addr} {o:Obj},s.heap.get? b=some o->¬ (Kj g A s u N x sc f cd).kp b:=fun {b o} e h=>by
  rcases h with h | rfl | ⟨_,y,h⟩
  .exact h rfl
  .exact absurd ((new (N4 _)).symm.trans (show s.heap.get? s.heap.objs.size=some o from e)) fun z=>nomatch z
  .rw[new (Nat.le_of_lt (x1.above y b (PySem.mem_of_lookup h)))]at e;cases e
 have no:∀{i:Nat} {q:Sl},(Sl.f t::List.replicate (N.length - 1) Sl.no)[i]?=some q->q≠.no->i=0/\q=.f t:=fun {i q} h n=>by
  cases i with
  | zero=>exact⟨rfl,(Nf h).symm⟩
  | succ i =>
   rw[List.getElem?_cons_succ,List.getElem?_replicate]at h
   split at h
   .cases h;exact absurd rfl n
   .cases h
 refine⟨⟨mod,S.kind,rfl,rfl,by show g.base.objs.size<=_;rw[hb];exact N4 _,fun y z c e1 e2=>name_of_addr x1.apart (PySem.mem_of_lookup e1) (PySem.mem_of_lookup e2),fun y hy=>?_,fun _=>hd,Around.frames_deeper hf,.inr ⟨rfl,rfl⟩,fun a o e=>(by show s.heap.get? a=some o;rw[<-hb];exact e),fun b hb=>absurd hb (by simp[A4,Kj]),fun a ma=>rfl,fun y c _=>.inl rfl⟩,
  rfl,bare,.refl _,fun a o e=>⟨hk a o e,nokp e⟩,(fun a o e=>nomatch e),trivial,⟨_,x1.toInCall.ns,fun i z v e1 e2=>?_⟩,fun y c e=>⟨_,x1.cell y c e⟩, ?_,⟨fun i t' e=>?_,fun i t' e=>?_,fun i j t' u' a e1 _ _ _=>?_, ?_⟩,fun _ h=>nomatch h⟩
 .have hy:sc.names.lookup y=some .cell\/sc.names.lookup y=some .free:=hy;rcases hy with hy | hy
  .exact Bo hy
  .exact absurd rfl (S.nofree _ (PySem.mem_of_lookup hy))
 .have hi:i < [u].length:=by
   refine Nat.lt_of_not_le fun z=>?_;have e2:(start N [u])[i]?=some (some v):=e2;unfold start at e2;rw[List.getElem?_append_right (by simpa using z),List.getElem?_replicate]at e2
   split at e2<;>cases e2
  have e2:(start N [u])[i]?=some (some v):=e2;rw[V7 hi]at e2;have hu:=Nf e2
  have hp:([y]:ZG)[i]?=some z:=by
   rw[<-S.pre,List.getElem?_take_of_lt (by exact hi)];exact e1
  have ndP:([y]:ZG).Nodup:=by simp
  rcases S.par z (List.mem_of_getElem? hp) with k | k
  .exact .inl ⟨k,T5 ndP hp hu k⟩
  .obtain⟨c,e⟩:=Bo (n:=s.heap.objs.size+1) k;refine .inr ⟨.inl k,c,e, ?_⟩;have q:=x1.cell z c e;rw[T6 ndP hp hu (by show sc.names.lookup z≠_;rw[k];decide)]at q;exact q
 .unfold start;show _=N.length;rw[Nb,Y9,List.length_replicate];simp;omega
 .obtain⟨rfl,z⟩:=no e fun z=>nomatch z;cases z;exact⟨u,rfl,it⟩
 .obtain⟨_,z⟩:=no e fun z=>nomatch z;cases z
 .obtain⟨_,z⟩:=no e1 fun z=>nomatch z;cases z
 .unfold start;rw[M5,Nb,Y9,List.length_replicate,List.length_replicate];simp;omega
theorem iv{n:Nat}{x:Str}{d:Df}{A:Around}{s:Shared}{fa:Addr}{t:T}{u:Value}(bn:BN g)(ft:∀f d,tab f=some d->Ut g f d)(hg:wx g gl)(mod:Mod g)(hb:g.base=s.heap)(bare:AllBare s.gens)(hr:Rb (n+1) A)(hf:A.frames=some [])(hm:g.mg x=some (.ref fa))(it:IsT g s.heap.get? t u)(e:tab x=some d)
  (law:Cn tab gl (n+1) x [.f t] (fun r=>r=(.f (.bl true),[])) fun _=>False) :
  codeAny (model g.prog g.w) A (.call (.ref fa) ⟨[u],[]⟩) (fun r s'=>r=.ok (.ret (.bool true))/\(∀b o,s.heap.get? b=some o->s'.heap.get? b=some o)/\s'.os=s.os/\AllBare s'.gens) s:=by
 obtain⟨d',e',law⟩:=Z9 (show on (tab x) (fun d=>L0 d ⟨Cn tab gl n,gl,fun e _=>False⟩ [.f t] fun r=>r=(.f (.bl true),[])) from law);rw[e]at e';cases e';obtain⟨st,a,fd,N,ps,Fn,Gu,S,hn,ha,hrep,hbi⟩:=(ft x d e).ex;rw[hm]at Gu;cases Gu;unfold L0 at law
 split at law
 rotate_left
 .exact law.elim
 rename_i har
 have har:1=d.ar:=har
 obtain⟨y,rfl⟩:∃y,ps=[y]:=by
  match ps,ha with
  | [y],_=>exact⟨y,rfl⟩
  | [],h=>rw[<-har]at h;cases h
  | _::_::_,h=>rw[<-har]at h;simp at h
 obtain⟨oc,od,kV,doc,pm,an,cdv,ct,osl,rfl,lk,jb⟩:=Fn.ex;have KX:g.K.In s.heap:=by rw[<-hb];exact mod.kin
 have lim:s.heap.NoLimit:=by rw[<-hb];exact mod.nolimit
 have bb:=hbi s [u] KX rfl;rw[ZE]at bb;refine codeAny_call_function (by have:=hr.dp;omega) (KX _ _ lk) rfl S.co S.gen rfl (W.codeRec_of KX jb) (bb _ _ _ _ ?_);refine wpAny_newFunctionEnv_cells S.kind (fun⟨n,v⟩ hy=>?_) fun env he s1 x1=>?_
 .rcases S.par n (List.of_mem_zip hy).1 with q | q
  .exact .inl q
  .exact .inr ⟨q,W.cellsFrom_some _ _ _ (.inl q)⟩
 subst he;refine⟨lim.keeps x1.toInCall.keep,codeAny_func ?_⟩;have I1:=i7 (x:=x) (f:=fa) (cd:=cdv) mod hb bare hr.hd hf S it x1;have c:Ct (Kj g A s u N x (Zf st) fa cdv) ⟨Cn tab gl n,gl,fun e _=>False⟩ n N (Zf st).names:=Zx5 rfl rfl rfl rfl rfl (hr.deeper _) rfl rfl (fun _ _ _ _ _ _ _ _ _ z=>z.elim) S bn (knot bn ft hg n) hg;have hN:d.n - d.ar=N.length - 1:=by omega
 rw[hN]at law
 have pt:Yv [Sl.f t]=fun _=>false:=by
  funext i
  unfold Yv
  match i with
  | 0=>rfl
  | i+1=>rfl
 rw[pt]at law;refine wpAny_mono ((fy d.code _ _ n N (Zf st) c rfl PassesOwn.never rfl rfl).2 _ hrep s.heap.get? _ _ s1 _ I1 law) (fun fl s' ⟨F',q,τ,l,J,fo⟩=>?_) fun _ _ z=>z.elim
 have fin:∀{r:Sl} {v:Value},Res (Kj g A s u N x (Zf st) fa cdv) F' q τ s'.heap r v->on (fin [.f t] r q) (fun r=>r=(.f (.bl true),[]))->v=.bool true/\(∀b o,s.heap.get? b=some o->s'.heap.get? b=some o)/\s'.os=s.os/\AllBare s'.gens:=fun {r v} rs h=>by
  obtain⟨z,e,h⟩:=Z9 h;obtain⟨ts,e2,rfl⟩:=Y7.mp e;cases h;have rs:Top g F' F' (.bl true) v:=rs;cases rs;exact⟨rfl,fun b o e=>(J.f b o (l b o e)).1,J.os,J.bare⟩
 cases fl with
 | ret v =>
  obtain⟨r,rs,h⟩:=fo;obtain⟨rfl,h⟩:=fin rs h;exact⟨rfl,h⟩
 | next =>
  obtain⟨z,_⟩:=fin (r:=.f .non) (v:=Value.none) Top.non fo;cases z
 | brk=>exact fo.elim
 | cont=>exact fo.elim
end
theorem ints_T{g:Md}{F:OM}{vs:ZK}{ns:ZT}(h:IntsAre vs ns):Zo g F (ns.map .int) vs:=by
 induction h with
 | nil=>exact .nil
 | cons z t r ih=>exact .cons .int ih
theorem walkE{l:W.OpenLaw}{q:Program}{loose:ZG}{XP:(ZJ)->Heap->Prop}{YP:World->Heap->Prop}{d:DefRec}{K:Params->W.Frag}{n:Nat}{df:Df}{tab:Str->Option Df}{gl:Str->Option T}(hn:l.most=some 63)(hdf:d.params.defaults=[])(hr:Rb (n+1) callerA)(hf:callerA.frames=some [])
  (hY:∀(w:World) (h:Heap),YP w h->(K w.params).In h) (e:tab d.name=some df)
  (F:∀(w:World) (mg:ZJ) (h:Heap),(K w.params).In h->h.Ns mainGlobals mg->BN ⟨l.prog,w,mg,K w.params,h⟩/\(∀f d,tab f=some d->Ut ⟨l.prog,w,mg,K w.params,h⟩ f d)/\wx ⟨l.prog,w,mg,K w.params,h⟩ gl)
  (law:∀zs:ZT,zs.length<=63->Cn tab gl (n+1) d.name [.f (.lst (zs.map .int))] (fun r=>r=(.f (.bl true),[])) fun _=>False) :
  W.WalkO q loose XP YP l.row.toRowW d [] (fun f vs=>PySem.call f vs):=by
 refine Att.K1 hn hdf fun w s₀ s₁ mg mb fa o pm cd doc a vs ns G Y ho hd jb hmg hobj hints hlen hg=>?_;have KX:=hY w _ Y;obtain⟨bn,ft,gk⟩:=F w mg _ KX G.T.g;have lv:=hints.length;refine codeAny_mono (iv (g:=⟨l.prog,w,mg,K w.params,s₁.heap⟩) (t:=.lst (ns.map .int)) bn ft gk ⟨KX,G.T.g,⟨mb,G.T.b,G.T.builtins⟩,G.T.nolimit⟩ rfl (.of_eq hg) hr hf hmg (.mkL hobj ⟨by rw[lv];exact U8 hlen (by decide),0,rfl⟩ (ints_T hints)) e (law ns hlen)) fun r s' ⟨h1,h2,h3,h4⟩=>⟨h1,.of_keep h2,h3,h4⟩
end PV
namespace L2
open PySem PySem.Spec PyProof.Rows
end L2
namespace PV
open PySem PySem.Spec PyProof.Rows L2
structure FA(K:W.Frag)(x:Str)(st:Stmt)(f:Addr)(fd:FuncData):Prop where
 a:W.nsIn K mainGlobals x=some (some (.ref f))
 F:Zc K x st f fd
noncomputable def chk(N:ZG)(d:Df)(st:Stmt):Bool :=
 (match (Zf st).kind with | .function=>true | _=>false) && (!(Zf st).isCoroutine && (!(Zf st).isGenerator && (decide N.Nodup && (decide (N.take (N.take d.ar).length=N.take d.ar) && (((N.take d.ar).all fun x=>decide ((Zf st).names.lookup x=some .local) || decide ((Zf st).names.lookup x=some .cell)) && (((Zf st).names.all fun y=>!decide (y.2=.free)) && (decide (N.length=d.n) && (decide ((N.take d.ar).length=d.ar) && (decide ((N.take d.ar).length<=N.length) && Mp N (Zf st) d.code (Us st))))))))))
theorem chk_of{N:ZG}{d:Df}{st:Stmt}(h:chk N d st=true):Ml N (N.take d.ar) (Zf st)/\N.length=d.n/\(N.take d.ar).length=d.ar/\(N.take d.ar).length<=N.length/\Mp N (Zf st) d.code (Us st)=true:=by
 unfold chk at h;simp only[Jx,decide_eq_true_eq]at h;obtain⟨h1,h2,h3,h4,h5,h6,h7,h8,h9,h10,h11⟩:=h;refine⟨⟨?_,by simpa using h2,by simpa using h3,h4,h5,fun x m=>?_,fun y m=>?_⟩,h8,h9,h10,h11⟩
 .split at h1
  .assumption
  .cases h1
 .have:=R5.mp h6 x m;simpa using this
 .have:=R5.mp h7 y m;simpa using this
theorem FA.fc{g:Md}{h:Heap}{x:Str}{st:Stmt}{f:Addr}{fd:FuncData}{d:Df}{N:ZG}(A:FA g.K x st f fd)(X:g.K.In h)(G:h.Ns mainGlobals g.mg)(hc:chk N d st=true)
  (hb:∀(kV doc pm:Value) (an:ZR) (cdv ct:Value) (us:ZK),us.length=(N.take d.ar).length->bindArgs (W.fnOf x x (Bh st) (Us st) (Zf st) .none kV doc pm an cdv ct) ⟨us,[]⟩=pure ((N.take d.ar).zip us)):Ut g x d :=
 let ⟨S,hn,ha,_,hr⟩:=chk_of hc
 ⟨⟨st,f,fd,N,N.take d.ar,A.F,W.mg_of X G A.a,S,hn,ha,hr,let ⟨_,_,kV,doc,pm,an,cdv,ct,_,e,_⟩:=A.F.ex;by subst e;exact .all (hb kV doc pm an cdv ct)⟩⟩
theorem FA.at{g:Md}{h:Heap}{x:Str}{st:Stmt}{f:Addr}{fd:FuncData}(A:FA g.K x st f fd)(X:g.K.In h)(G:h.Ns mainGlobals g.mg):∃a,g.mg x=some (.ref a)/\W.keepIn g.K (.ref a)=true:=⟨f,W.mg_of X G A.a,A.F.kp⟩
def FC(x:Str)(st:Stmt)(d:Df):Prop:=∀{g:Md} {h:Heap} {f:Addr} {fd:FuncData},g.K.In h->h.Ns mainGlobals g.mg->FA g.K x st f fd->Ut g x d
theorem tab_of{g:Md}{L:List (Str×Df)}(h:∀p∈L,Ut g p.1 p.2)(f:Str)(d:Df)(e:((L.find? fun p=>decide (p.1=f)).map (·.2))=some d):Ut g f d:=by
 obtain⟨p,hp,rfl⟩:=Y7.mp e;have t:=List.find?_some hp;have this:p.1=f:=Dk t;have q:=h p (List.mem_of_find?_eq_some hp);rw[this]at q;exact q
theorem usS{n:Nat}{us:ZK}(h:us.length=n+1):∃a r,us=a::r/\r.length=n:=by
 cases us with
 | nil=>cases h
 | cons a r=>exact⟨a,r,rfl,Nat.succ.inj h⟩
theorem us0{us:ZK}(h:us.length=0):us=[]:=List.eq_nil_of_length_eq_zero h
theorem B4{us:ZK}(h:us.length=1):∃a,us=[a]:=by
 obtain⟨a,r,rfl,g⟩:=usS h;cases us0 g;exact⟨a,rfl⟩
theorem Gf{us:ZK}(h:us.length=2):∃a b,us=[a,b]:=by
 obtain⟨a,r,rfl,g⟩:=usS h;obtain⟨b,rfl⟩:=B4 g;exact⟨a,b,rfl⟩
theorem O9{us:ZK}(h:us.length=3):∃a b c,us=[a,b,c]:=by
 obtain⟨a,r,rfl,g⟩:=usS h;obtain⟨b,c,rfl⟩:=Gf g;exact⟨a,b,c,rfl⟩
theorem wq{us:ZK}(h:us.length=4):∃a b c d,us=[a,b,c,d]:=by
 obtain⟨a,r,rfl,g⟩:=usS h;obtain⟨b,c,d,rfl⟩:=O9 g;exact⟨a,b,c,d,rfl⟩
theorem us5{us:ZK}(h:us.length=5):∃a b c d e,us=[a,b,c,d,e]:=by
 obtain⟨a,r,rfl,g⟩:=usS h;obtain⟨b,c,d,e,rfl⟩:=wq g;exact⟨a,b,c,d,e,rfl⟩
theorem us6{us:ZK}(h:us.length=6):∃a b c d e f,us=[a,b,c,d,e,f]:=by
 obtain⟨a,r,rfl,g⟩:=usS h;obtain⟨b,c,d,e,f,rfl⟩:=us5 g;exact⟨a,b,c,d,e,f,rfl⟩
noncomputable def X1:ZZ->ZK->Bool
 | [],[]=>true
 | .str x::ts,.str y _::vs=>x == y && X1 ts vs
 | _,_=>false
noncomputable def tupB(K:W.Frag)(q:Addr)(ts:ZZ):Bool:=match K.lookup q with
 | some ⟨.type c,none,.seq its _,_⟩=>c == "tuple" && (X1 ts its.toList && decide (its.size<=10))
 | _=>false
noncomputable def rg(K:W.Frag):T->Value->Bool
 | .int i,.int j _=>i == j
 | .str x,.str y _=>x == y
 | .tup ts,.ref q=>tupB K q ts
 | _,_=>false
noncomputable def cq(K:W.Frag):ZX->List DictEntry->Bool
 | [],[]=>true
 | (.inr x,t)::r,e::es=>e.key.isStr x && rg K t e.val && cq K r es
 | _,_=>false
section
variable{g:Md}
theorem Sg{F:OM}:∀{ts:ZZ} {vs:ZK},X1 ts vs=true->Zo g F ts vs
 | [],[],_=>.nil
 | [],_::_,e=>by cases e
 | .str x::ts,[],e=>by cases e
 | .str x::ts,v::vs,e=>by
  cases v with
  | str y t =>
   obtain⟨e1,e2⟩:=Hq.mp (show (x == y && X1 ts vs)=true from e);cases eq_of_beq e1;exact .cons .str (Sg e2)
  | _=>cases e
 | .int _::_,vs,e=>by cases vs<;>cases e
 | .bl _::_,vs,e=>by cases vs<;>cases e
 | .non::_,vs,e=>by cases vs<;>cases e
 | .tup _::_,vs,e=>by cases vs<;>cases e
 | .lst _::_,vs,e=>by cases vs<;>cases e
 | .dct _::_,vs,e=>by cases vs<;>cases e
 | .fn _::_,vs,e=>by cases vs<;>cases e
 | .exn _ _::_,vs,e=>by cases vs<;>cases e
theorem val_of{F:OM}(X:∀a o,g.K.lookup a=some o->F a=some o){t:T}{v:Value}(e:rg g.K t v=true):IsT g F t v:=by
 unfold rg at e
 split at e
 .cases eq_of_beq e;exact .int
 .cases eq_of_beq e;exact .str
 .unfold tupB at e
  split at e
  .rename_i c its n sl lk
   simp only[Jx,beq_iff_eq,decide_eq_true_eq]at e;obtain⟨rfl,e1,e2⟩:=e;refine .mkT (X _ _ lk) ⟨rfl,rfl,⟨n,rfl⟩, ?_⟩ (Sg e1);rw[x3];exact U8 e2 (by decide)
  .cases e
 .cases e
theorem cx{F:OM}(X:∀a o,g.K.lookup a=some o->F a=some o):∀{XY:ZX} {es:List DictEntry},cq g.K XY es=true->W.KeysLit g.w.params es->∃vs:List (Key×Value),Pairs (Zp g.prog g.w) es vs/\Yo g F XY vs/\vs.map (·.1)=XY.map (·.1)/\∀e∈es,∃k,(Zp g.prog g.w).is k e.key=true/\e.hash=(Zp g.prog g.w).hash k
 | [],[],_,_=>⟨[],.nil,.nil,rfl,fun e m=>absurd m J5⟩
 | [],_::_,e,_=>by cases e
 | (.inl _,_)::_,[],e,_=>by cases e
 | (.inr _,_)::_,[],e,_=>by cases e
 | (.inl _,_)::_,_::_,e,_=>by cases e
 | (.inr x,t)::r,e::es,h,⟨⟨y,tk,hy,hh⟩,kl⟩=>by
  have h:(e.key.isStr x && rg g.K t e.val && cq g.K r es)=true:=h;simp only[Jx]at h;obtain⟨⟨h1,h2⟩,h3⟩:=h;obtain⟨vs,p,a,ks,q⟩:=cx X h3 kl;rw[hy]at h1
  have exy:y=x:=by
   have:(Value.str y tk).isStr x=true:=h1;simpa [Value.isStr] using this
  subst exy;have is1:(Zp g.prog g.w).is (.inr y) e.key=true:=by rw[hy];exact Ck _ _ _ _
  refine⟨(.inr y,e.val)::vs,.cons is1 rfl p,.cons ⟨rfl,val_of X h2⟩ a,by rw[O5,O5,ks],fun e' m=>?_⟩;rcases Ya.mp m with rfl | m
  .exact⟨_,is1,hh⟩
  .exact q e' m
theorem sj{a:Addr}{x:Str}{es:Array DictEntry}{n:Nat}{XY:ZX}(X:g.K.In g.base)(G:g.base.Ns mainGlobals g.mg)(hx:W.nsIn g.K mainGlobals x=some (some (.ref a)))(l:g.K.lookup a=some ⟨.type "dict",none,.dict es n, #[]⟩)(k:W.KeysLit g.w.params es.toList)(na:(a == sysModules)=false)(e:cq g.K XY es.toList=true)(nd:(XY.map (·.1)).Nodup)(z:XY.length<=100):TopF g x XY:=by
 obtain⟨vs,p,ar,ks,q⟩:=cx (F:=g.base.get?) (fun b o h=>X b o h) e k;refine⟨a,vs,W.mg_of X G hx,⟨_,es,n,X _ _ l,⟨rfl,rfl,rfl⟩,rfl,fun e m=>q e (by simpa using m),p,by rw[ks];exact nd⟩,na, ?_,ar⟩;rw[<-ar.length];exact U8 z (by decide)
end
end PV
namespace PV
open PySem
abbrev Zt(a:E):E:=.cons a .nil
abbrev Zw(a b:E):E:=.cons a (.cons b .nil)
abbrev Vv(a b c:E):E:=.cons a (.cons b (.cons c .nil))
abbrev Mh(a b c d:E):E:=.cons a (.cons b (.cons c (.cons d .nil)))
abbrev ki(i:Int):E:=.k (.int i)
abbrev ks(x:Str):E:=.k (.str x)
abbrev Zx(a b:E):E:=.pr .ix (.cons a (.cons b .nil))
noncomputable abbrev Yk(a b:E):E:=.pr (.cm .eq) (.cons a (.cons b .nil))
abbrev U5(a b:E):E:=.pr (.op .add) (.cons a (.cons b .nil))
abbrev D9(a:E):E:=.pr .len (.cons a .nil)
abbrev Z0(a:S):S:=.seq a .nil
end PV
namespace PV
open PySem PySem.Spec PyProof.Rows L2
theorem zt{l:Type}{o:Option l}{Q Q':l->Prop}(h:on o Q)(q:∀x,Q x->Q' x):on o Q':=by
 obtain⟨a,e,h⟩:=Z9 h;rw[e];exact q a h
theorem Hn{body:T->P->(Option T->P->Prop)->Prop}(I:ZZ->ZZ->P->Prop)(st:∀x r acc p K,I (x::r) acc p->(∀y p',I r (acc++[y]) p'->K (some y) p')->(∀p',I r acc p'->K none p')->body x p K) :
  ∀(xs acc:ZZ) (p:P) (Q:ZZ->P->Prop),I xs acc p->(∀acc p,I [] acc p->Q acc p)->V4 body xs acc p Q
 | [],acc,p,Q,h,q=>q acc p h
 | x::r,acc,p,Q,h,q=>st x r acc p _ h (fun y p' h'=>Hn I st r (acc++[y]) p' Q h' q) fun p' h'=>Hn I st r acc p' Q h' q
theorem Xy{body:T->P->En->Prop}(I:ZZ->P->Prop)(B:P->Prop)(R:Sl->P->Prop)
  (st:∀x r p (D:En),I (x::r) p->(∀q,I r q->D.nx q)->(∀q,I r q->D.ct q)->(∀q,B q->D.bk q)->(∀s q,R s q->D.rt s q)->body x p D) :
  ∀(xs:ZZ) (p:P) (D:En),I xs p->(∀q,I [] q->D.nx q)->(∀q,B q->D.nx q)->(∀s q,R s q->D.rt s q)->Nt body xs p D
 | [],p,D,h,q,_,_=>q p h
 | x::r,p,D,h,q,b,t=>st x r p _ h (fun p' h'=>Xy I B R st r p' D h' q b t) (fun p' h'=>Xy I B R st r p' D h' q b t) b t
theorem Dp{body:T->P->En->Prop}{xs:ZZ}{p:P}{D:En}(I:ZZ->P->Prop)(h:I xs p)(st:∀x r p (D:En),I (x::r) p->(∀q,I r q->D.nx q)->(∀q,I r q->D.ct q)->body x p D)(q:∀q,I [] q->D.nx q):Nt body xs p D :=
 Xy I (fun _=>False) (fun _ _=>False) (fun x r p D h n c _ _=>st x r p D h n c) xs p D h q (fun _ z=>z.elim) fun _ _ z=>z.elim
theorem Vl{body:T->P->(Option T->P->Prop)->Prop}{xs:ZZ}{p:P}{Q:ZZ->P->Prop}(I:ZZ->ZZ->P->Prop)(h:I xs [] p)(st:∀x r acc p K,I (x::r) acc p->(∀y p',I r (acc++[y]) p'->K (some y) p')->(∀p',I r acc p'->K none p')->body x p K)(q:∀acc p,I [] acc p->Q acc p):V4 body xs [] p Q :=
 Hn I st xs [] p Q h q
theorem rq{test:P->(Bool->P->Prop)->Prop}{body:P->En->Prop}(I:Nat->P->Prop){D:En}
  (st:∀m p (K:Bool->P->Prop),I m p->(∀q,(∀D':En,(∀m' q',m'<m->I m' q'->D'.nx q')->(∀m' q',m'<m->I m' q'->D'.ct q')->(∀q',D.nx q'->D'.bk q')->(∀s q',D.rt s q'->D'.rt s q')->body q D')->K true q)->(∀q,D.nx q->K false q)->test p K) :
  ∀(m n:Nat) (p:P),m<n->I m p->wWh test body n p D:=by
 intro m
 induction m using Nat.strongRecOn with
 | ind m ih =>
  intro n p h i
  match n,h with
  | n+1,h =>
   refine st m p _ i (fun q g=>?_) fun q g=>?_
   .show if (true:Bool)=true then _ else _
    rw[if_pos rfl];exact g _ (fun m' q' l i'=>ih m' l n q' (by omega) i') (fun m' q' l i'=>ih m' l n q' (by omega) i') (fun _ z=>z) fun _ _ z=>z
   .show if (false:Bool)=true then _ else _
    rw[if_neg (fun z=>nomatch z)];exact g
def cN(c:(Sl×ZZ->Prop)->(x2->Prop)->Prop)(Q:Sl×ZZ->Prop):Prop:=∀(R:Sl×ZZ->Prop) (X:x2->Prop),(∀x,Q x->R x)->c R X
def wF(d:Df)(w:W)(as:List Sl)(Q:Sl×ZZ->Prop):Prop:=∀R:Sl×ZZ->Prop,(∀x,Q x->R x)->L0 d w as R
section
variable{c:(Sl×ZZ->Prop)->(x2->Prop)->Prop}{Q R:Sl×ZZ->Prop}{X Z:x2->Prop}
theorem Zz(h:cN c Q)(q:∀x,Q x->R x):cC c R X:=h R X q
theorem callW{tab:Str->Option Df}{gl:Str->Option T}{n:Nat}{f:Str}{as:List Sl}{d:Df}(e:tab f=some d)(h:∀xe,wF d ⟨Cn tab gl n,gl,xe⟩ as Q):cN (Cn tab gl (n+1) f as) Q:=fun R X q=>Z1 e (h _ R q)
theorem cN.mono{Q':Sl×ZZ->Prop}(h:cN c Q)(q:∀x,Q x->Q' x):cN c Q':=fun R X r=>h R X fun x hx=>r x (q x hx)
end
theorem Lb(a:Int):∀zs:ZT,Ja (.int a) (zs.map .int)=some (zs.any fun z=>decide (z=a))
 | []=>rfl
 | z::zs=>by
  show (Ja (.int a) (zs.map .int)).map (decide (z=a) || ·)=_;rw[Lb a zs];rfl
theorem xq(a:Int)(zs:ZT):inT (.int a) (.lst (zs.map .int))=some (zs.any fun z=>decide (z=a)):=Lb a zs
theorem N0(a:Str):∀zs:ZG,Ja (.str a) (zs.map .str)=some (zs.any fun z=>decide (z=a))
 | []=>rfl
 | z::zs=>by
  show (Ja (.str a) (zs.map .str)).map (decide (z=a) || ·)=_;rw[N0 a zs];rfl
theorem strs_map:∀ss:ZG,M7 (ss.map .str)=some ss
 | []=>rfl
 | s::ss=>by show (M7 (ss.map .str)).map (s::·)=_;rw[strs_map ss];rfl
theorem ints_map:∀ss:ZT,Gw (ss.map .int)=some ss
 | []=>rfl
 | s::ss=>by show (Gw (ss.map .int)).map (s::·)=_;rw[ints_map ss];rfl
theorem jk(s:Str)(ss:ZG):Gw ((s::ss).map .str)=none:=rfl
theorem srt_strs(ss:ZG)(h:ss.length<64):Ql (ss.map .str)=some ((SRT.Vr ss).map .str):=by
 unfold Ql;rw[if_pos (by rw[Y9];exact h)];cases ss with
 | nil=>rfl
 | cons s ss=>rw[jk,strs_map];rfl
theorem Lg{l:Type}{xs:List l}{i:Int}(h0:0<=i)(h1:i<xs.length):∃x,Ls xs i=some x/\xs[i.toNat]?=some x/\x∈xs:=by
 have hj:i.toNat<xs.length:=by omega
 refine⟨xs[i.toNat], ?_,Lh hj,G0e hj⟩;unfold Ls jq;rw[if_pos h0,if_pos h1];exact Lh hj
theorem ixP{ts:ZZ}{r:Int}{Q:Sl->Prop}(h0:0<=r)(h1:r<ts.length)(q:∀x,ts[r.toNat]?=some x->x∈ts->Q (.f x)):on ((Ek (.lst ts) (.int r)).map Sl.f) Q:=by
 obtain⟨x,hx,e,mx⟩:=Lg h0 h1;exact Z1 (a:=Sl.f x) (by show (Ls _ _).map _=_;rw[hx];rfl) (q x e mx)
theorem yp{n:Nat}{d:Nat}{i:Int}(h0:0<=i)(h1:i<=n):HT.Vc n d (some i)=i.toNat:=by
 obtain⟨k,rfl⟩:=Int.eq_ofNat_of_zero_le h0;rw[HT.Rl,XQ];omega
theorem Iy{ts:ZZ}{i:Int}(h0:0<=i)(h1:i<=ts.length):Yx ts none (some i)=ts.take i.toNat:=by
 unfold Yx;rw[yp h0 h1];show (ts.drop 0).take (i.toNat - 0)=_;simp
theorem Kw{ts:ZZ}{i:Int}(h0:0<=i)(h1:i<=ts.length):Yx ts (some i) none=ts.drop i.toNat:=by
 unfold Yx;rw[yp h0 h1];show (ts.drop i.toNat).take (ts.length - i.toNat)=_;rw[T0l (by rw[List.length_drop];omega)]
theorem ir{a:T}{l:ZZ}:(Ek (.tup (a::l)) (.int 0)).map Sl.f=some (.f a):=by
 show (Ls _ _).map _=_;unfold Ls jq;rw[if_pos (by omega),if_pos (by rw[M5];omega)]
 rfl
theorem ix_snd{a b:T}{l:ZZ}:(Ek (.tup (a::b::l)) (.int 1)).map Sl.f=some (.f b):=by
 show (Ls _ _).map _=_;unfold Ls jq;rw[if_pos (by omega),if_pos (by rw[M5,M5];omega)]
 rfl
theorem ixE{ts:ZZ}{r:Int}{x:T}(e:Ls ts r=some x):(Ek (.lst ts) (.int r)).map Sl.f=some (.f x):=by show (Ls ts r).map _=_;rw[e];rfl
theorem ixDE{XY:ZX}{k:Str}{x:T}(e:Zj XY (.inr k)=some x):(Ek (.dct XY) (.str k)).map Sl.f=some (.f x):=by show (Zj XY (.inr k)).map _=_;rw[e];rfl
theorem Pz{a:Int}{zs:ZT}{Q:Sl->Prop}(q:Q (.f (.bl (!(zs.any fun z=>decide (z=a)))))):on ((Dn .notin (.int a) (.lst (zs.map .int))).map fun r=>Sl.f (.bl r)) Q:=Z1 (by show ((inT _ _).map not).map _=_;rw[xq];rfl) q
theorem nh{zs:ZT}{a:Int}(h:(!(zs.any fun z=>decide (z=a)))=true):∀z∈zs,z≠a:=fun z m e=>by
 have:(zs.any fun z=>decide (z=a))=true:=ZO.mpr ⟨z,m,Jo e⟩;rw[this]at h;cases h
theorem ip{a:T}{l:ZZ}{Q:Sl->Prop}(q:Q (.f a)):on ((Ek (.tup (a::l)) (.int 0)).map Sl.f) Q:=Z1 ir q
theorem ixSn{a b:T}{l:ZZ}{Q:Sl->Prop}(q:Q (.f b)):on ((Ek (.tup (a::b::l)) (.int 1)).map Sl.f) Q:=Z1 ix_snd q
theorem Ts{ts:ZZ}{r:Int}{x:T}{Q:Sl->Prop}(e:Ls ts r=some x)(q:Q (.f x)):on ((Ek (.lst ts) (.int r)).map Sl.f) Q:=Z1 (ixE e) q
theorem Gj{XY:ZX}{k:Str}{x:T}{Q:Sl->Prop}(e:Zj XY (.inr k)=some x)(q:Q (.f x)):on ((Ek (.dct XY) (.str k)).map Sl.f) Q:=Z1 (ixDE e) q
theorem Zu{d:Df}{w:W}{as:List Sl}{Q:Sl×ZZ->Prop}(ha:as.length=d.ar)(h:∀D:En,(∀r p,on (fin as r p) Q->D.rt r p)->(∀p,on (fin as (.f .non) p) Q->D.nx p)->wS w (Yv as) d.code (as++List.replicate (d.n - d.ar) .no) D):wF d w as Q:=fun R k=>by
 unfold L0;rw[if_pos ha];exact h _ (fun _ _ z=>zt z k) fun _ z=>zt z k
theorem Du{ts us:ZZ}{Q:Sl->Prop}(e:Ql ts=some us)(q:Q (.o (.lst us))):on ((Ql ts).map fun us=>Sl.o (.lst us)) Q:=Z1 (by rw[e];rfl) q
theorem rngP{m:Int}{Q:ZZ->Prop}(h0:-1000000<=m)(h1:m<=1000000)(q:Q ((List.range m.toNat).map fun k=>T.int (k:Nat))):on (rngT (.int m)) Q:=by
 refine Z1 (a:=(List.range m.toNat).map fun k=>T.int (k:Nat)) ?_ q;show (if -1000000<=m/\m<=1000000 then some ((List.range m.toNat).map fun k=>T.int (k:Nat)) else none)=_;rw[if_pos ⟨h0,h1⟩]
theorem c9{b:Bool}{K:Bool->Prop}(h:b=true->K true)(h':b=false->K false):K b:=by
 cases b with
 | true=>exact h rfl
 | false=>exact h' rfl
theorem ifS{c:Prop}[Decidable c]{l:Type}{a:l}{o:Option l}{Q:l->Prop}(h:c)(q:Q a):on (if c then some a else o) Q:=by rw[if_pos h];exact q
theorem addLP{a b:ZZ}{Q:Sl->Prop}(h:a.length+b.length<=sizeLine)(q:Q (.o (.lst (a++b)))):on (ao .add (.lst a) (.lst b)) Q:=ifS h q
theorem Mq{a b:ZZ}{Q:Sl->Prop}(h:a.length+b.length<=sizeLine)(q:Q (.f (.tup (a++b)))):on (ao .add (.tup a) (.tup b)) Q:=ifS h q
theorem K5{a b:Str}{Q:Sl->Prop}(h:a.length+b.length<=sizeLine)(q:Q (.f (.str (a++b)))):on (ao .add (.str a) (.str b)) Q:=ifS h q
theorem whS{w:W}{pt:Nat->Bool}{c:E}{b r:S}{p:P}{D:En}(h:wWh (fun s K=>wE w c s fun r q=>Q5 r fun b=>K b q) (fun s D=>wS w pt b s D) 1000000 p ⟨fun q=>wS w pt r q D,D.rt,D.bk,D.ct⟩):wS w pt (.seq (.wh c b) r) p D:=h
theorem y7{p:P}{i:Nat}{t:T}(h:p[i]?=some (.o t)\/p[i]?=some (.f t)):read p i=some (t,p.set i (.f t)):=by
 rcases h with h | h
 .unfold read;rw[h]
 .have e:p.set i (.f t)=p:=by
   refine List.ext_getElem? fun j=>?_;by_cases z:i=j
   .subst z;rw[List.getElem?_set_self (wt.mp h).1,h]
   .rw[List.getElem?_set_ne z]
  unfold read;rw[h,e]
def OF(s:Sl)(t:T):Prop:=s=.o t\/s=.f t
theorem y8{p:P}{i:Nat}{s:Sl}{t:T}{Q:T×P->Prop}(h:OF s t)(e:p[i]?=some s)(q:Q (t,p.set i (.f t))):on (read p i) Q:=by
 refine Z1 (y7 ?_) q;rcases h with rfl | rfl
 .exact .inl e
 .exact .inr e
theorem Ze{body:T->P->(Option T->P->Prop)->Prop}{xs:ZZ}{p:P}{Q:ZZ->P->Prop}(g:T->T)(St:P->Prop)(h0:St p)(st:∀x∈xs,∀p K,St p->(∀p',St p'->K (some (g x)) p')->body x p K)(q:∀p,St p->Q (xs.map g) p):V4 body xs [] p Q:=by
 refine Vl (fun r acc p=>St p/\(∀x∈r,x∈xs)/\acc++r.map g=xs.map g) ⟨h0,fun _ m=>m,rfl⟩ (fun x r acc p K hi ky _=>?_) fun acc p hi=>?_
 .obtain⟨h1,h2,h3⟩:=hi;exact st x (h2 x Yb) p K h1 fun p' h'=>ky _ p' ⟨h',fun y m=>h2 y (Y5 _ m),by rw[ZI];exact h3⟩
 .obtain⟨h1,_,h3⟩:=hi;rw[List.map_nil,ZE]at h3;rw[h3];exact q p h1
theorem Lm(f:T->Bool):∀xs:ZZ,allB (xs.map fun x=>.bl (f x))=some (xs.map f)
 | []=>rfl
 | x::xs=>by show (allB (xs.map fun x=>.bl (f x))).map (f x::·)=_;rw[Lm f xs];rfl
theorem Rg{f:T->Bool}{xs:ZZ}{Q:Sl->Prop}(q:Q (.f (.bl (xs.all f)))):on ((allB (xs.map fun x=>.bl (f x))).map fun bs=>Sl.f (.bl (bs.all id))) Q:=Z1 (by rw[Lm];show some (Sl.f (.bl ((xs.map f).all id)))=_;rw[List.all_map];rfl) q
theorem anyP{f:T->Bool}{xs:ZZ}{Q:Sl->Prop}(q:Q (.f (.bl (xs.any f)))):on ((allB (xs.map fun x=>.bl (f x))).map fun bs=>Sl.f (.bl (bs.any id))) Q:=Z1 (by rw[Lm];show some (Sl.f (.bl ((xs.map f).any id)))=_;rw[List.any_map];rfl) q
def okK:Key->Prop
 | .inl i=>i.natAbs<=10 ^ 19
 | .inr x=>∀c∈x.cps.toList,c<16 ^ 8
def wtK:Key->Nat
 | .inl _=>70
 | .inr x=>x.length
mutual
def lh(n:Nat):T->Prop
 | .int i=>i.natAbs<=10 ^ 19
 | .str x=>∀c∈x.cps.toList,c<16 ^ 8
 | .tup ts=>ts.length<=n/\Wb n ts
 | .lst ts=>ts.length<=n/\Wb n ts
 | .dct XY=>Q6 n XY
 | .fn _=>False
 | .exn _ _=>False
 | .non=>True
 | .bl _=>True
def Wb(n:Nat):ZZ->Prop
 | []=>True
 | t::r=>lh n t/\Wb n r
def Q6(n:Nat):ZX->Prop
 | []=>True
 | (k,t)::r=>okK k/\lh n t/\Q6 n r
end
mutual
noncomputable def Hc:T->Nat
 | .int _=>70
 | .str x=>x.length
 | .tup ts=>Ht ts
 | .lst ts=>Ht ts
 | .dct XY=>x4 XY
 | .fn _=>0
 | .exn _ _=>0
 | .non=>0
 | .bl _=>0
noncomputable def Ht:ZZ->Nat
 | []=>0
 | t::r=>Hc t+1+Ht r
noncomputable def x4:ZX->Nat
 | []=>0
 | (k,t)::r=>wtK k+Hc t+2+x4 r
end
mutual
noncomputable def dpT:T->Nat
 | .tup ts=>jr ts+1
 | .lst ts=>jr ts+1
 | .dct XY=>cv XY+1
 | _=>0
noncomputable def jr:ZZ->Nat
 | []=>0
 | t::r=>max (dpT t) (jr r)
noncomputable def cv:ZX->Nat
 | []=>0
 | (_,t)::r=>max (dpT t) (cv r)
end
theorem Ro{i:Int}(h:i.natAbs<=10 ^ 19):(if i == 0 then 0 else i.natAbs.log2+1)<=70/\i.natAbs.log2<1920:=by
 have:i.natAbs.log2<64:=by
  by_cases z:i.natAbs=0
  .rw[z];decide
  .exact(Nat.log2_lt z).mpr (N0o h (by decide))
 exact⟨by split<;>omega,by omega⟩
theorem lenS(s:String):(Str.ofString s).length=s.toList.length:=by
 rw[Str.ofString_eq_toList];simp[Str.length]
theorem F6{i:Int}(h:i.natAbs<=10 ^ 19):(PyData.shown (.int i)).length<=30:=by
 show (Str.ofString (toString i)).length<=30;have hb:i.natAbs<10 ^ 20:=N0o h (by decide);rw[lenS];have hd:(Nat.toDigits 10 i.natAbs).length<=20:=(Nat.length_toDigits_le_iff (by decide) (by decide)).mpr hb;cases i with
 | ofNat n =>
  show (Nat.repr n).toList.length<=30;rw[Nat.toList_repr];exact U8 hd (by decide)
 | negSucc n =>
  show ("-" ++ Nat.repr (n+1)).toList.length<=30;rw[String.toList_append,Nb,Nat.toList_repr];have hd:(Nat.toDigits 10 (n+1)).length<=20:=hd;show 1+_<=30;omega
structure Shn(n:Nat)(t:T)(x:PyData):Prop where
 e:toPy t=some x
 s:x.showable=true
 l:x.leavesShort 30=true
 w:x.weight<=Hc t
 d:x.depth=dpT t
theorem ib{k:Key}(h:okK k):(X9 k).showable=true/\(X9 k).leavesShort 30=true/\(X9 k).weight<=wtK k/\(X9 k).depth=0:=by
 cases k with
 | inl i=>exact⟨Jo (Ro h).2,Jo (F6 h),(Ro h).1,rfl⟩
 | inr x=>exact⟨rfl,R5.mpr fun c m=>Jo (h c m),N4 _,rfl⟩
mutual
theorem Q7(n:Nat):∀t:T,lh n t->∃x,Shn n t x
 | .int i,h=>⟨.int i,rfl,Jo (Ro h).2,Jo (F6 h),(Ro h).1,rfl⟩
 | .str x,h=>⟨.str x,rfl,rfl,R5.mpr fun c m=>Jo (h c m),N4 _,rfl⟩
 | .non,_=>⟨.none,rfl,rfl,rfl,N4 _,rfl⟩
 | .bl b,_=>⟨.bool b,rfl,rfl,rfl,N4 _,rfl⟩
 | .fn _,h=>h.elim
 | .exn _ _,h=>h.elim
 | .tup ts,h=>by
  obtain⟨xs,a,b,c,d,e⟩:=Wf n ts h.2;exact⟨.tuple xs,by show (Jq ts).map _=_;rw[a];rfl,b,c,d,by show PyData.depthAll xs+1=_;rw[e];rfl⟩
 | .lst ts,h=>by
  obtain⟨xs,a,b,c,d,e⟩:=Wf n ts h.2;exact⟨.list xs,by show (Jq ts).map _=_;rw[a];rfl,b,c,d,by show PyData.depthAll xs+1=_;rw[e];rfl⟩
 | .dct XY,h=>by
  obtain⟨xs,a,b,c,d,e⟩:=S4 n XY h;exact⟨.dict xs,by show (M6 XY).map _=_;rw[a];rfl,b,c,d,by show PyData.depthKv xs+1=_;rw[e];rfl⟩
theorem Wf(n:Nat):∀ts:ZZ,Wb n ts->∃xs,Jq ts=some xs/\PyData.showableAll xs=true/\PyData.leavesShortAll 30 xs=true/\PyData.weightAll xs<=Ht ts/\PyData.depthAll xs=jr ts
 | [],_=>⟨[],rfl,rfl,rfl,N4 _,rfl⟩
 | t::ts,h=>by
  obtain⟨x,a1,b1,c1,d1,e1⟩:=Q7 n t h.1;obtain⟨xs,a,b,c,d,e⟩:=Wf n ts h.2;refine⟨x::xs,by show (toPy t).bind _=_;rw[a1];show (Jq ts).map _=_;rw[a];rfl,by show (x.showable && _)=true;rw[b1,b];rfl,by show (x.leavesShort 30 && _)=true;rw[c1,c];rfl, ?_, ?_⟩
  .show x.weight+1+PyData.weightAll xs<=Hc t+1+Ht ts;omega
  .show max x.depth (PyData.depthAll xs)=max (dpT t) (jr ts);rw[e1,e]
theorem S4(n:Nat):∀ts:ZX,Q6 n ts->∃xs,M6 ts=some xs/\PyData.showableKv xs=true/\PyData.leavesShortKv 30 xs=true/\PyData.weightKv xs<=x4 ts/\PyData.depthKv xs=cv ts
 | [],_=>⟨[],rfl,rfl,rfl,N4 _,rfl⟩
 | (k,t)::ts,h=>by
  obtain⟨x,a1,b1,c1,d1,e1⟩:=Q7 n t h.2.1;obtain⟨xs,a,b,c,d,e⟩:=S4 n ts h.2.2;obtain⟨k1,k2,k3,k4⟩:=ib h.1;refine⟨(X9 k,x)::xs,by show (toPy t).bind _=_;rw[a1];show (M6 ts).map _=_;rw[a];rfl,by show ((X9 k).showable && x.showable && _)=true;rw[k1,b1,b];rfl,by show ((X9 k).leavesShort 30 && x.leavesShort 30 && _)=true;rw[k2,c1,c];rfl, ?_, ?_⟩
  .show (X9 k).weight+x.weight+2+PyData.weightKv xs<=wtK k+Hc t+2+x4 ts;omega
  .show max (max (X9 k).depth x.depth) (PyData.depthKv xs)=max (dpT t) (cv ts);rw[e1,e,k4,Nat.zero_max]
end
theorem rpT_ok{n:Nat}{t:T}(h:lh n t)(hw:Hc t<=400000)(hd:dpT t<=100):∃z,rpT t=some z:=by
 obtain⟨x,e,s,l,w,d⟩:=Q7 n t h;have:=PyData.shown_le 30 (by decide) x l;refine⟨x.shown, ?_⟩;unfold rpT;rw[e];show (if _ then _ else _)=_;rw[if_pos ⟨s,by rw[sizeLine_eq];omega,by rw[d];exact hd⟩]
theorem Zzd{a:ZZ}{lo hi:ZC}{t:T}(m:t∈Yx a lo hi):t∈a:=List.mem_of_mem_drop (List.mem_of_mem_take m)
theorem Ig{ts:ZZ}{lo hi:ZC}:(Yx ts lo hi).length<=ts.length:=by
 unfold Yx;rw[j7,List.length_drop];omega
mutual
theorem lh.mono{n m:Nat}(h:n<=m):∀t:T,lh n t->lh m t
 | .int _,g=>g
 | .str _,g=>g
 | .non,g=>g
 | .bl _,g=>g
 | .fn _,g=>g
 | .exn _ _,g=>g
 | .tup ts,g=>⟨U8 g.1 h,Wb.mono h ts g.2⟩
 | .lst ts,g=>⟨U8 g.1 h,Wb.mono h ts g.2⟩
 | .dct ts,g=>Q6.mono h ts g
theorem Wb.mono{n m:Nat}(h:n<=m):∀t:ZZ,Wb n t->Wb m t
 | [],_=>trivial
 | t::ts,g=>⟨lh.mono h t g.1,Wb.mono h ts g.2⟩
theorem Q6.mono{n m:Nat}(h:n<=m):∀t:ZX,Q6 n t->Q6 m t
 | [],_=>trivial
 | (k,t)::ts,g=>⟨g.1,lh.mono h t g.2.1,Q6.mono h ts g.2.2⟩
end
end PV
namespace PV
open PySem PySem.Spec PyProof.Rows L2 SRT
theorem le_int{a b:Int}:(!decide (b<a))=decide (a<=b):=by
 by_cases h:a<=b
 .rw[Jo h,Mr (by omega)];rfl
 .rw[Mr h,Jo (by omega)];rfl
theorem cn(a b:Int):Dn .le (.int a) (.int b)=some (decide (a<=b)):=by
 show some (!decide (b<a))=_;rw[le_int]
theorem c2P{a b c:Int}{Q:Sl->Prop}(q:Q (.f (.bl (decide (a<=b) && decide (b<=c))))):on (Ww (.c2 .le .le) [.int a,.int b,.int c]) Q:=by
 refine Z1 ?_ q;show ((Dn .le (.int a) (.int b)).bind fun r=>if r=true then (Dn .le (.int b) (.int c)).map fun r=>Sl.f (.bl r) else some (Sl.f (.bl false)))=_;rw[cn,cn];show (if decide (a<=b)=true then some (Sl.f (.bl (decide (b<=c)))) else _)=_;by_cases h:a<=b
 .rw[Jo h];rfl
 .rw[Mr h];rfl
theorem ij{x:Str}{Q:Sl->Prop}(h:x.length<=sizeLine)(q:Q (.f (.int x.length))):on (Ww .len [.str x]) Q:=by
 have e:m4 (.str x)=some x.length:=if_pos h;refine Z1 ?_ q;show ((m4 (.str x)).bind fun a=>some (a:Int)).map (fun n=>Sl.f (.int n))=_;rw[e]
 rfl
theorem Zz9{x:Str}{Q:ZZ->Prop}(h:x.length<=sizeLine)(q:Q (x.cps.toList.map fun c=>.str ⟨#[c]⟩)):on (Fc (.str x)) Q:=Z1 (by show (if x.length<=sizeLine then some _ else none)=_;rw[if_pos h]) q
theorem glP{gl:Str->Option T}{x:Str}{t:T}{Q:T->Prop}(e:gl x=some t)(q:Q t):on (gl x) Q:=Z1 e q
theorem Bv{b:Bool}(h:(!b)=true):b=false:=by
 cases b with
 | true=>cases h
 | false=>rfl
theorem Yp{b:Bool}(h:(!b)=false):b=true:=by
 cases b with
 | true=>rfl
 | false=>cases h
end PV
namespace K42
open PySem PySem.Spec PyProof.Rows L2 PV
def Iu:S:=(Z0 (.ret (.and (.pr (.isi .int) (Zt (.v 0))) (.and (.not (.pr (.isi .bool) (Zt (.v 0)))) (.pr (.c2 .le .le) (Vv (.v 1) (.v 0) (.v 2)))))))
def G7:Df:=⟨3,3,Iu⟩
noncomputable def jo:S:=(Z0 (.ret (.and (.pr (.isi .str) (Zt (.v 0))) (.and (.pr (.cm .le) (Zw (D9 (.v 0)) (.v 1))) (.pr .all (Zt (.comp (.v 0) (.v 0) .nil (.pr (.cm .isin) (Zw (.v 0) (.g "SIGNS"))) [none] ["sign"])))))))
def Mb:Df:=⟨2,2,jo⟩
noncomputable def ji:S:=(.seq (.ite (.or (.not (.pr (.isi .str) (Zt (.v 0)))) (.not (.pr (.c2 .le .le) (Vv (ki 1) (D9 (.v 0)) (.g "LONGEST_NAME")))))
    (Z0 (.ret (.k (.bl false))))
    .nil)
   (.seq (.ret (.pr .all (Zt (.comp (.v 0) (.v 0) .nil (.pr (.cm .isin) (Zw (.v 0) (.g "LETTERS"))) [none] ["sign"]))))
   .nil))
def Ui:Df:=⟨1,1,ji⟩
noncomputable def Zzn:S:=(Z0 (.ret (.pr .all (Zt (.comp (.tup (Zw (.v 0) (.v 1))) (.itr .zip (Zw (.v 0) (.pr (.sl true false) (Zw (.v 0) (ki 1))))) .nil (.pr (.cm .lt) (Zw (.v 0) (.v 1))) [none,none] ["one","other"])))))
def R1:Df:=⟨1,1,Zzn⟩
noncomputable def Ki:S:=(Z0 (.ret (.and (.pr (.isi .tuple) (Zt (.v 0))) (.pr .all (Zt (.comp (.v 0) (.v 0) .nil (.and (.pr (.isi .tuple) (Zt (.v 0))) (Yk (D9 (.v 0)) (ki 2))) [none] ["pair"]))))))
def Vd:Df:=⟨1,1,Ki⟩
noncomputable def Ou:S:=(Z0 (.ret (.and (.pr .all (Zt (.comp (.v 0) (.v 0) .nil (.cal 1 (Zt (.v 0))) [none,some 1] ["thing","is_label"]))) (.call "rises" (Zt (.v 0))))))
def Uo:Df:=⟨2,2,Ou⟩
noncomputable def Be:S:=(.seq (.ite (Yk (Zx (.v 0) (ki 0)) (ks "whole"))
    (Z0 (.ret (.call "is_whole" (Vv (.v 1) (Zx (.v 0) (ki 1)) (Zx (.v 0) (ki 2))))))
    .nil)
   (.seq (.ite (Yk (Zx (.v 0) (ki 0)) (ks "truth"))
    (Z0 (.ret (.pr (.isi .bool) (Zt (.v 1)))))
    .nil)
   (.seq (.ret (.and (Yk (Zx (.v 0) (ki 0)) (ks "text")) (.call "is_text" (Zw (.v 1) (Zx (.v 0) (ki 1))))))
   .nil)))
def Y4:Df:=⟨2,2,Be⟩
def Ka:S:=(Z0 (.ret (.pr (.tix "ITEM_SORTS") (Zt (Zx (.v 0) (ki 0))))))
def Jp:Df:=⟨1,1,Ka⟩
noncomputable def Ko:S:=(Z0 (.ret (.ite (Yk (Zx (.v 0) (ki 0)) (ks "truth")) (.tup (Zw (ki 0) (ki 1))) (.tup (Zw (Zx (.v 0) (ki 1)) (Zx (.v 0) (ki 2)))))))
def Ju:Df:=⟨1,1,Ko⟩
noncomputable def Kk:S:=(.seq (.loop (.v 2) (Zx (.v 0) (ki 1))
    (Z0 (.ite (Yk (Zx (.v 2) (ki 0)) (.v 1))
    (Z0 (.ret (.mv 2)))
    .nil)))
   (.seq (.ret (.k .non))
   .nil))
def Jw:Df:=⟨3,2,Kk⟩
def Bi:S:=(Z0 (.ret (.pr (.cm .ne) (Zw (Zx (.v 0) (ki 3)) (.tup .nil)))))
def Y3:Df:=⟨1,1,Bi⟩
def j3:S:=(Z0 (.ret (.pr .get1 (Zw (Zx (.v 0) (ki 1)) (.v 1)))))
def Mc:Df:=⟨2,2,j3⟩
def je:S:=(Z0 (.ret (.and (.call "is_name" (Zt (.v 1))) (.pr (.cm .isin) (Zw (.v 1) (Zx (.v 0) (ki 1)))))))
def Mm:Df:=⟨2,2,je⟩
def Ia:S:=(Z0 (.ret (.call "is_right_through" (Mh (.v 0) (.v 1) (.v 2) (.k (.bl false))))))
def G8:Df:=⟨3,3,Ia⟩
noncomputable def Na:S:=(.seq (.set 4 (.lst (Zt (.tup (Zw (.v 1) (.v 2))))))
   (.seq (.wh (.io 4)
    (.seq (.set 5 (.mt .pop 4 .nil))
   (.seq (.set 6 (.call "parts_in" (Vv (.call "form_of" (Zw (.v 0) (Zx (.v 5) (ki 0)))) (Zx (.v 5) (ki 1)) (.v 3))))
   (.seq (.ite (.pr (.cm .is) (Zw (.v 6) (.k .non)))
    (Z0 (.ret (.k (.bl false))))
    .nil)
   (.seq (.ex (.mt .extend 4 (Zt (.v 6))))
   .nil)))))
   (.seq (.ret (.k (.bl true)))
   .nil)))
def Yn:Df:=⟨7,4,Na⟩
noncomputable def Ic:S:=(.seq (.set 3 (Zx (.v 0) (ki 0)))
   (.seq (.ite (Yk (.v 3) (ks "row"))
    (Z0 (.ret (.call "parts_in_row" (Zw (.v 0) (.v 1)))))
    .nil)
   (.seq (.ite (Yk (.v 3) (ks "map"))
    (Z0 (.ret (.call "parts_in_map" (Zw (.v 0) (.v 1)))))
    .nil)
   (.seq (.ite (Yk (.v 3) (ks "record"))
    (Z0 (.ret (.call "parts_in_record" (Vv (.v 0) (.v 1) (.v 2)))))
    .nil)
   (.seq (.ite (Yk (.v 3) (ks "choice"))
    (Z0 (.ret (.call "parts_in_choice" (Vv (.v 0) (.v 1) (.v 2)))))
    .nil)
   (.seq (.ret (.ite (.call "is_single_value" (Zw (.v 0) (.v 1))) (.lst .nil) (.k .non)))
   .nil))))))
def Ge:Df:=⟨4,3,Ic⟩
noncomputable def W9:S:=(.seq (.ite (.or (.not (.pr (.isi .tuple) (Zt (.v 1)))) (.pr (.cm .gt) (Zw (D9 (.v 1)) (Zx (.v 0) (ki 2)))))
    (Z0 (.ret (.k .non)))
    .nil)
   (.seq (.ret (.comp (.v 0) (.v 1) .nil (.tup (Zw (Zx (.v 1) (ki 1)) (.v 0))) [none,some 0] ["part","shape"]))
   .nil))
def Va:Df:=⟨2,2,W9⟩
noncomputable def Lz:S:=(.seq (.ite (.or (.not (.call "are_pairs" (Zt (.v 1)))) (.or (.pr (.cm .gt) (Zw (D9 (.v 1)) (Zx (.v 0) (ki 2)))) (.not (.call "are_labels" (Zw (.comp (.v 0) (.v 1) .nil (Zx (.v 0) (ki 0)) [none] ["pair"]) (.g "is_name"))))))
    (Z0 (.ret (.k .non)))
    .nil)
   (.seq (.ret (.comp (.v 0) (.v 1) .nil (.tup (Zw (Zx (.v 1) (ki 1)) (Zx (.v 0) (ki 1)))) [none,some 0] ["pair","shape"]))
   .nil))
def Vo:Df:=⟨2,2,Lz⟩
noncomputable def Fw:S:=(.seq (.ite (.not (.call "is_value" (Vv (.v 3) (.v 4) (.v 5))))
    (Z0 (.ret (.k (.bl false))))
    .nil)
   (.seq (.set 6 (.lst (Zt (.tup (Mh (.v 1) (.v 2) (.v 4) (.v 5))))))
   (.seq (.wh (.io 6)
    (.seq (.set 7 (.call "parts_of_both" (Vv (.v 0) (.v 3) (.mt .pop 6 .nil))))
   (.seq (.ite (.pr (.cm .is) (Zw (.v 7) (.k .non)))
    (Z0 (.ret (.k (.bl false))))
    .nil)
   (.seq (.ex (.mt .extend 6 (Zt (.v 7))))
   .nil))))
   (.seq (.ret (.k (.bl true)))
   .nil))))
def Uj:Df:=⟨8,6,Fw⟩
noncomputable def Rw:S:=(.seq (.set 3 (.call "form_of" (Zw (.v 0) (Zx (.v 2) (ki 0)))))
   (.seq (.set 4 (.call "form_of" (Zw (.v 1) (Zx (.v 2) (ki 2)))))
   (.seq (.set 5 (Zx (.v 2) (ki 1)))
   (.seq (.set 6 (Zx (.v 2) (ki 3)))
   (.seq (.set 7 (.call "item_sort" (Zt (.v 3))))
   (.seq (.ite (.pr (.cm .ne) (Zw (.call "item_sort" (Zt (.v 4))) (.v 7)))
    (Z0 (.ret (.k .non)))
    .nil)
   (.seq (.ite (Yk (.v 7) (ks "row"))
    (Z0 (.ret (.call "parts_of_rows" (Mh (.v 3) (.v 5) (.v 4) (.v 6)))))
    .nil)
   (.seq (.ite (Yk (.v 7) (ks "map"))
    (Z0 (.ret (.call "parts_of_maps" (Mh (.v 3) (.v 5) (.v 4) (.v 6)))))
    .nil)
   (.seq (.ite (Yk (.v 7) (ks "rec"))
    (Z0 (.ret (.call "parts_of_records" (.cons (.v 0) (.cons (.v 3) (.cons (.v 5) (.cons (.v 4) (.cons (.v 6) .nil))))))))
    .nil)
   (.seq (.ite (Yk (.v 7) (ks "arm"))
    (Z0 (.ret (.call "parts_of_choices" (.cons (.v 0) (.cons (.v 3) (.cons (.v 5) (.cons (.v 4) (.cons (.v 6) .nil))))))))
    .nil)
   (.seq (.ret (.ite (Yk (.v 5) (.v 6)) (.lst .nil) (.k .non)))
   .nil)))))))))))
def Vf:Df:=⟨8,3,Rw⟩
noncomputable def Rq:S:=(.seq (.ite (.pr (.cm .ne) (Zw (D9 (.v 1)) (D9 (.v 3))))
    (Z0 (.ret (.k .non)))
    .nil)
   (.seq (.ret (.comp (.tup (Zw (.v 0) (.v 1))) (.itr .zip (Zw (.v 1) (.v 3))) .nil (.tup (Mh (Zx (.v 2) (ki 1)) (.v 0) (Zx (.v 3) (ki 1)) (.v 1))) [none,none,some 0,some 2] ["part","other_part","shape","other_shape"]))
   .nil))
def Yw:Df:=⟨4,4,Rq⟩
noncomputable def Rj:S:=(.seq (.ite (.pr (.cm .ne) (Zw (.comp (.v 0) (.v 1) .nil (Zx (.v 0) (ki 0)) [none] ["pair"]) (.comp (.v 0) (.v 3) .nil (Zx (.v 0) (ki 0)) [none] ["pair"])))
    (Z0 (.ret (.k .non)))
    .nil)
   (.seq (.ret (.call "parts_of_rows" (Mh (.v 0) (.comp (.v 0) (.v 1) .nil (Zx (.v 0) (ki 1)) [none] ["pair"]) (.v 2) (.comp (.v 0) (.v 3) .nil (Zx (.v 0) (ki 1)) [none] ["pair"]))))
   .nil))
def Vg:Df:=⟨4,4,Rj⟩
noncomputable def Kg:S:=(.seq (.ite (.or (.not (.call "is_paper" (Vv (.v 0) (.v 1) (.v 2)))) (.not (.call "holds" (Vv (.v 2) (Zx (.v 0) (ki 0)) (Zx (.v 1) (ki 0))))))
    (Z0 (.ret (.k (.bl false))))
    .nil)
   (.seq (.ite (.not (.pr .all (Zt (.comp (.v 0) (Zx (.v 2) (ki 1)) .nil (.call "is_right_empty" (Vv (.v 1) (.v 2) (.v 0))) [none,some 0,some 2] ["name","make","paper"]))))
    (Z0 (.ret (.k (.bl false))))
    .nil)
   (.seq (.ret (.pr .all (Zt (.comp (.v 0) (Zx (.v 2) (ki 0)) .nil (.call "is_right_pair" (Mh (.v 1) (.v 2) (.v 3) (.v 0))) [none,some 0,some 1,some 2] ["pair","make","other","paper"]))))
   .nil)))
def Jv:Df:=⟨3,3,Kg⟩
noncomputable def Kf:S:=(Z0 (.ret (.and (.call "lets_read" (Vv (.v 0) (.v 1) (.v 2))) (.pr .all (Zt (.comp (.v 0) (Zx (.v 2) (ki 0)) .nil (.call "is_kept_pair" (Mh (.v 1) (.v 2) (.v 3) (.v 0))) [none,some 0,some 1,some 2] ["pair","make","other","paper"]))))))
def Jy:Df:=⟨3,3,Kf⟩
noncomputable def Io:S:=(.seq (.ite (.or (.not (.pr (.isi .tuple) (Zt (.v 2)))) (.or (.pr (.cm .ne) (Zw (D9 (.v 2)) (ki 2))) (.or (.not (.call "are_pairs" (Zt (Zx (.v 2) (ki 0))))) (.not (.pr (.isi .tuple) (Zt (Zx (.v 2) (ki 1))))))))
    (Z0 (.ret (.k (.bl false))))
    .nil)
   (.seq (.ite (.not (.pr .all (Zt (.comp (.tup (Zw (.v 0) (.v 1))) (Zx (.v 2) (ki 0)) .nil (.and (.call "is_form" (Zw (.v 2) (.v 0))) (.call "is_form" (Zw (.v 3) (.v 1)))) [none,none,some 0,some 1] ["w","r","make","other"]))))
    (Z0 (.ret (.k (.bl false))))
    .nil)
   (.seq (.ret (.pr .all (Zt (.comp (.v 0) (Zx (.v 2) (ki 1)) .nil (.call "is_form" (Zw (.v 1) (.v 0))) [none,some 0] ["name","make"]))))
   .nil)))
def G9:Df:=⟨3,3,Io⟩
noncomputable def Zzl:S:=(Z0 (.ret (.or (.pr (.cm .isin) (Zw (.tup (Zw (.v 1) (.v 2))) (Zx (.v 0) (ki 0)))) (.pr (.cm .isin) (Zw (.v 1) (Zx (.v 0) (ki 1)))))))
def R2:Df:=⟨3,3,Zzl⟩
noncomputable def T4:S:=(.seq (.set 3 (.call "form_of" (Zw (.v 0) (.v 2))))
   (.seq (.ite (Yk (Zx (.v 3) (ki 0)) (ks "record"))
    (Z0 (.ret (.pr .any (Zt (.comp (.v 0) (Zx (.v 3) (ki 1)) .nil (.and (.pr (.cm .isin) (Zw (Zx (.v 0) (ki 2)) (Zx (.v 1) (ki 1)))) (.not (.call "may_be_left_out" (Zt (.v 0))))) [none,some 1] ["field","paper"])))))
    .nil)
   (.seq (.ret (.and (Yk (Zx (.v 3) (ki 0)) (ks "choice")) (.pr .all (Zt (.comp (.v 0) (Zx (.v 3) (ki 1)) .nil (.pr (.cm .isin) (Zw (Zx (.v 0) (ki 2)) (Zx (.v 1) (ki 1)))) [none,some 1] ["arm","paper"])))))
   .nil)))
def Vw:Df:=⟨4,3,T4⟩
noncomputable def Ry:S:=(.seq (.set 4 (.call "form_of" (Zw (.v 0) (Zx (.v 3) (ki 0)))))
   (.seq (.set 5 (.call "form_of" (Zw (.v 1) (Zx (.v 3) (ki 1)))))
   (.seq (.set 6 (.call "item_sort" (Zt (.v 4))))
   (.seq (.ite (.pr (.cm .ne) (Zw (.call "item_sort" (Zt (.v 5))) (.v 6)))
    (Z0 (.ret (.k (.bl false))))
    .nil)
   (.seq (.ite (Yk (.v 6) (ks "whole"))
    (.seq (.set 7 (.call "bounds_of" (Zt (.v 4))))
   (.seq (.set 8 (.call "bounds_of" (Zt (.v 5))))
   (.seq (.ret (.and (.pr (.cm .le) (Zw (Zx (.v 8) (ki 0)) (Zx (.v 7) (ki 0)))) (.pr (.cm .le) (Zw (Zx (.v 7) (ki 1)) (Zx (.v 8) (ki 1))))))
   .nil)))
    .nil)
   (.seq (.ite (Yk (.v 6) (ks "text"))
    (Z0 (.ret (.pr (.cm .le) (Zw (Zx (.v 4) (ki 1)) (Zx (.v 5) (ki 1))))))
    .nil)
   (.seq (.ite (Yk (.v 6) (ks "rec"))
    (Z0 (.ret (.call "are_right_fields" (.cons (.v 0) (.cons (.v 1) (.cons (.v 2) (.cons (.v 4) (.cons (.v 5) .nil))))))))
    .nil)
   (.seq (.ite (Yk (.v 6) (ks "arm"))
    (Z0 (.ret (.pr .all (Zt (.comp (.v 0) (Zx (.v 4) (ki 1)) .nil (.call "is_right_arm" (Vv (.v 1) (.v 0) (.v 2))) [none,some 2,some 5] ["arm","paper","other_shape"])))))
    .nil)
   (.seq (.ite (.or (.pr (.cm .isin) (Zw (Zx (.v 4) (ki 1)) (Zx (.v 2) (ki 1)))) (Yk (Zx (.v 4) (ki 2)) (ki 0)))
    (Z0 (.ret (.k (.bl true))))
    .nil)
   (.seq (.ret (.and (.pr (.cm .le) (Zw (Zx (.v 4) (ki 2)) (Zx (.v 5) (ki 2)))) (.call "holds" (Vv (.v 2) (Zx (.v 4) (ki 1)) (Zx (.v 5) (ki 1))))))
   .nil))))))))))
def Vm:Df:=⟨9,4,Ry⟩
noncomputable def Ni:S:=(.seq (.ite (.not (.call "may_lack" (Zw (.v 3) (.v 4))))
    (Z0 (.ret (.k (.bl false))))
    .nil)
   (.seq (.loop (.v 5) (Zx (.v 3) (ki 1))
    (.seq (.set 6 (.call "member_of" (Zw (.v 4) (Zx (.v 5) (ki 0)))))
   (.seq (.ite (.pr (.cm .isnt) (Zw (.v 6) (.k .non)))
    (Z0 (.ite (.or (.not (.call "holds" (Vv (.v 2) (Zx (.v 5) (ki 2)) (Zx (.v 6) (ki 2))))) (.not (.call "are_left_out_alike" (Mh (.v 0) (.v 1) (.v 5) (.v 6)))))
    (Z0 (.ret (.k (.bl false))))
    .nil))
    .nil)
   .nil)))
   (.seq (.ret (.k (.bl true)))
   .nil)))
def Yr:Df:=⟨7,5,Ni⟩
noncomputable def Il:S:=(Z0 (.ret (.pr .all (Zt (.comp (.v 0) (Zx (.v 1) (ki 1)) .nil (.or (.call "may_be_left_out" (Zt (.v 0))) (.pr (.cm .isnt) (Zw (.call "member_of" (Zw (.v 1) (Zx (.v 0) (ki 0)))) (.k .non)))) [none,some 0] ["field","shape"])))))
def G0:Df:=⟨2,2,Il⟩
noncomputable def Mz:S:=(.seq (.ite (.not (.call "may_be_left_out" (Zt (.v 2))))
    (Z0 (.ret (.k (.bl true))))
    .nil)
   (.seq (.ite (.not (.call "may_be_left_out" (Zt (.v 3))))
    (Z0 (.ret (.k (.bl false))))
    .nil)
   (.seq (.ret (.call "tells_alike" (.cons (.v 0) (.cons (Zx (.v 2) (ki 2)) (.cons (Zx (Zx (.v 2) (ki 3)) (ki 0)) (.cons (.v 1) (.cons (Zx (.v 3) (ki 2)) (.cons (Zx (Zx (.v 3) (ki 3)) (ki 0)) .nil))))))))
   .nil)))
def Yy:Df:=⟨4,4,Mz⟩
noncomputable def Lw:S:=(.seq (.set 3 (.call "member_of" (Zw (.v 2) (Zx (.v 1) (ki 0)))))
   (.seq (.ite (.pr (.cm .is) (Zw (.v 3) (.k .non)))
    (Z0 (.ret (.or (.pr (.cm .isin) (Zw (Zx (.v 1) (ki 2)) (Zx (.v 0) (ki 1)))) (Zx (.v 2) (ki 3)))))
    .nil)
   (.seq (.ret (.call "holds" (Vv (.v 0) (Zx (.v 1) (ki 2)) (Zx (.v 3) (ki 2)))))
   .nil)))
def V0:Df:=⟨4,3,Lw⟩
noncomputable def Ly:S:=(.seq (.set 4 (.call "form_of" (Zw (.v 0) (Zx (.v 3) (ki 0)))))
   (.seq (.set 5 (.call "form_of" (Zw (.v 1) (Zx (.v 3) (ki 1)))))
   (.seq (.ite (.pr (.cm .ne) (Zw (Zx (.v 4) (ki 0)) (ks "record")))
    (Z0 (.ret (.k (.bl true))))
    .nil)
   (.seq (.ret (.pr .all (Zt (.comp (.v 0) (Zx (.v 4) (ki 1)) .nil (.call "is_kept_field" (Mh (.v 1) (.v 2) (.v 0) (.call "member_of" (Zw (.v 3) (Zx (.v 0) (ki 0)))))) [none,some 0,some 2,some 5] ["field","make","paper","other_shape"]))))
   .nil))))
def V1:Df:=⟨6,4,Ly⟩
noncomputable def Rk:S:=(.seq (.ite (.or (.pr (.cm .is) (Zw (.v 3) (.k .non))) (.or (.not (.call "may_go" (Zw (.v 2) (.v 3)))) (.pr (.cm .isin) (Zw (Zx (.v 2) (ki 2)) (Zx (.v 1) (ki 1))))))
    (Z0 (.ret (.k (.bl true))))
    .nil)
   (.seq (.ret (.pr (.cm .is) (Zw (.call "value_as" (Zw (.call "form_of" (Zw (.v 0) (Zx (.v 2) (ki 2)))) (Zx (Zx (.v 3) (ki 3)) (ki 0)))) (.k .non))))
   .nil))
def Yu:Df:=⟨4,4,Rk⟩
def c8:S:=(Z0 (.ret (.and (.call "may_be_left_out" (Zt (.v 1))) (.not (.call "may_be_left_out" (Zt (.v 0)))))))
def Bu:Df:=⟨2,2,c8⟩
noncomputable def W8:S:=(.seq (.set 2 (.call "item_sort" (Zt (.v 0))))
   (.seq (.ite (Yk (.v 2) (ks "whole"))
    (.seq (.set 3 (.call "bounds_of" (Zt (.v 0))))
   (.seq (.set 4 (.pr .int (Zt (.v 1))))
   (.seq (.ite (.not (.pr (.c2 .le .le) (Vv (Zx (.v 3) (ki 0)) (.v 4) (Zx (.v 3) (ki 1)))))
    (Z0 (.ret (.k .non)))
    .nil)
   (.seq (.ret (.ite (Yk (Zx (.v 0) (ki 0)) (ks "truth")) (Yk (.v 4) (ki 1)) (.v 4)))
   .nil))))
    .nil)
   (.seq (.ite (.and (Yk (.v 2) (ks "text")) (.pr (.cm .gt) (Zw (D9 (.v 1)) (Zx (.v 0) (ki 1)))))
    (Z0 (.ret (.k .non)))
    .nil)
   (.seq (.ret (.mv 1))
   .nil))))
def Gi:Df:=⟨5,2,W8⟩
def Ir:S:=(Z0 (.ret (.lst (Mh (.pr (.sl false true) (Zw (.v 0) (ki 63))) (ki 0) (ki 0) (ki 0)))))
def G3:Df:=⟨1,1,Ir⟩
noncomputable def Dz:S:=(.seq (.set 2 (Zx (.v 0) (ki 0)))
   (.seq (.set 3 (Zx (.v 0) (ki 1)))
   (.seq (.put 0 (ki 1) (U5 (.v 3) (ki 1)))
   (.seq (.wh (.and (Yk (Zx (.v 0) (ki 2)) (ki 0)) (.pr (.cm .lt) (Zw (Zx (.v 0) (ki 3)) (D9 (.v 2)))))
    (.seq (.ite (.pr (.cm .ge) (Zw (.pr .abs (Zt (Zx (.v 2) (Zx (.v 0) (ki 3))))) (.pr (.op .pow) (Zw (ki 10) (ki 18)))))
    (Z0 (.put 0 (ki 2) (.pr .abs (Zt (Zx (.v 2) (Zx (.v 0) (ki 3)))))))
    .nil)
   (.seq (.put 0 (ki 3) (U5 (Zx (.v 0) (ki 3)) (ki 1)))
   .nil)))
   (.seq (.ite (.pr (.cm .gt) (Zw (Zx (.v 0) (ki 2)) (ki 0)))
    (.seq (.set 4 (Zx (.v 0) (ki 2)))
   (.seq (.put 0 (ki 2) (.pr (.op .fdiv) (Zw (.v 4) (.v 1))))
   (.seq (.ret (.pr (.op .mod) (Zw (.v 4) (.v 1))))
   .nil)))
    .nil)
   (.seq (.set 5 (ki 0))
   (.seq (.ite (.pr (.cm .gt) (Zw (D9 (.v 2)) (ki 0)))
    (Z0 (.set 5 (Zx (.v 2) (.pr (.op .mod) (Zw (.v 3) (D9 (.v 2)))))))
    .nil)
   (.seq (.set 6 (.pr (.op .mod) (Zw (.pr (.op .mul) (Zw (U5 (.pr (.op .mod) (Zw (.v 5) (ki 1000003))) (ki 1)) (U5 (U5 (.pr (.op .mul) (Zw (.pr (.op .mod) (Zw (.v 3) (ki 997))) (ki 7919))) (ki 104729)) (.v 3)))) (ki 1000033))))
   (.seq (.set 6 (.pr (.op .mod) (Zw (U5 (U5 (.pr (.op .mul) (Zw (.v 6) (.v 6))) (.pr (.op .mul) (Zw (ki 3) (.v 6)))) (.v 3)) (ki 999983))))
   (.seq (.ret (.pr (.op .mod) (Zw (.pr (.op .mod) (Zw (.pr (.op .mul) (Zw (.v 6) (ki 48271))) (ki 65537))) (.v 1))))
   .nil))))))))))
def G5:Df:=⟨7,2,Dz⟩
noncomputable def Km:S:=(.seq (.ite (Yk (Zx (.v 0) (ki 0)) (ks "record"))
    (.seq (.set 2 (.comp (.v 0) (Zx (.v 0) (ki 1)) (Yk (Zx (.v 0) (ki 3)) (.tup .nil)) (.pr .get2 (Vv (.v 1) (Zx (.v 0) (ki 2)) (ki 0))) [none,some 1] ["_law_field","_law_prices_here"]))
   (.seq (.ret (.ite (.pr (.cm .isin) (Zw (ki 0) (.v 2))) (ki 0) (U5 (ki 1) (.pr .sum (Zt (.v 2))))))
   .nil))
    .nil)
   (.seq (.ite (Yk (Zx (.v 0) (ki 0)) (ks "choice"))
    (.seq (.set 2 (.comp (.v 0) (Zx (.v 0) (ki 1)) (.pr (.cm .isin) (Zw (Zx (.v 0) (ki 2)) (.v 1))) (Zx (.v 1) (Zx (.v 0) (ki 2))) [none,some 1] ["_law_arm","_law_prices_here"]))
   (.seq (.ret (.ite (Yk (.v 2) (.lst .nil)) (ki 0) (U5 (ki 1) (.pr .min (Zt (.v 2))))))
   .nil))
    .nil)
   (.seq (.ret (ki 1))
   .nil)))
def Jg:Df:=⟨3,2,Km⟩
noncomputable def Oc:S:=(.seq (.set 1 (.pr .dnew .nil))
   (.seq (.loop (.v 2) (.itr .rng (Zt (D9 (Zx (.v 0) (ki 1)))))
    (Z0 (.loop (.v 3) (.pr .sorted (Zt (Zx (.v 0) (ki 1))))
    (.seq (.set 4 (.call "_law_price" (Zw (Zx (Zx (.v 0) (ki 1)) (.v 3)) (.io 1))))
   (.seq (.ite (.pr (.cm .gt) (Zw (.v 4) (ki 0)))
    (Z0 (.put 1 (.v 3) (.pr .min (Zw (.v 4) (.pr .get2 (Vv (.v 1) (.v 3) (.v 4)))))))
    .nil)
   .nil)))))
   (.seq (.ret (.mv 1))
   .nil)))
def Uu:Df:=⟨5,1,Oc⟩
noncomputable def Cb:S:=(.seq (.ite (.pr (.cm .gt) (Zw (.tmp (.pr .max (Zt (U5 (.lst (Zt (ki 0))) (.pr .lvals (Zt (.call "_law_prices" (Zt (.tup (Zw (.v 0) (.v 1))))))))))) (ki 100)))
    (Z0 (.loop (.v 2) (.pr .sorted (Zt (.v 1)))
    (Z0 (.ite (Yk (Zx (Zx (.v 1) (.v 2)) (ki 0)) (ks "record"))
    (Z0 (.put 1 (.v 2) (.tup (Vv (ks "record") (.pr (.sl false true) (Zw (Zx (Zx (.v 1) (.v 2)) (ki 1)) (ki 1))) (Zx (Zx (.v 1) (.v 2)) (ki 2))))))
    .nil))))
    .nil)
   (.seq (.ret (.tup (Zw (.v 0) (.v 1))))
   .nil))
def Jt:Df:=⟨3,2,Cb⟩
noncomputable def Lq:S:=(Z0 (.ret (.pr (.join "") (Zt (.comp (.v 0) (.pr .str (Zt (.v 0))) .nil (Zx (ks "abcdefghij") (.pr .int (Zt (.v 0)))) [none] ["_law_sign"])))))
def U6:Df:=⟨1,1,Lq⟩
noncomputable def Kn:S:=(.seq (.set 1 (.lst (.cons (ks "a") (.cons (ks "ab") (.cons (ks "abc") (.cons (ks "form") (.cons (ks "row") (.cons (ks "text") (.cons (ks "must") (.cons (ks "none") (.cons (ks "b") (.cons (ks "map") .nil))))))))))))
   (.seq (.set 2 (.call "_law_draw" (Zw (.io 0) (ki 10))))
   (.seq (.ret (.comp (.v 0) (.itr .rng (Zt (ki 8))) .nil (Zx (.v 1) (.pr (.op .mod) (Zw (U5 (.v 2) (.v 0)) (ki 10)))) [none,some 1,some 2] ["_law_k","_law_pool","_law_turn"]))
   .nil)))
def Jm:Df:=⟨3,1,Kn⟩
noncomputable def Kt:S:=(.seq (.ite (Yk (.v 1) (ks "whole"))
    (.seq (.set 2 (Zx (.lst (.cons (ki 0) (.cons (ki 1) (.cons (.pr .neg (Zt (ki 2))) (.cons (ki 7) (.cons (.pr .neg (Zt (.pr (.op .pow) (Zw (ki 10) (ki 18))))) .nil)))))) (.call "_law_draw" (Zw (.io 0) (ki 5)))))
   (.seq (.ret (.tup (Vv (ks "whole") (.v 2) (.pr .min (Zw (.pr (.op .pow) (Zw (ki 10) (ki 18))) (U5 (.v 2) (Zx (.lst (Mh (ki 0) (ki 1) (ki 5) (.pr (.op .pow) (Zw (ki 10) (ki 18))))) (.call "_law_draw" (Zw (.io 0) (ki 4))))))))))
   .nil))
    .nil)
   (.seq (.ret (.ite (Yk (.v 1) (ks "text")) (.tup (Zw (.v 1) (Zx (.lst (Mh (ki 0) (ki 1) (ki 3) (ki 200))) (.call "_law_draw" (Zw (.io 0) (ki 4)))))) (.tup (Zt (.v 1)))))
   .nil))
def Jf:Df:=⟨3,2,Kt⟩
noncomputable def Fk:S:=(.seq (.ite (.or (.pr (.cm .isin) (Zw (Zx (.v 1) (ki 0)) (.tup (Zw (ks "record") (ks "choice"))))) (Yk (.call "_law_draw" (Zw (.io 0) (ki 2))) (ki 0)))
    (Z0 (.ret (.tup .nil)))
    .nil)
   (.seq (.ite (Yk (Zx (.v 1) (ki 0)) (ks "whole"))
    (Z0 (.ret (.tup (Zt (Zx (.v 1) (U5 (ki 1) (.call "_law_draw" (Zw (.io 0) (ki 2)))))))))
    .nil)
   (.seq (.ite (Yk (Zx (.v 1) (ki 0)) (ks "text"))
    (Z0 (.ret (.tup (Zt (.pr (.op .mul) (Zw (Zx (ks "ab") (.call "_law_draw" (Zw (.io 0) (ki 2)))) (.pr .min (Zw (Zx (.v 1) (ki 1)) (.call "_law_draw" (Zw (.io 0) (ki 3)))))))))))
    .nil)
   (.seq (.ret (.ite (Yk (Zx (.v 1) (ki 0)) (ks "truth")) (.tup (Zt (Yk (.call "_law_draw" (Zw (.io 0) (ki 2))) (ki 1)))) (.tup (Zt (.tup .nil)))))
   .nil))))
def Uy:Df:=⟨2,2,Fk⟩
noncomputable def Fv:S:=(.seq (.set 1 (.comp (.v 0) (.lst (.cons (ki 1) (.cons (ki 2) (.cons (ki 9) (.cons (ki 10) (.cons (ki 99) (.cons (ki 100) (.cons (ki 999) .nil)))))))) (Yk (.call "_law_draw" (Zw (.io 1) (ki 2))) (ki 0)) (.v 0) [none,some 0] ["_law_number","_law_tape_here"]))
   (.seq (.ret (.ite (Yk (.call "_law_draw" (Zw (.io 0) (ki 8))) (ki 0)) (.pr (.sl false true) (Zw (.v 1) (ki 8))) (.pr (.sl false true) (Zw (.v 1) (ki 3)))))
   .nil))
def Uw:Df:=⟨2,1,Fv⟩
noncomputable def Kc:S:=(.seq (.set 4 (.lst .nil))
   (.seq (.loop (.v 5) (.call "_law_numbers" (Zt (.io 0)))
    (.seq (.set 6 (Zx (.v 1) (.call "_law_draw" (Zw (.io 0) (D9 (.v 1))))))
   (.seq (.set 7 (.tup (Vv (.v 5) (U5 (Zx (.lst (Zw (ks "f") (ks "g"))) (.call "_law_draw" (Zw (.io 0) (ki 2)))) (.call "_law_word" (Zt (.v 5)))) (.v 6))))
   (.seq (.ite (Yk (.v 3) (ks "record"))
    (Z0 (.set 7 (U5 (.v 7) (.tup (Zt (.call "_law_default" (Zw (.io 0) (.pr .get2 (Vv (.v 2) (.v 6) (.pr .tup1 (Zt (.v 3))))))))))))
    .nil)
   (.seq (.ex (.mt .append 4 (Zt (.v 7))))
   .nil)))))
   (.seq (.ret (.pr .tuple (Zt (.v 4))))
   .nil)))
def Jb:Df:=⟨8,4,Kc⟩
noncomputable def Ot:S:=(.seq (.set 2 (.comp (.v 0) (.v 1) .nil (Zx (.v 0) (ki 0)) [none] ["_law_part"]))
   (.seq (.ret (.pr .tuple (Zt (.comp (.v 0) (.lst (Mh (ki 2) (ki 3) (ki 10) (ki 998))) (.and (.pr (.cm .notin) (Zw (.v 0) (.v 1))) (Yk (.call "_law_draw" (Zw (.io 2) (ki 4))) (ki 0))) (.v 0) [none,some 2,some 0] ["_law_number","_law_mine","_law_tape_here"]))))
   .nil))
def Up:Df:=⟨3,2,Ot⟩
noncomputable def Ih:S:=(.seq (.set 1 (.pr (.sl false true) (Zw (.call "_law_names" (Zt (.io 0))) (Zx (.lst (.cons (ki 1) (.cons (ki 2) (.cons (ki 3) (.cons (ki 3) (.cons (ki 4) (.cons (ki 5) (.cons (ki 6) (.cons (ki 8) .nil))))))))) (.call "_law_draw" (Zw (.io 0) (ki 8)))))))
   (.seq (.set 2 (.lst (.cons (ks "record") (.cons (ks "choice") (.cons (ks "row") (.cons (ks "whole") (.cons (ks "text") (.cons (ks "record") (.cons (ks "map") (.cons (ks "truth") (.cons (ks "choice") (.cons (ks "record") .nil))))))))))))
   (.seq (.set 3 (.comp (.v 0) (.v 1) .nil (Zx (.v 1) (.call "_law_draw" (Zw (.io 2) (ki 10)))) [none,some 2,some 0] ["_law_name","_law_sorts","_law_tape_here"]))
   (.seq (.set 4 (.pr .dnew .nil))
   (.seq (.loop (.tup (Zw (.v 5) (.v 6))) (.itr .zip (Zw (.v 1) (.v 3)))
    (.seq (.ite (.pr (.cm .isin) (Zw (.v 6) (.tup (Vv (ks "whole") (ks "truth") (ks "text")))))
    (Z0 (.put 4 (.v 5) (.call "_law_plain" (Zw (.io 0) (.v 6)))))
    .nil)
   (.seq (.ite (.pr (.cm .isin) (Zw (.v 6) (.tup (Zw (ks "row") (ks "map")))))
    (Z0 (.put 4 (.v 5) (.tup (Vv (.v 6) (Zx (.v 1) (.call "_law_draw" (Zw (.io 0) (D9 (.v 1))))) (Zx (.lst (Mh (ki 0) (ki 1) (ki 2) (ki 20))) (.call "_law_draw" (Zw (.io 0) (ki 4))))))))
    .nil)
   .nil)))
   (.seq (.set 7 (.pr .dict (Zt (.v 4))))
   (.seq (.loop (.tup (Zw (.v 5) (.v 6))) (.itr .zip (Zw (.v 1) (.v 3)))
    (.seq (.ite (.pr (.cm .isin) (Zw (.v 6) (.tup (Zw (ks "record") (ks "choice")))))
    (.seq (.set 8 (.call "_law_parts" (Mh (.io 0) (.v 1) (.v 4) (.v 6))))
   (.seq (.put 7 (.v 5) (.tup (Vv (.v 6) (.v 8) (.call "_law_struck" (Zw (.io 0) (.v 8))))))
   .nil))
    .nil)
   (.seq (.ite (Yk (.v 6) (ks "choice"))
    (Z0 (.put 7 (.v 5) (U5 (Zx (.v 7) (.v 5)) (.tup (Zt (Yk (.call "_law_draw" (Zw (.io 0) (ki 2))) (ki 1)))))))
    .nil)
   .nil)))
   (.seq (.ret (.call "_law_light" (Zw (Zx (.v 1) (.call "_law_draw" (Zw (.io 0) (D9 (.v 1))))) (.io 7))))
   .nil))))))))
def G4:Df:=⟨9,1,Ih⟩
noncomputable def M2:S:=(Z0 (.ret (.pr .max (Zw (.v 2) (.pr .min (Zw (.v 3) (U5 (.v 1) (Zx (.lst (Mh (ki 1) (.pr .neg (Zt (ki 1))) (ki 0) (ki 2))) (.call "_law_draw" (Zw (.io 0) (ki 4)))))))))))
def Yf:Df:=⟨4,4,M2⟩
noncomputable def Zk:S:=(.seq (.ite (Yk (Zx (.v 2) (ki 0)) (ks "whole"))
    (.seq (.set 3 (.comp (.v 0) (.pr (.sl true false) (Zw (.v 2) (ki 1))) .nil (.call "_law_number_turned" (Mh (.io 1) (.v 0) (.pr .neg (Zt (.pr (.op .pow) (Zw (ki 10) (ki 18))))) (.pr (.op .pow) (Zw (ki 10) (ki 18))))) [none,some 0] ["_law_number","_law_tape_here"]))
   (.seq (.ret (.tup (Vv (ks "whole") (.pr .min (Zt (.v 3))) (.pr .max (Zt (.v 3))))))
   .nil))
    .nil)
   (.seq (.ite (Yk (Zx (.v 2) (ki 0)) (ks "text"))
    (Z0 (.ret (.tup (Zw (ks "text") (.call "_law_number_turned" (Mh (.io 0) (Zx (.v 2) (ki 1)) (ki 0) (ki 200)))))))
    .nil)
   (.seq (.ite (Yk (Zx (.v 2) (ki 0)) (ks "truth"))
    (Z0 (.ret (Zx (.lst (Vv (.v 2) (.tup (Vv (ks "whole") (ki 0) (ki 1))) (.tup (Vv (ks "whole") (ki 0) (ki 2))))) (.call "_law_draw" (Zw (.io 0) (ki 3))))))
    .nil)
   (.seq (.ite (.pr (.cm .isin) (Zw (Zx (.v 2) (ki 0)) (.tup (Zw (ks "row") (ks "map")))))
    (.seq (.set 4 (Zx (.lst (Zw (Zx (.v 2) (ki 1)) (Zx (.v 1) (.call "_law_draw" (Zw (.io 0) (D9 (.v 1))))))) (.pr .int (Zt (Yk (.call "_law_draw" (Zw (.io 0) (ki 3))) (ki 0))))))
   (.seq (.ret (.tup (Vv (Zx (.v 2) (ki 0)) (.v 4) (.call "_law_number_turned" (Mh (.io 0) (Zx (.v 2) (ki 2)) (ki 0) (ki 20))))))
   .nil))
    .nil)
   (.seq (.set 5 (.pr .list (Zt (Zx (.v 2) (ki 1)))))
   (.seq (.set 6 (.call "_law_draw" (Zw (.io 0) (U5 (D9 (.v 5)) (ki 1)))))
   (.seq (.set 7 (.call "_law_draw" (Zw (.io 0) (ki 4))))
   (.seq (.ite (.and (Yk (.v 7) (ki 0)) (.pr (.cm .lt) (Zw (.v 6) (D9 (.v 5)))))
    (Z0 (.ex (.mt .popAt 5 (Zt (.v 6)))))
    (Z0 (.ite (.and (.pr (.cm .lt) (Zw (.v 7) (ki 3))) (.pr (.cm .lt) (Zw (.v 6) (D9 (.v 5)))))
    (.seq (.set 4 (Zx (.lst (Zw (Zx (Zx (.v 5) (.v 6)) (ki 2)) (Zx (.v 1) (.call "_law_draw" (Zw (.io 0) (D9 (.v 1))))))) (.pr .int (Zt (Yk (.call "_law_draw" (Zw (.io 0) (ki 3))) (ki 0))))))
   (.seq (.put 5 (.v 6) (U5 (.tup (Vv (Zx (Zx (.v 5) (.v 6)) (ki 0)) (U5 (ks "h") (.call "_law_word" (Zt (Zx (Zx (.v 5) (.v 6)) (ki 0))))) (.v 4))) (.pr (.sl true false) (Zw (Zx (.v 5) (.v 6)) (ki 3)))))
   (.seq (.ite (.and (Yk (Zx (.v 2) (ki 0)) (ks "record")) (Yk (.call "_law_draw" (Zw (.io 0) (ki 2))) (ki 0)))
    (.seq (.set 3 (Zx (.lst (Vv (.tup (Zt (ki 0))) (.tup (Zt (ki 9))) (.tup (Zt (.pr (.op .mul) (Zw (ks "b") (ki 9))))))) (.call "_law_draw" (Zw (.io 0) (ki 3)))))
   (.seq (.put 5 (.v 6) (U5 (.pr (.sl false true) (Zw (Zx (.v 5) (.v 6)) (ki 3))) (.tup (Zt (Zx (.lst (Zw (.tup .nil) (.v 3))) (.pr .int (Zt (Yk (Zx (Zx (.v 5) (.v 6)) (ki 3)) (.tup .nil)))))))))
   .nil))
    .nil)
   .nil)))
    (.seq (.set 8 (Zx (.lst (.cons (ki 1) (.cons (ki 2) (.cons (ki 3) (.cons (ki 9) (.cons (ki 10) (.cons (ki 500) .nil))))))) (.call "_law_draw" (Zw (.io 0) (ki 6)))))
   (.seq (.set 9 (.tup (Vv (.v 8) (U5 (ks "k") (.call "_law_word" (Zt (.v 8)))) (Zx (.v 1) (.call "_law_draw" (Zw (.io 0) (D9 (.v 1))))))))
   (.seq (.ite (Yk (Zx (.v 2) (ki 0)) (ks "record"))
    (Z0 (.set 9 (U5 (.v 9) (.tup (Zt (Zx (.lst (Zw (.tup .nil) (.tup (Zt (ki 0))))) (.call "_law_draw" (Zw (.io 0) (ki 2)))))))))
    .nil)
   (.seq (.ite (.and (.tmB (.pr (.cm .notin) (Zw (.v 8) (.comp (.v 0) (.v 5) .nil (Zx (.v 0) (ki 0)) [none] ["_law_part"])))) (.pr (.cm .lt) (Zw (D9 (.v 5)) (ki 8))))
    (Z0 (.ex (.mt .append 5 (Zt (.v 9)))))
    .nil)
   .nil)))))))
   (.seq (.set 10 (.comp (.v 0) (.v 5) .nil (Zx (.v 0) (ki 0)) [none] ["_law_part"]))
   (.seq (.set 11 (.pr .tuple (Zt (.comp (.v 0) (Zx (.v 2) (ki 2)) (.pr (.cm .notin) (Zw (.v 0) (.v 1))) (.v 0) [none,some 10] ["_law_number","_law_mine"]))))
   (.seq (.set 12 (.tup (Vv (Zx (.v 2) (ki 0)) (.pr .tuple (Zt (.pr .srtP (Zt (.v 5))))) (.v 11))))
   (.seq (.ret (.ite (Yk (Zx (.v 2) (ki 0)) (ks "record")) (.v 12) (U5 (.v 12) (.tup (Zt (.pr (.cm .ne) (Zw (Zx (.v 2) (ki 3)) (Yk (.call "_law_draw" (Zw (.io 0) (ki 3))) (ki 0)))))))))
   .nil))))))))))))
def Yt:Df:=⟨13,3,Zk⟩
noncomputable def Kh:S:=(.seq (.ite (.pr (.cm .ne) (Zw (Zx (.v 1) (ki 0)) (ks "record")))
    (Z0 (.ret (.mv 1)))
    .nil)
   (.seq (.set 2 (.lst .nil))
   (.seq (.loop (.tup (Mh (.v 3) (.v 4) (.v 5) (.v 6))) (Zx (.v 1) (ki 1))
    (.seq (.set 7 (Zx (.v 0) (.v 5)))
   (.seq (.ite (.pr (.cm .isin) (Zw (Zx (.v 7) (ki 0)) (.tup (Zw (ks "record") (ks "choice")))))
    (Z0 (.set 6 (.tup .nil)))
    .nil)
   (.seq (.ite (.and (.pr (.cm .ne) (Zw (.v 6) (.tup .nil))) (Yk (Zx (.v 7) (ki 0)) (ks "whole")))
    (Z0 (.set 6 (.tup (Zt (U5 (.pr .max (Zw (Zx (.v 7) (ki 1)) (.pr .min (Zw (Zx (.v 7) (ki 2)) (.ite (.pr (.isi .int) (Zt (Zx (.v 6) (ki 0)))) (Zx (.v 6) (ki 0)) (ki 0)))))) (ki 0))))))
    .nil)
   (.seq (.ite (.and (.pr (.cm .ne) (Zw (.v 6) (.tup .nil))) (Yk (Zx (.v 7) (ki 0)) (ks "truth")))
    (Z0 (.set 6 (.tup (Zt (Yk (Zx (.v 6) (ki 0)) (ki 1))))))
    .nil)
   (.seq (.ite (.and (.pr (.cm .ne) (Zw (.v 6) (.tup .nil))) (Yk (Zx (.v 7) (ki 0)) (ks "text")))
    (Z0 (.set 6 (.tup (Zt (.pr (.sl false true) (Zw (.ite (.pr (.isi .str) (Zt (Zx (.v 6) (ki 0)))) (Zx (.v 6) (ki 0)) (ks "")) (Zx (.v 7) (ki 1))))))))
    .nil)
   (.seq (.ite (.and (.pr (.cm .ne) (Zw (.v 6) (.tup .nil))) (.pr (.cm .isin) (Zw (Zx (.v 7) (ki 0)) (.tup (Zw (ks "row") (ks "map"))))))
    (Z0 (.set 6 (.tup (Zt (.tup .nil)))))
    .nil)
   (.seq (.ex (.mt .append 2 (Zt (.tup (Mh (.v 3) (.v 4) (.v 5) (.v 6))))))
   .nil))))))))
   (.seq (.ret (.tup (Vv (ks "record") (.pr .tuple (Zt (.v 2))) (Zx (.v 1) (ki 2)))))
   .nil))))
def Jl:Df:=⟨8,2,Kh⟩
noncomputable def Od:S:=(.seq (.set 2 (.pr .sorted (Zt (Zx (.v 1) (ki 1)))))
   (.seq (.set 3 (.pr .dict (Zt (Zx (.v 1) (ki 1)))))
   (.seq (.loop (.v 4) (.itr .rng (Zt (Zx (.lst (.cons (ki 0) (.cons (ki 1) (.cons (ki 2) (.cons (ki 3) (.cons (ki 6) (.cons (ki 12) .nil))))))) (.call "_law_draw" (Zw (.io 0) (ki 6))))))
    (.seq (.set 5 (Zx (.v 2) (.call "_law_draw" (Zw (.io 0) (D9 (.v 2))))))
   (.seq (.put 3 (.v 5) (.call "_law_shape_turned" (Vv (.io 0) (.v 2) (Zx (.v 3) (.v 5)))))
   .nil)))
   (.seq (.loop (.v 5) (.v 2)
    (Z0 (.put 3 (.v 5) (.call "_law_fixed" (Zw (.io 3) (Zx (.v 3) (.v 5)))))))
   (.seq (.ret (.call "_law_light" (Zw (Zx (.v 1) (ki 0)) (.io 3))))
   .nil)))))
def Uh:Df:=⟨6,2,Od⟩
noncomputable def Oh:S:=(Z0 (.ret (.pr .get2 (Vv (.pr .dct2 (Mh (ks "truth") (.tup (Zw (ki 0) (ki 1))) (ks "whole") (.pr (.sl true false) (Zw (.v 0) (ki 1))))) (Zx (.v 0) (ki 0)) (.tup .nil)))))
def Ve:Df:=⟨1,1,Oh⟩
def Kr:S:=(Z0 (.ret (.or (.pr (.cm .isin) (Zw (.tup (Zw (.v 1) (.v 2))) (Zx (.v 0) (ki 0)))) (.pr (.cm .isin) (Zw (.v 1) (Zx (.v 0) (ki 1)))))))
def Jc:Df:=⟨3,3,Kr⟩
noncomputable def Cr:S:=(.seq (.ite (.pr (.cm .notin) (Zw (.tup .nil) (.comp (.v 0) (.v 0) .nil (.call "_law_bounds" (Zt (.v 0))) [none] ["_law_shape"])))
    (Z0 (.ret (Yk (.pr .int (Zt (.v 1))) (.pr .int (Zt (.v 2))))))
    .nil)
   (.seq (.ret (.and (Yk (Zx (Zx (.v 0) (ki 0)) (ki 0)) (Zx (Zx (.v 0) (ki 1)) (ki 0))) (Yk (.v 1) (.v 2))))
   .nil))
def Jh:Df:=⟨3,3,Cr⟩
noncomputable def Nu:S:=(.seq (.set 5 (.pr .dict (Zt (.comp (.v 0) (Zx (.v 3) (ki 1)) .nil (.tup (Zw (Zx (.v 0) (ki 0)) (.v 0))) [none] ["_law_field"]))))
   (.seq (.loop (.tup (Mh (.v 6) (.v 7) (.v 8) (.v 9))) (Zx (.v 4) (ki 1))
    (Z0 (.ite (.pr (.cm .notin) (Zw (.v 6) (.v 5)))
    (Z0 (.ite (Yk (.v 9) (.tup .nil))
    (Z0 (.ret (.k (.bl false))))
    .nil))
    (.seq (.unp (.tup (Zw (.v 10) (.v 11))) (.pr (.sl true false) (Zw (Zx (.v 5) (.v 6)) (ki 2))))
   (.seq (.ite (.or (.not (.call "_law_holds" (Vv (.v 2) (.v 10) (.v 8)))) (.and (.pr (.cm .ne) (Zw (.v 11) (.tup .nil))) (Yk (.v 9) (.tup .nil))))
    (Z0 (.ret (.k (.bl false))))
    .nil)
   (.seq (.set 12 (.tup (Zw (Zx (Zx (.v 0) (ki 1)) (.v 10)) (Zx (Zx (.v 1) (ki 1)) (.v 8)))))
   (.seq (.ite (.and (.pr (.cm .ne) (Zw (.v 11) (.tup .nil))) (.not (.call "_law_alike" (Vv (.v 12) (Zx (.v 11) (ki 0)) (Zx (.v 9) (ki 0))))))
    (Z0 (.ret (.k (.bl false))))
    .nil)
   .nil)))))))
   (.seq (.ret (.k (.bl true)))
   .nil)))
def Yc:Df:=⟨13,5,Nu⟩
noncomputable def Za:S:=(.seq (.set 5 (Zx (Zx (.v 0) (ki 1)) (.v 3)))
   (.seq (.set 6 (Zx (Zx (.v 1) (ki 1)) (.v 4)))
   (.seq (.set 7 (.lst (Zw (.call "_law_bounds" (Zt (.v 5))) (.call "_law_bounds" (Zt (.v 6))))))
   (.seq (.ite (.pr (.cm .notin) (Zw (.tup .nil) (.v 7)))
    (Z0 (.ret (.and (.pr (.cm .le) (Zw (Zx (Zx (.v 7) (ki 1)) (ki 0)) (Zx (Zx (.v 7) (ki 0)) (ki 0)))) (.pr (.cm .le) (Zw (Zx (Zx (.v 7) (ki 0)) (ki 1)) (Zx (Zx (.v 7) (ki 1)) (ki 1)))))))
    .nil)
   (.seq (.ite (.pr (.cm .ne) (Zw (Zx (.v 5) (ki 0)) (Zx (.v 6) (ki 0))))
    (Z0 (.ret (.k (.bl false))))
    .nil)
   (.seq (.ite (Yk (Zx (.v 5) (ki 0)) (ks "text"))
    (Z0 (.ret (.pr (.cm .le) (Zw (Zx (.v 5) (ki 1)) (Zx (.v 6) (ki 1))))))
    .nil)
   (.seq (.ite (.pr (.cm .isin) (Zw (Zx (.v 5) (ki 0)) (.tup (Zw (ks "row") (ks "map")))))
    (.seq (.set 8 (.and (.pr (.cm .le) (Zw (Zx (.v 5) (ki 2)) (Zx (.v 6) (ki 2)))) (.call "_law_holds" (Vv (.v 2) (Zx (.v 5) (ki 1)) (Zx (.v 6) (ki 1))))))
   (.seq (.ret (.or (.pr (.cm .isin) (Zw (Zx (.v 5) (ki 1)) (Zx (.v 2) (ki 1)))) (.or (Yk (Zx (.v 5) (ki 2)) (ki 0)) (.v 8))))
   .nil))
    .nil)
   (.seq (.ite (Yk (Zx (.v 5) (ki 0)) (ks "record"))
    (Z0 (.ret (.call "_law_fields_right" (.cons (.v 0) (.cons (.v 1) (.cons (.v 2) (.cons (.v 5) (.cons (.v 6) .nil))))))))
    .nil)
   (.seq (.set 9 (.pr .dict (Zt (.comp (.v 0) (Zx (.v 6) (ki 1)) .nil (.pr .sl2 (Zt (.v 0))) [none] ["_law_arm"]))))
   (.seq (.loop (.tup (Vv (.v 10) (.v 11) (.v 12))) (Zx (.v 5) (ki 1))
    (.seq (.set 8 (.ite (.pr (.cm .isin) (Zw (.v 10) (.v 9))) (.call "_law_holds" (Vv (.v 2) (.v 12) (Zx (.v 9) (.v 10)))) (Zx (.v 6) (ki 3))))
   (.seq (.ite (.and (.pr (.cm .notin) (Zw (.v 12) (Zx (.v 2) (ki 1)))) (.not (.v 8)))
    (Z0 (.ret (.k (.bl false))))
    .nil)
   .nil)))
   (.seq (.ret (.k (.bl true)))
   .nil)))))))))))
def Vj:Df:=⟨13,5,Za⟩
noncomputable def Cd:S:=(.seq (.ite (.pr (.cm .ne) (Zw (.call "_law_bounds" (Zt (.v 0))) (.tup .nil)))
    (.seq (.unp (.tup (Zw (.v 2) (.v 3))) (.call "_law_bounds" (Zt (.v 0))))
   (.seq (.ret (.and (.pr (.isi .int) (Zt (.v 1))) (.pr (.c2 .le .le) (Vv (.v 2) (.pr .int (Zt (.v 1))) (.v 3)))))
   .nil))
    .nil)
   (.seq (.ite (Yk (Zx (.v 0) (ki 0)) (ks "text"))
    (Z0 (.ret (.and (.pr (.isi .str) (Zt (.v 1))) (.pr (.cm .le) (Zw (D9 (.v 1)) (Zx (.v 0) (ki 1)))))))
    .nil)
   (.seq (.ret (.and (.pr (.cm .isin) (Zw (Zx (.v 0) (ki 0)) (.tup (Zw (ks "row") (ks "map"))))) (Yk (.v 1) (.tup .nil))))
   .nil)))
def Jr:Df:=⟨4,2,Cd⟩
noncomputable def Rv:S:=(.seq (.set 5 (Zx (Zx (.v 0) (ki 1)) (.v 3)))
   (.seq (.set 6 (Zx (Zx (.v 1) (ki 1)) (.v 4)))
   (.seq (.ite (.or (.pr (.cm .ne) (Zw (Zx (.v 5) (ki 0)) (ks "record"))) (.pr (.cm .ne) (Zw (Zx (.v 6) (ki 0)) (ks "record"))))
    (Z0 (.ret (.k (.bl true))))
    .nil)
   (.seq (.set 7 (.pr .dict (Zt (.comp (.v 0) (Zx (.v 5) (ki 1)) .nil (.tup (Zw (Zx (.v 0) (ki 0)) (.v 0))) [none] ["_law_field"]))))
   (.seq (.loop (.tup (Mh (.v 8) (.v 9) (.v 10) (.v 11))) (Zx (.v 6) (ki 1))
    (Z0 (.ite (.and (.pr (.cm .isin) (Zw (.v 8) (.v 7))) (.and (Yk (Zx (Zx (.v 7) (.v 8)) (ki 3)) (.tup .nil)) (.and (.pr (.cm .ne) (Zw (.v 11) (.tup .nil))) (.pr (.cm .notin) (Zw (Zx (Zx (.v 7) (.v 8)) (ki 2)) (Zx (.v 2) (ki 1)))))))
    (.seq (.set 12 (Zx (Zx (.v 0) (ki 1)) (Zx (Zx (.v 7) (.v 8)) (ki 2))))
   (.seq (.ite (.call "_law_comes" (Zw (.v 12) (Zx (.v 11) (ki 0))))
    (Z0 (.ret (.k (.bl false))))
    .nil)
   .nil))
    .nil)))
   (.seq (.ret (.k (.bl true)))
   .nil))))))
def Vb:Df:=⟨13,5,Rv⟩
noncomputable def Fy:S:=(.seq (.ite (Yk (Zx (.v 0) (ki 0)) (ks "record"))
    (Z0 (.ret (.pr (.cm .isin) (Zw (.k (.bl true)) (.comp (.v 0) (Zx (.v 0) (ki 1)) .nil (.and (Yk (Zx (.v 0) (ki 3)) (.tup .nil)) (.pr (.cm .isin) (Zw (Zx (.v 0) (ki 2)) (.v 1)))) [none,some 1] ["_law_field","_law_empties"])))))
    .nil)
   (.seq (.ret (.and (Yk (Zx (.v 0) (ki 0)) (ks "choice")) (.pr (.cm .notin) (Zw (.k (.bl false)) (.comp (.v 0) (Zx (.v 0) (ki 1)) .nil (.pr (.cm .isin) (Zw (Zx (.v 0) (ki 2)) (.v 1))) [none,some 1] ["_law_arm","_law_empties"])))))
   .nil))
def Uv:Df:=⟨2,2,Fy⟩
noncomputable def Lj:S:=(.seq (.ite (.or (.not (.pr (.isi .tuple) (Zt (.v 2)))) (.or (.pr (.cm .ne) (Zw (D9 (.v 2)) (ki 2))) (.pr (.cm .isin) (Zw (.k (.bl false)) (.comp (.v 0) (.v 2) .nil (.pr (.isi .tuple) (Zt (.v 0))) [none] ["_law_part"])))))
    (Z0 (.ret (.k (.bl false))))
    .nil)
   (.seq (.loop (.v 3) (Zx (.v 2) (ki 0))
    (.seq (.ite (.or (.not (.pr (.isi .tuple) (Zt (.v 3)))) (.or (.pr (.cm .ne) (Zw (D9 (.v 3)) (ki 2))) (.pr (.cm .isin) (Zw (.k (.bl false)) (.comp (.v 0) (.v 3) .nil (.pr (.isi .str) (Zt (.v 0))) [none] ["_law_name"])))))
    (Z0 (.ret (.k (.bl false))))
    .nil)
   (.seq (.ite (.or (.pr (.cm .notin) (Zw (Zx (.v 3) (ki 0)) (Zx (.v 0) (ki 1)))) (.pr (.cm .notin) (Zw (Zx (.v 3) (ki 1)) (Zx (.v 1) (ki 1)))))
    (Z0 (.ret (.k (.bl false))))
    .nil)
   .nil)))
   (.seq (.ret (.pr (.cm .notin) (Zw (.k (.bl false)) (.comp (.v 0) (Zx (.v 2) (ki 1)) .nil (.and (.pr (.isi .str) (Zt (.v 0))) (.pr (.cm .isin) (Zw (.v 0) (Zx (.v 1) (ki 1))))) [none,some 0] ["_law_name","_law_one"]))))
   .nil)))
def Vi:Df:=⟨4,3,Lj⟩
noncomputable def Ol:S:=(.seq (.ite (.or (.not (.call "_law_is_paper" (Vv (.v 0) (.v 1) (.v 2)))) (.not (.call "_law_holds" (Vv (.v 2) (Zx (.v 0) (ki 0)) (Zx (.v 1) (ki 0))))))
    (Z0 (.ret (.k (.bl false))))
    .nil)
   (.seq (.loop (.tup (Zw (.v 4) (.v 5))) (Zx (.v 2) (ki 0))
    (.seq (.ite (.not (.call "_law_pair_right" (.cons (.v 0) (.cons (.v 1) (.cons (.v 2) (.cons (.v 4) (.cons (.v 5) .nil)))))))
    (Z0 (.ret (.k (.bl false))))
    .nil)
   (.seq (.ite (.and (.v 3) (.not (.call "_law_pair_kept" (.cons (.v 0) (.cons (.v 1) (.cons (.v 2) (.cons (.v 4) (.cons (.v 5) .nil))))))))
    (Z0 (.ret (.k (.bl false))))
    .nil)
   .nil)))
   (.seq (.ret (.pr (.cm .notin) (Zw (.k (.bl false)) (.comp (.v 0) (Zx (.v 2) (ki 1)) .nil (.call "_law_is_void" (Zw (Zx (Zx (.v 2) (ki 1)) (.v 0)) (Zx (.v 1) (ki 1)))) [none,some 2,some 0] ["_law_name","_law_thing","_law_one"]))))
   .nil)))
def Ua:Df:=⟨6,4,Ol⟩
noncomputable def Ks:S:=(.seq (.set 3 (.pr .sorted (Zt (Zx (.v 0) (ki 1)))))
   (.seq (.loop (.v 4) (.itr .rng (Zt (D9 (Zx (.v 0) (ki 1)))))
    (Z0 (.set 3 (.comp (.v 0) (.v 3) (.call "_law_is_void" (Zw (Zx (Zx (.v 2) (ki 1)) (.v 0)) (.v 1))) (.v 0) [none,some 3,some 0] ["_law_name","_law_empties","_law_one"]))))
   (.seq (.set 5 (.lst .nil))
   (.seq (.loop (.v 6) (.pr .sorted (Zt (Zx (.v 0) (ki 1))))
    (Z0 (.ex (.mt .extend 5 (Zt (.comp (.v 0) (.pr .sorted (Zt (Zx (.v 1) (ki 1)))) (.pr (.cm .notin) (Zw (.v 1) (.v 2))) (.tup (Zw (.v 1) (.v 0))) [none,some 6,some 3] ["_law_r","_law_w","_law_empties"]))))))
   (.seq (.set 7 (.pr .neg (Zt (ki 1))))
   (.seq (.wh (.pr (.cm .ne) (Zw (.v 7) (D9 (.v 5))))
    (.seq (.set 7 (D9 (.v 5)))
   (.seq (.set 8 (.tup (Zw (.v 5) (.v 3))))
   (.seq (.set 5 (.comp (.v 0) (.v 5) (.call "_law_pair_right" (.cons (.v 1) (.cons (.v 2) (.cons (.v 3) (.cons (Zx (.v 0) (ki 0)) (.cons (Zx (.v 0) (ki 1)) .nil)))))) (.v 0) [none,some 0,some 1,some 8] ["_law_pair","_law_one","_law_other","_law_paper"]))
   (.seq (.set 5 (.comp (.v 0) (.v 5) (.or (.not (.v 1)) (.call "_law_pair_kept" (.cons (.v 2) (.cons (.v 3) (.cons (.v 4) (.cons (Zx (.v 0) (ki 0)) (.cons (Zx (.v 0) (ki 1)) .nil))))))) (.v 0) [none,some 2,some 0,some 1,some 8] ["_law_pair","_law_keeping","_law_one","_law_other","_law_paper"]))
   .nil)))))
   (.seq (.ret (.tup (Zw (.pr .tuple (Zt (.v 5))) (.pr .tuple (Zt (.v 3))))))
   .nil)))))))
def Jn:Df:=⟨9,3,Ks⟩
noncomputable def Kl:S:=(.seq (.set 2 (.pr .tuple (Zt (.comp (.v 0) (.pr .sorted (Zt (Zx (.v 0) (ki 1)))) (.pr (.cm .isin) (Zw (.v 0) (.v 1))) (.tup (Zw (.v 0) (.v 0))) [none,some 1] ["_law_name","_law_prices_here"]))))
   (.seq (.ret (.tup (Zw (.v 2) (.pr .tuple (Zt (.comp (.v 0) (.pr .sorted (Zt (Zx (.v 0) (ki 1)))) (.pr (.cm .notin) (Zw (.v 0) (.v 1))) (.v 0) [none,some 1] ["_law_name","_law_prices_here"]))))))
   .nil))
def Jd:Df:=⟨3,2,Kl⟩
noncomputable def Ip:S:=(.seq (.unp (.tup (Zw (.v 4) (.v 5))) (.v 3))
   (.seq (.set 6 (.call "_law_draw" (Zw (.io 0) (U5 (D9 (.v 4)) (ki 1)))))
   (.seq (.set 7 (.call "_law_draw" (Zw (.io 0) (U5 (D9 (.v 5)) (ki 1)))))
   (.seq (.set 8 (.pr .sorted (Zt (Zx (.v 1) (ki 1)))))
   (.seq (.set 9 (Zx (.v 8) (.call "_law_draw" (Zw (.io 0) (D9 (.v 8))))))
   (.seq (.set 10 (Zx (.pr .sorted (Zt (Zx (.v 2) (ki 1)))) (.call "_law_draw" (Zw (.io 0) (D9 (Zx (.v 2) (ki 1)))))))
   (.seq (.set 11 (.call "_law_draw" (Zw (.io 0) (ki 8))))
   (.seq (.ite (Yk (.v 11) (ki 0))
    (Z0 (.ret (.tup (Zw (U5 (.pr (.sl false true) (Zw (.v 4) (.v 6))) (.pr (.sl true false) (Zw (.v 4) (U5 (.v 6) (ki 1))))) (.v 5)))))
    .nil)
   (.seq (.ite (Yk (.v 11) (ki 1))
    (Z0 (.ret (.tup (Zw (.pr (.sl false true) (Zw (U5 (U5 (.pr (.sl false true) (Zw (.v 4) (.v 6))) (.tup (Zt (.tup (Zw (.v 9) (.v 10)))))) (.pr (.sl true false) (Zw (.v 4) (.v 6)))) (ki 64))) (.v 5)))))
    .nil)
   (.seq (.ite (Yk (.v 11) (ki 2))
    (Z0 (.ret (.tup (Zw (.v 4) (U5 (.pr (.sl false true) (Zw (.v 5) (.v 7))) (.pr (.sl true false) (Zw (.v 5) (U5 (.v 7) (ki 1)))))))))
    .nil)
   (.seq (.ite (Yk (.v 11) (ki 3))
    (Z0 (.ret (.tup (Zw (.v 4) (.pr (.sl false true) (Zw (U5 (U5 (.pr (.sl false true) (Zw (.v 5) (.v 7))) (.tup (Zt (.v 9)))) (.pr (.sl true false) (Zw (.v 5) (.v 7)))) (ki 16)))))))
    .nil)
   (.seq (.ite (Yk (.v 11) (ki 4))
    (Z0 (.ret (.tup (Zw (.pr (.sl false true) (Zw (U5 (.pr .rev (Zt (.v 4))) (.pr (.sl false true) (Zw (.v 4) (.v 6)))) (ki 64))) (.pr (.sl false true) (Zw (U5 (.pr .rev (Zt (.v 5))) (.v 5)) (ki 16)))))))
    .nil)
   (.seq (.ite (Yk (.v 11) (ki 5))
    (Z0 (.ret (.tup (Zw (U5 (.pr (.sl true false) (Zw (.v 4) (.v 6))) (.pr (.sl false true) (Zw (.v 4) (.v 6)))) (.v 5)))))
    .nil)
   (.seq (.ite (Yk (.v 11) (ki 6))
    (Z0 (.ret (.tup (Zw (.pr (.sl false true) (Zw (U5 (.pr (.sl false true) (Zw (.v 4) (.v 6))) (.pr (.op .mul) (Zw (.tup (Zt (.tup (Zw (.v 9) (.v 9))))) (.pr .int (Zt (.pr (.cm .isin) (Zw (.v 9) (Zx (.v 2) (ki 1))))))))) (ki 64))) (.pr (.op .mul) (Zw (.tup (Zt (.v 9))) (U5 (ki 1) (.v 7))))))))
    .nil)
   (.seq (.ret (.tup (Zw (.pr (.sl false true) (Zw (U5 (.v 4) (.pr .tuple (Zt (.comp (.v 0) (.pr .sorted (Zt (Zx (.v 2) (ki 1)))) .nil (.tup (Zw (.v 1) (.v 0))) [none,some 9] ["_law_name","_law_w"])))) (ki 64))) (.v 5))))
   .nil)))))))))))))))
def G6:Df:=⟨12,4,Ip⟩
noncomputable def Ku:S:=(.seq (.set 1 (.call "_law_draw" (Zw (.io 0) (ki 4))))
   (.seq (.set 2 (Zx (.lst (Vv (.tup (Zw (ks "text") (.v 1))) (.tup (Zt (ks "truth"))) (.tup (Vv (ks "whole") (.v 1) (ki 6))))) (.call "_law_draw" (Zw (.io 0) (ki 3)))))
   (.seq (.set 3 (.tup (Vv (ks "whole") (ki 0) (ki 9))))
   (.seq (.set 4 (.call "_law_draw" (Zw (.io 0) (ki 10))))
   (.seq (.ite (Yk (Zx (.v 2) (ki 0)) (ks "text"))
    (.seq (.set 3 (.tup (Zw (ks "text") (U5 (.v 1) (ki 3)))))
   (.seq (.set 4 (.pr (.op .mul) (Zw (ks "a") (.call "_law_draw" (Zw (.io 0) (U5 (.v 1) (ki 4)))))))
   .nil))
    .nil)
   (.seq (.set 5 (.pr .dct2 (Mh (ks "a") (.tup (Vv (ks "record") (.tup (Zt (.tup (Mh (ki 1) (ks "fb") (ks "ab") (.tup .nil))))) (.tup .nil))) (ks "ab") (.v 2))))
   (.seq (.set 6 (.pr .dct2 (Mh (ks "a") (.tup (Vv (ks "record") (.tup (Zt (.tup (Mh (ki 1) (ks "fb") (ks "ab") (.tup (Zt (.v 4))))))) (.tup .nil))) (ks "ab") (.v 3))))
   (.seq (.ret (.tup (Zw (.tup (Zw (ks "a") (.v 5))) (.tup (Zw (ks "a") (.v 6))))))
   .nil))))))))
def Js:Df:=⟨7,1,Ku⟩
noncomputable def Kb:S:=(.seq (.set 3 (.pr .repr (Zt (.tup (Vv (.v 0) (.v 1) (.v 2))))))
   (.seq (.set 4 (.call "lets_keep" (Vv (.v 0) (.v 1) (.v 2))))
   (.seq (.set 5 (.and (.pr (.isi .bool) (Zt (.v 4))) (Yk (.v 4) (.call "_law_let_by" (Mh (.v 0) (.v 1) (.v 2) (.k (.bl true)))))))
   (.seq (.ret (.and (.v 5) (Yk (.pr .repr (Zt (.tup (Vv (.v 0) (.v 1) (.v 2))))) (.v 3))))
   .nil))))
def Jk:Df:=⟨6,3,Kb⟩
noncomputable def Nk:S:=(.seq (.set 1 (.call "_law_tape" (Zt (.v 0))))
   (.seq (.set 2 (.call "_law_make" (Zt (.io 1))))
   (.seq (.set 3 (.call "_law_turned" (Zw (.io 1) (.v 2))))
   (.seq (.ite (Yk (.call "_law_draw" (Zw (.io 1) (ki 6))) (ki 0))
    (Z0 (.set 3 (.call "_law_make" (Zt (.io 1)))))
    .nil)
   (.seq (.set 4 (.call "_law_great" (Vv (.v 2) (.v 3) (.k (.bl true)))))
   (.seq (.loop (.v 5) (.lst (Vv (.v 4) (.call "_law_great" (Vv (.v 2) (.v 3) (.k (.bl false)))) (.call "_law_mates" (Zw (.v 2) (.call "_law_prices" (Zt (.v 2)))))))
    (Z0 (.loop (.v 6) (.itr .rng (Zt (ki 4)))
    (.seq (.ite (.not (.call "_law_right" (Vv (.v 2) (.v 3) (.v 5))))
    (Z0 (.ret (.k (.bl false))))
    .nil)
   (.seq (.set 5 (.call "_law_bent" (Mh (.io 1) (.v 2) (.v 3) (.v 5))))
   .nil)))))
   (.seq (.loop (.v 7) (.lst (.cons (.k .non) (.cons (.tup .nil) (.cons (.pr .list (Zt (.v 4))) (.cons (U5 (.v 4) (.tup (Zt (.tup .nil)))) (.cons (.tup (Zw (Zx (.v 4) (ki 0)) (.lst .nil))) .nil))))))
    (Z0 (.ite (.not (.call "_law_right" (Vv (.v 2) (.v 3) (.v 7))))
    (Z0 (.ret (.k (.bl false))))
    .nil)))
   (.seq (.loop (.v 6) (.itr .rng (Zt (ki 4)))
    (.seq (.unp (.tup (Zw (.v 2) (.v 3))) (.call "_law_codes" (Zt (.io 1))))
   (.seq (.ite (.not (.call "_law_right" (Vv (.v 2) (.v 3) (.call "_law_mates" (Zw (.v 2) (.call "_law_prices" (Zt (.v 2))))))))
    (Z0 (.ret (.k (.bl false))))
    .nil)
   .nil)))
   (.seq (.ret (.k (.bl true)))
   .nil)))))))))
def Kq:Df:=⟨8,1,Nk⟩
theorem Q4{c:Prop}[Decidable c]{l:Type}{a:l}{o:Option l}{Q:l->Prop}(h:c)(q:Q a):on (if c then some a else o) Q:=by rw[if_pos h];exact q
theorem Zq{b:Bool}{A B:Prop}(h:b=true->A)(h':b=false->B):if b=true then A else B:=by
 cases b with
 | true=>exact h rfl
 | false=>exact h' rfl
theorem oj{a b:Int}{Q:Sl->Prop}(h:0<=a/\a<2 ^ 64)(q:Q (.f (.int (a * b)))):on (ao .mul (.int a) (.int b)) Q:=Q4 (.inl ⟨by omega,h.2⟩) q
theorem modP{a b:Int}{Q:Sl->Prop}(h:0<b)(q:Q (.f (.int (a % b)))):on (ao .mod (.int a) (.int b)) Q:=Q4 h q
theorem divP{a b:Int}{Q:Sl->Prop}(h:0<b/\b<1073741824)(q:Q (.f (.int (a / b)))):on (ao .fdiv (.int a) (.int b)) Q:=Q4 h q
theorem U7{ts:ZZ}{x:T}{Q:T×T->Prop}(h:ts.length<sizeLine)(q:Q (.lst (ts++[x]),.non)):on (mtT .append (.lst ts) [x]) Q:=Q4 h q
noncomputable def Zg(zs:ZT)(i l k:Int):T:=.lst [.lst (zs.map .int),.int i,.int l,.int k]
def TP(t:T):Prop:=∃zs i l k,t=Zg zs i l k/\zs.length<=63/\0<=i/\0<=l/\0<=k/\k<=zs.length
def Ug(C:Cs):Prop:=∀(t:T) (m:Int),TP t->0<m->m<=1000000->cN (C "_law_draw" [.o t,.f (.int m)]) fun x=>∃r t',0<=r/\r<m/\TP t'/\x=(.f (.int r),[t'])
theorem Zn{C:Cs}(h:Ug C){t:T}{m:Int}{Q:Sl×ZZ->Prop}{X:x2->Prop}(tp:TP t)(m0:0<m)(m1:m<=1000000)(q:∀r zs i l k,0<=r->r<m->TP (Zg zs i l k)->Q (.f (.int r),[Zg zs i l k])):cC (C "_law_draw" [.o t,.f (.int m)]) Q X :=
 Zz (h t m tp m0 m1) fun x ⟨r,t',h1,h2,h3,e⟩=>by
  obtain⟨zs,i,l,k,e',g⟩:=id h3;rw[e,e'];exact q r zs i l k h1 h2 (e' ▸ h3)
theorem sv{w:W}(zs:ZT):wF G3 w [.f (.lst (zs.map .int))] fun x=>∃t,TP t/\x=(.o t,[]):=by
 refine Zu rfl fun D rt _=>?_
 have e:Yx (zs.map T.int) none (some 63)=(zs.take 63).map .int:=by
  unfold Yx;rw[show HT.Vc (zs.map T.int).length 0 none=0 from rfl,show HT.Vc (zs.map T.int).length (zs.map T.int).length (some (63:Int))=min 63 (zs.map T.int).length from HT.Rl _ _ 63,List.drop_zero,Nat.sub_zero,List.map_take,Y9];rcases Nat.le_total 63 zs.length with h | h
  .rw[Nat.min_eq_left h]
  .rw[Nat.min_eq_right h,T0l (by rw[Y9];exact N4 _),T0l (by rw[Y9];exact h)]
 exact rt _ _ ⟨.lst [.lst (Yx (zs.map .int) none (some 63)),.int 0,.int 0,.int 0],⟨zs.take 63,0,0,0,by rw[e];rfl,by rw[j7];omega,by omega,by omega,by omega,by omega⟩,rfl⟩
noncomputable def Yz:Nat->S->S
 | 0,s=>s
 | n+1,.seq _ r=>Yz n r
 | _,s=>s
theorem jl{w:W}{pt:Nat->Bool}{R:S}{D:En}{zs:ZT}{i l k m:Int}(h2:pt 2=false)(h3:pt 3=false)(h:wS w pt R [.o (Zg zs (i+1) l k),.f (.int m),.f (.lst (zs.map .int)),.f (.int i),.no,.no,.no] D) :
  wS w pt (.seq (.set 2 (Zx (.v 0) (ki 0))) (.seq (.set 3 (Zx (.v 0) (ki 1))) (.seq (.put 0 (ki 1) (U5 (.v 3) (ki 1))) R))) [.o (Zg zs i l k),.f (.int m),.no,.no,.no,.no,.no] D:=by
 show if pt 2=true then False else _
 rw[if_neg (by rw[h2];exact Qv)];show if pt 3=true then False else _
 rw[if_neg (by rw[h3];exact Qv)];exact h
theorem Zzb{w:W}{zs:ZT}{i l k m:Int}(hz:zs.length<=63)(i0:0<=i)(l0:0<=l)(k0:0<=k)(k1:k<=zs.length)(m0:0<m)(m1:m<=1000000) :
  wF G5 w [.o (Zg zs i l k),.f (.int m)] fun x=>∃r t',0<=r/\r<m/\TP t'/\x=(.f (.int r),[t']):=by
 refine Zu rfl fun D rt _=>?_;have hl:(zs.map T.int).length=zs.length:=Y9 _
 have fin:∀l' k':Int,0<=l'->0<=k'->k'<=zs.length->wS w (Yv [.o (Zg zs i l k),.f (.int m)]) (Yz 4 Dz) [.o (Zg zs (i+1) l' k'),.f (.int m),.f (.lst (zs.map .int)),.f (.int i),.no,.no,.no] D:=fun l' k' l0 k0 k1=>by
  refine Zq (b:=decide (0<l')) (fun h=>?_) fun h=>?_
  .refine divP ⟨m0,by omega⟩ ?_;refine modP m0 ?_;exact rt _ _ ⟨l' % m,_,Int.emod_nonneg _ (by omega),Int.emod_lt_of_pos _ m0,⟨zs,i+1,l' / m,k',rfl,hz,by omega,Int.ediv_nonneg l0 (by omega),k0,k1⟩,rfl⟩
  .have end_:∀(c:Int),wS w (Yv [.o (Zg zs i l k),.f (.int m)]) (Yz 7 Dz) [.o (Zg zs (i+1) l' k'),.f (.int m),.f (.lst (zs.map .int)),.f (.int i),.no,.f (.int c),.no] D:=fun c=>by
    have a0:=Int.emod_nonneg c (show (1000003:Int)≠0 by omega);have a1:=Int.emod_lt_of_pos c (show (0:Int)<1000003 by omega);have b0:=Int.emod_nonneg i (show (997:Int)≠0 by omega);have b1:=Int.emod_lt_of_pos i (show (0:Int)<997 by omega);refine oj (a:=i % 997) ⟨b0,by omega⟩ ?_;refine oj (a:=c % 1000003+1) ⟨by omega,by omega⟩ ?_;have x0:0<=(c % 1000003+1) * (i % 997 * 7919+104729+i) % 1000033:=Int.emod_nonneg _ (by omega);have x1:(c % 1000003+1) * (i % 997 * 7919+104729+i) % 1000033<1000033:=Int.emod_lt_of_pos _ (by omega);obtain⟨x,hx⟩:∃x,(c % 1000003+1) * (i % 997 * 7919+104729+i) % 1000033=x:=⟨_,rfl⟩;show wS w _ _ [.o (Zg zs (i+1) l' k'),.f (.int m),.f (.lst (zs.map .int)),.f (.int i),.no,.f (.int c),.f (.int ((c % 1000003+1) * (i % 997 * 7919+104729+i) % 1000033))] _;rw[hx]at x0 x1 ⊢;refine oj (a:=x) ⟨x0,by omega⟩ ?_;have y0:0<=(x * x+3 * x+i) % 999983:=Int.emod_nonneg _ (by omega);have y1:(x * x+3 * x+i) % 999983<999983:=Int.emod_lt_of_pos _ (by omega);obtain⟨y,hy⟩:∃y,(x * x+3 * x+i) % 999983=y:=⟨_,rfl⟩;show wS w _ _ [.o (Zg zs (i+1) l' k'),.f (.int m),.f (.lst (zs.map .int)),.f (.int i),.no,.f (.int c),.f (.int ((x * x+3 * x+i) % 999983))] _;rw[hy]at y0 y1 ⊢;refine oj (a:=y) ⟨y0,by omega⟩ ?_;refine modP m0 ?_;exact rt _ _ ⟨_,_,Int.emod_nonneg _ (by omega),Int.emod_lt_of_pos _ m0,⟨zs,i+1,l',k',rfl,hz,by omega,l0,k0,k1⟩,rfl⟩
   refine Zq (b:=decide ((0:Int)<((zs.map T.int).length:Nat))) (fun g=>?_) fun g=>?_
   .have g:=Dk g;refine modP g ?_;obtain⟨x,hx,_,mx⟩:=Lg (xs:=zs.map T.int) (Int.emod_nonneg i (show (((zs.map T.int).length:Nat):Int)≠0 by omega)) (Int.emod_lt_of_pos i g);obtain⟨z,_,rfl⟩:=M4.mp mx;refine Ts hx ?_;exact end_ z
   .exact end_ 0
 refine jl (R:=Yz 3 Dz) rfl rfl ?_;refine whS ?_;refine rq (fun n p=>∃l k:Int,p=[.o (Zg zs (i+1) l k),.f (.int m),.f (.lst (zs.map .int)),.f (.int i),.no,.no,.no]/\0<=l/\0<=k/\k<=zs.length/\n=zs.length - k.toNat) (fun n p K hi kt kf=>?_) (zs.length - k.toNat) 1000000 _ (by omega) ⟨l,k,rfl,l0,k0,k1,rfl⟩;obtain⟨l',k',rfl,l0,k0,k1,hn⟩:=hi;refine Zq (b:=decide (l'=0)) (fun h=>?_) fun h=>?_
 .refine c9 (b:=decide (k'<((zs.map T.int).length:Nat))) (K:=fun b=>K b _) (fun h2=>?_) fun h2=>?_
  .have h2:=Dk h2;refine kt _ fun D' nx _ _ _=>?_;obtain⟨x,hx,_,mx⟩:=Lg (xs:=zs.map T.int) k0 h2;obtain⟨z,_,rfl⟩:=M4.mp mx;refine Ts hx ?_;refine Zq (b:=decide ((10:Int) ^ 18<=if z<0 then -z else z)) (fun h3=>?_) fun h3=>?_
   .refine Ts hx ?_;exact nx (n - 1) _ (by omega) ⟨_,k'+1,rfl,by split<;>omega,by omega,by omega,by omega⟩
   .exact nx (n - 1) _ (by omega) ⟨_,k'+1,rfl,l0,by omega,by omega,by omega⟩
  .exact kf _ (fin l' k' l0 k0 k1)
 .exact kf _ (fin l' k' l0 k0 k1)
noncomputable def V2:ZG:=["a","ab","abc","form","row","text","must","none","b","map"]
noncomputable def Vk(r:Nat):ZG:=(List.range 8).map fun k=>V2.getD ((r+k) % 10) ""
def Pl(r:Sl):Prop:=∃ns:ZG,r=.o (.lst (ns.map .str))/\ns.length=8/\ns.Nodup/\∀n∈ns,n∈V2
theorem Yg:∀r,r<10->(Vk r).Nodup/\∀n∈Vk r,n∈V2:=by decide +kernel
set_option maxHeartbeats 2000000 in
theorem bf{w:W}(hD:Ug w.C){zs:ZT}{i l k:Int}(tp:TP (Zg zs i l k)):wF Jm w [.o (Zg zs i l k)] fun x=>∃(r:Sl) (t':T),Pl r/\TP t'/\x=(r,[t']):=by
 refine Zu rfl fun D rt _=>?_;refine Zn hD tp (by omega) (by omega) fun r zs' i' l' k' r0 r1 qw=>?_;rcases(show r=0\/r=1\/r=2\/r=3\/r=4\/r=5\/r=6\/r=7\/r=8\/r=9 by omega) with rfl | rfl | rfl | rfl | rfl | rfl | rfl | rfl | rfl | rfl
 .exact rt _ _ ⟨_,_,⟨Vk 0,rfl,rfl,Yg 0 (by decide)⟩,qw,rfl⟩
 .exact rt _ _ ⟨_,_,⟨Vk 1,rfl,rfl,Yg 1 (by decide)⟩,qw,rfl⟩
 .exact rt _ _ ⟨_,_,⟨Vk 2,rfl,rfl,Yg 2 (by decide)⟩,qw,rfl⟩
 .exact rt _ _ ⟨_,_,⟨Vk 3,rfl,rfl,Yg 3 (by decide)⟩,qw,rfl⟩
 .exact rt _ _ ⟨_,_,⟨Vk 4,rfl,rfl,Yg 4 (by decide)⟩,qw,rfl⟩
 .exact rt _ _ ⟨_,_,⟨Vk 5,rfl,rfl,Yg 5 (by decide)⟩,qw,rfl⟩
 .exact rt _ _ ⟨_,_,⟨Vk 6,rfl,rfl,Yg 6 (by decide)⟩,qw,rfl⟩
 .exact rt _ _ ⟨_,_,⟨Vk 7,rfl,rfl,Yg 7 (by decide)⟩,qw,rfl⟩
 .exact rt _ _ ⟨_,_,⟨Vk 8,rfl,rfl,Yg 8 (by decide)⟩,qw,rfl⟩
 .exact rt _ _ ⟨_,_,⟨Vk 9,rfl,rfl,Yg 9 (by decide)⟩,qw,rfl⟩
noncomputable def Dj:ZT:=[1,2,3,9,10,99,100,500,999]
def Fg(i:Int):Prop:=-10 ^ 18<=i/\i<=10 ^ 18
def Sm(x:Str):Prop:=x.length<=9/\∀c∈x.cps.toList,97<=c/\c<=122
inductive Dx:T->Prop
 | int{i:Int}(h:Fg i):Dx (.int i)
 | bl {b:Bool}:Dx (.bl b)
 | str {x:Str} (h:Sm x):Dx (.str x)
 | nil:Dx (.tup [])
inductive lb:T->Prop
 | no:lb (.tup [])
 | is {x:T} (h:Dx x):lb (.tup [x])
def Dfs:Bool->ZZ->Prop
 | true,[d]=>lb d
 | false,[]=>True
 | _,_=>False
inductive Ci(ns:ZG)(k:Bool):T->Prop
 | mk{n:Int}{x o:Str}{ds:ZZ}(hn:n∈Dj)(hx:Sm x)(ho:o∈ns)(hd:Dfs k ds):Ci ns k (.tup (.int n::.str x::.str o::ds))
noncomputable def Z7:T->Int
 | .tup (.int i::_)=>i
 | _=>0
structure Ys(ns:ZG)(k:Bool)(ps:ZZ):Prop where
 l:ps.length<=8
 d:(ps.map Z7).Nodup
 p:∀p∈ps,Ci ns k p
def Stk(ss:ZZ):Prop:=∃zs:ZT,ss=zs.map .int/\zs.length<=8/\∀z∈zs,Fg z
inductive Shp(ns:ZG):T->Prop
 | whole{a b:Int}(ha:Fg a)(hb:Fg b)(le:a<=b):Shp ns (.tup [.str "whole",.int a,.int b])
 | truth:Shp ns (.tup [.str "truth"])
 | text {n:Int} (h0:0<=n) (h1:n<=200):Shp ns (.tup [.str "text",.int n])
 | row {o:Str} {n:Int} (ho:o∈ns) (h0:0<=n) (h1:n<=20):Shp ns (.tup [.str "row",.str o,.int n])
 | map {o:Str} {n:Int} (ho:o∈ns) (h0:0<=n) (h1:n<=20):Shp ns (.tup [.str "map",.str o,.int n])
 | record {ps ss:ZZ} (hp:Ys ns true ps) (hs:Stk ss):Shp ns (.tup [.str "record",.tup ps,.tup ss])
 | choice {ps ss:ZZ} {b:Bool} (hp:Ys ns false ps) (hs:Stk ss):Shp ns (.tup [.str "choice",.tup ps,.tup ss,.bl b])
inductive Y8:T->T->Prop
 | whole{a b i:Int}(h1:a<=i)(h2:i<=b):Y8 (.tup [.str "whole",.int a,.int b]) (.int i)
 | truth {b:Bool}:Y8 (.tup [.str "truth"]) (.bl b)
 | text {n:Int} {x:Str} (h:(x.length:Int)<=n):Y8 (.tup [.str "text",.int n]) (.str x)
 | row {o:Str} {n:Int}:Y8 (.tup [.str "row",.str o,.int n]) (.tup [])
 | map {o:Str} {n:Int}:Y8 (.tup [.str "map",.str o,.int n]) (.tup [])
def DFit(t d:T):Prop:=lb d/\∀x,d=.tup [x]->Y8 t x
theorem Ci.mono{ns ms:ZG}{k:Bool}{t:T}(h:∀x∈ns,x∈ms)(p:Ci ns k t):Ci ms k t:=by
 cases p with
 | mk hn hx ho hd=>exact .mk hn hx (h _ ho) hd
theorem Ys.mono{ns ms:ZG}{k:Bool}{ps:ZZ}(h:∀x∈ns,x∈ms)(p:Ys ns k ps):Ys ms k ps:=⟨p.l,p.d,fun q m=>(p.p q m).mono h⟩
theorem Shp.mono{ns ms:ZG}{t:T}(h:∀x∈ns,x∈ms)(p:Shp ns t):Shp ms t:=by
 cases p with
 | whole a b c=>exact .whole a b c
 | truth=>exact .truth
 | text a b=>exact .text a b
 | row a b c=>exact .row (h _ a) b c
 | map a b c=>exact .map (h _ a) b c
 | record a b=>exact .record (a.mono h) b
 | choice a b=>exact .choice (a.mono h) b
noncomputable def rngI(lo hi:Int):T->Bool
 | .int j=>decide (lo<=j) && decide (j<=hi)
 | _=>false
theorem Nz{ts:ZZ}{r:Int}{Q:Sl->Prop}(lo hi:Int)(h0:0<=r)(h1:r<ts.length)(c:ts.all (rngI lo hi)=true)(q:∀j:Int,lo<=j->j<=hi->T.int j∈ts->Q (.f (.int j))):on ((Ek (.lst ts) (.int r)).map Sl.f) Q:=by
 refine ixP h0 h1 fun x _ mx=>?_;have:=R5.mp c x mx;unfold rngI at this
 split at this
 .simp only[Jx,decide_eq_true_eq]at this;exact q _ this.1 this.2 mx
 .cases this
theorem Vp{ss:ZG}{r:Int}{Q:Sl->Prop}(h0:0<=r)(h1:r<(ss.map T.str).length)(q:∀o∈ss,Q (.f (.str o))):on ((Ek (.lst (ss.map .str)) (.int r)).map Sl.f) Q:=by
 refine ixP h0 h1 fun x _ mx=>?_;obtain⟨o,mo,rfl⟩:=M4.mp mx;exact q o mo
def Tp(C:Cs)(f:Str)(as:List Sl)(R:Sl->Prop):Prop:=∀t,TP t->cN (C f (.o t::as)) fun x=>∃r t',R r/\TP t'/\x=(r,[t'])
theorem Lp{C:Cs}{f:Str}{as:List Sl}{R:Sl->Prop}{t:T}{Q:Sl×ZZ->Prop}{X:x2->Prop}(h:Tp C f as R)(tp:TP t)(q:∀r zs i l k,R r->TP (Zg zs i l k)->Q (r,[Zg zs i l k])):cC (C f (.o t::as)) Q X :=
 Zz (h t tp) fun x ⟨r,t',h1,h3,e⟩=>by
  obtain⟨zs,i,l,k,e',g⟩:=id h3;rw[e,e'];exact q r zs i l k h1 (e' ▸ h3)
def Td(d:Df)(w:W)(as:List Sl)(R:Sl->Prop):Prop:=∀zs i l k,TP (Zg zs i l k)->wF d w (.o (Zg zs i l k)::as) fun x=>∃r t',R r/\TP t'/\x=(r,[t'])
def wj(P:T->Prop)(r:Sl):Prop:=∃t,r=.f t/\P t
def xi(t:T):Prop:=∀ps us,t≠.tup [.str "record",.tup ps,.tup us]
def Zz7(ns:ZG)(t:T):Prop:=Shp ns t/\xi t
theorem k6{w:W}(hD:Ug w.C){s:Str}(hs:s = "whole" \/ s = "truth" \/ s = "text")(ns:ZG):Td Jf w [.f (.str s)] (wj (Zz7 ns)):=by
 intro zs i l k tp;rcases hs with rfl | rfl | rfl
 .refine Zu rfl fun D rt _=>?_;refine Zn hD tp (by omega) (by omega) fun r zs i l k r0 r1 tp=>?_;refine Nz (-10 ^ 18) 7 r0 r1 rfl fun a a0 a1 _=>?_;refine Zn hD tp (by omega) (by omega) fun r zs i l k r0 r1 tp=>?_;refine Nz 0 (10 ^ 18) r0 r1 rfl fun b b0 b1 _=>?_;exact rt _ _ ⟨_,_,⟨.tup [.str "whole",.int a,.int (if a+b<10 ^ 18 then a+b else 10 ^ 18)],rfl,.whole ⟨a0,by omega⟩ ⟨by split<;>omega,by split<;>omega⟩ (by split<;>omega),fun _ _ z=>(nomatch z)⟩,tp,rfl⟩
 .refine Zu rfl fun D rt _=>?_;exact rt _ _ ⟨_,_,⟨_,rfl,.truth,fun _ _ z=>(nomatch z)⟩,tp,rfl⟩
 .refine Zu rfl fun D rt _=>?_;refine Zn hD tp (by omega) (by omega) fun r zs i l k r0 r1 tp=>?_;refine Nz 0 200 r0 r1 rfl fun a a0 a1 _=>?_;exact rt _ _ ⟨_,_,⟨_,rfl,.text a0 a1,fun _ _ z=>(nomatch z)⟩,tp,rfl⟩
theorem two{r:Int}(h0:0<=r)(h:r<2):r=0\/r=1:=by omega
theorem Qu{x:Str}{n:Nat}(h:n * x.length<=9)(hx:∀c∈x.cps.toList,97<=c/\c<=122):Sm (repS x n):=by
 refine⟨by rw[Bj];exact h,fun c m=>?_⟩;rw[Nc]at m;obtain⟨l,ml,mc⟩:=List.mem_flatten.mp m;rw[(List.mem_replicate.mp ml).2]at mc;exact hx c mc
theorem Iv{w:W}(hD:Ug w.C){ns:ZG}{t:T}(ht:Shp ns t\/t=.tup [.str "record"]):Td Uy w [.f t] (wj (DFit t)):=by
 intro zs i l k tp;refine Zu rfl fun D rt _=>?_;have no:∀zs' i' l' k',TP (Zg zs' i' l' k')->D.rt (.f (.tup [])) [.o (Zg zs' i' l' k'),.f t]:=fun _ _ _ _ tp=>rt _ _ ⟨_,_,⟨_,rfl,.no,fun x z=>by cases z⟩,tp,rfl⟩;rcases ht with ht | rfl
 .cases ht with
  | record hp hs=>exact no _ _ _ _ tp
  | choice hp hs=>exact no _ _ _ _ tp
  | whole ha hb le =>
   refine Zn hD tp (by omega) (by omega) fun r zs i l k r0 r1 tp=>?_;refine Zq (b:=decide (r=0)) (fun _=>no _ _ _ _ tp) fun _=>?_;refine Zn hD tp (by omega) (by omega) fun r zs i l k r0 r1 tp=>?_;rcases two r0 r1 with rfl | rfl
   .exact rt _ _ ⟨_,_,⟨_,rfl,.is (.int ha),fun x z=>by cases z;exact .whole (Int.le_refl _) le⟩,tp,rfl⟩
   .exact rt _ _ ⟨_,_,⟨_,rfl,.is (.int hb),fun x z=>by cases z;exact .whole le (Int.le_refl _)⟩,tp,rfl⟩
  | text h0 h1 =>
   refine Zn hD tp (by omega) (by omega) fun r zs i l k r0 r1 tp=>?_;refine Zq (b:=decide (r=0)) (fun _=>no _ _ _ _ tp) fun _=>?_;refine Zn hD tp (by omega) (by omega) fun r zs i l k r0 r1 tp=>?_
   obtain⟨x,hx,e⟩:∃x:Str,(x.length=1/\∀c∈x.cps.toList,97<=c/\c<=122)/\Ek (.str "ab") (.int r)=some (.str x):=by
    rcases two r0 r1 with rfl | rfl
    .exact⟨"a",⟨rfl,by decide⟩,rfl⟩
    .exact⟨"b",⟨rfl,by decide⟩,rfl⟩
   refine Z1 (a:=Sl.f (.str x)) (congrArg (Option.map Sl.f) e) ?_;refine Zn hD tp (by omega) (by omega) fun r zs i l k r0 r1 tp=>?_;refine Q4 (a:=Sl.f (.str (repS x _))) ⟨by split<;>omega,by split<;>omega,by omega⟩ ?_;exact rt _ _ ⟨_,_,⟨_,rfl,.is (.str (Qu (by rw[hx.1];split<;>omega) hx.2)),fun x z=>by cases z;exact .text (by rw[Bj,hx.1];split<;>omega)⟩,tp,rfl⟩
  | truth =>
   refine Zn hD tp (by omega) (by omega) fun r zs i l k r0 r1 tp=>?_;refine Zq (b:=decide (r=0)) (fun _=>no _ _ _ _ tp) fun _=>?_;refine Zn hD tp (by omega) (by omega) fun r zs i l k r0 r1 tp=>?_;exact rt _ _ ⟨_,_,⟨_,rfl,.is .bl,fun x z=>by cases z;exact .truth⟩,tp,rfl⟩
  | row ho h0 h1 =>
   refine Zn hD tp (by omega) (by omega) fun r zs i l k r0 r1 tp=>?_;refine Zq (b:=decide (r=0)) (fun _=>no _ _ _ _ tp) fun _=>?_;exact rt _ _ ⟨_,_,⟨_,rfl,.is .nil,fun x z=>by cases z;exact .row⟩,tp,rfl⟩
  | map ho h0 h1 =>
   refine Zn hD tp (by omega) (by omega) fun r zs i l k r0 r1 tp=>?_;refine Zq (b:=decide (r=0)) (fun _=>no _ _ _ _ tp) fun _=>?_;exact rt _ _ ⟨_,_,⟨_,rfl,.is .nil,fun x z=>by cases z;exact .map⟩,tp,rfl⟩
 .exact no _ _ _ _ tp
noncomputable def wd(n:Int):Str:=if n=1 then "b" else if n=2 then "c" else if n=3 then "d" else if n=9 then "j" else if n=10 then "ba" else if n=99 then "jj" else if n=100 then "baa" else if n=500 then "faa" else "jjj"
theorem wd_sm:∀n∈Dj,(wd n).length<=3/\∀c∈(wd n).cps.toList,97<=c/\c<=122:=by decide +kernel
theorem vw{w:W}(n:Int)(e:∀D:En,D.rt (.f (.str (wd n))) [.f (.int n)]->wS w (Yv [.f (.int n)]) Lq [.f (.int n)] D):wF U6 w [.f (.int n)] fun x=>x=(.f (.str (wd n)),[]) :=
 Zu rfl fun D rt _=>e D (rt _ _ rfl)
theorem vq{w:W}{n:Int}(h:n∈Dj):wF U6 w [.f (.int n)] fun x=>x=(.f (.str (wd n)),[]):=by
 simp only[Dj,Ya,J5,or_false]at h;rcases h with rfl | rfl | rfl | rfl | rfl | rfl | rfl | rfl | rfl<;>exact vw _ fun D k=>cast (by kernel_rfl) k
def K8(C:Cs):Prop:=∀n∈Dj,cN (C "_law_word" [.f (.int n)]) fun x=>x=(.f (.str (wd n)),[])
theorem O6{C:Cs}(h:K8 C){n:Int}{Q:Sl×ZZ->Prop}{X:x2->Prop}(hn:n∈Dj)(q:Q (.f (.str (wd n)),[])):cC (C "_law_word" [.f (.int n)]) Q X:=Zz (h n hn) fun x e=>by rw[e];exact q
theorem N8{a:Str}{n:Int}(ha:a.length=1/\∀c∈a.cps.toList,97<=c/\c<=122)(h:n∈Dj):Sm (a++wd n):=by
 obtain⟨h1,h2⟩:=wd_sm n h;refine⟨by rw[Str.length_append];omega,fun c m=>?_⟩;rcases mem_cps_append.mp m with m | m
 .exact ha.2 c m
 .exact h2 c m
theorem Vy(XY:ZX)(k k':Key)(v:T):Zj (Ym XY k v) k'=if k=k' then some v else Zj XY k':=by
 unfold Ym
 split
 .rename_i h
  induction XY with
  | nil=>simp at h
  | cons p r ih =>
   rw[List.any_cons,Bool.or_eq_true]at h;unfold Zj at ih ⊢;rw[O5,List.find?_cons];by_cases e:p.1=k
   .rw[if_pos e];by_cases e':k=k'
    .rw[Jo (show (p.1,v).1=k' from e.trans e'),if_pos e'];rfl
    .rw[Mr (show ¬ (p.1,v).1=k' from fun z=>e' (e.symm.trans z)),if_neg e',List.find?_cons,Mr (show ¬ p.1=k' from fun z=>e' (e.symm.trans z))];by_cases hr:(r.any fun p=>decide (p.1=k))=true
     .have:=ih hr;rw[if_neg e']at this;exact this
     .have em:(r.map fun p=>if p.1=k then (p.1,v) else p)=r:=by
       conv=>rhs;rw[<-List.map_id r]
       refine List.map_congr_left fun q mq=>?_;rw[if_neg]
       .rfl
       .intro z;exact hr (ZO.mpr ⟨q,mq,Jo z⟩)
      rw[em]
   .rw[if_neg e];by_cases e':p.1=k'
    .rw[Jo e',List.find?_cons,Jo e',if_neg (fun z=>e (e'.trans z.symm))]
    .rw[Mr e',List.find?_cons,Mr e'];exact ih (h.resolve_left (by simp[e]))
 .rename_i h
  unfold Zj;rw[List.find?_append];by_cases e':k=k'
  .subst e';rw[if_pos rfl];have:XY.find? (fun p=>decide (p.1=k))=none:=XJ.mpr fun p mp z=>h (ZO.mpr ⟨p,mp,z⟩);rw[this];simp
  .rw[if_neg e'];have:[(k,v)].find? (fun p=>decide (p.1=k'))=none:=by simp[e']
   rw[this];simp
theorem uo{XY:ZX}{k:Key}{v:T}(h:k∈XY.map (·.1)):(Ym XY k v).map (·.1)=XY.map (·.1):=by
 unfold Ym;rw[if_pos]
 .rw[List.map_map];refine List.map_congr_left fun p _=>?_;show (if p.1=k then (p.1,v) else p).1=p.1
  split<;>rfl
 .obtain⟨p,mp,e⟩:=M4.mp h;exact ZO.mpr ⟨p,mp,Jo e⟩
theorem ue{XY:ZX}{k:Key}{v:T}(h:¬ k∈XY.map (·.1)):(Ym XY k v).map (·.1)=XY.map (·.1)++[k]:=by
 unfold Ym;rw[if_neg]
 .rw[O3];rfl
 .intro z;obtain⟨p,mp,e⟩:=ZO.mp z;exact h (M4.mpr ⟨p,mp,Dk e⟩)
theorem F5:∀{XY:ZX} {ss:ZG},XY.map (·.1)=ss.map Sum.inr->M7 (XY.map fun p=>Ms p.1)=some ss/\Gw (XY.map fun p=>Ms p.1)=(if ss=[] then some [] else none)
 | [],[],_=>⟨rfl,rfl⟩
 | [],_::_,h=>by simp at h
 | _::_,[],h=>by simp at h
 | (k,t)::XY,s::ss,h=>by
  rw[O5,O5]at h
  injection h with h1 h2
  have h1:k=Sum.inr s:=h1;subst h1;obtain⟨g1,g2⟩:=F5 h2;refine⟨?_, ?_⟩
  .show (M7 (XY.map fun p=>Ms p.1)).map (s::·)=_;rw[g1];rfl
  .rw[if_neg (by simp)];rfl
theorem get_mem{XY:ZX}{k:Key}(h:k∈XY.map (·.1)):∃t,Zj XY k=some t:=by
 unfold Zj;obtain⟨p,mp,e⟩:=M4.mp h;cases f:XY.find? fun p=>decide (p.1=k) with
 | none =>
  have:=XJ.mp f p mp;simp[e]at this
 | some q=>exact⟨q.2,rfl⟩
theorem zi{XY:ZX}{k:Key}{t:T}(h:Zj XY k=some t):k∈XY.map (·.1):=by
 unfold Zj at h;obtain⟨p,hp,_⟩:=Y7.mp h;have:=List.find?_some hp;exact M4.mpr ⟨p,List.mem_of_find?_eq_some hp,Dk this⟩
theorem S9{XY:ZX}{k:Key}{v:T}{p:Key×T}(h:p∈Ym XY k v):p∈XY\/p.2=v:=by
 unfold Ym at h
 split at h
 .obtain⟨q,mq,rfl⟩:=M4.mp h
  split
  .exact .inr rfl
  .exact .inl mq
 .rcases Xj.mp h with h | h
  .exact .inl h
  .cases Dl.mp h;exact .inr rfl
theorem D6{XY:ZX}{k:Key}{t:T}(h:Zj XY k=some t):∃p∈XY,p.2=t/\p.1=k:=by
 obtain⟨p,hp,rfl⟩:=Y7.mp h;have t:=List.find?_some hp;exact⟨p,List.mem_of_find?_eq_some hp,rfl,Dk t⟩
theorem C2{XY:ZX}{x:Str}{v:T}{Q:T->Prop}(h:XY.length<sizeLine)(q:Q (.dct (Ym XY (.inr x) v))):on (putAt (.dct XY) (.str x) v) Q:=Q4 h q
structure B3(ns:ZG)(XY:ZX)(ss:ZG):Prop where
 k:XY.map (·.1)=ss.map Sum.inr
 d:ss.Nodup
 n:∀x∈ss,x∈ns
 p:∀p∈XY,Shp ns p.2
theorem B3.len{ns ss:ZG}{XY:ZX}(h:B3 ns XY ss):XY.length=ss.length:=by have:=congrArg List.length h.k;simpa using this
theorem Wn{XY:ZX}{ss:ZG}{x:Str}{v:T}(hk:XY.map (·.1)=ss.map Sum.inr)(d:ss.Nodup):∃us,(Ym XY (.inr x) v).map (·.1)=us.map Sum.inr/\us.Nodup/\(∀y,y∈us↔y∈ss\/y=x)/\(x∈ss->us=ss):=by
 by_cases e:x∈ss
 .refine⟨ss,by rw[uo (by rw[hk];exact List.mem_map_of_mem e),hk],d,fun y=>⟨.inl,fun z=>?_⟩,fun _=>rfl⟩;rcases z with z | rfl
  .exact z
  .exact e
 .refine⟨ss++[x], ?_, ?_,fun y=>?_,fun z=>absurd z e⟩
  .rw[ue,hk,O3];rfl;rw[hk];intro z;obtain⟨y,my,ey⟩:=M4.mp z;cases ey;exact e my
  .rw[List.nodup_append];refine⟨d,by simp,fun a ma b mb=>?_⟩;cases Dl.mp mb;intro z;subst z;exact e ma
  .rw[Xj,Dl]
theorem B3.put{ns ss:ZG}{XY:ZX}{x:Str}{v:T}(h:B3 ns XY ss)(hx:x∈ns)(hv:Shp ns v):∃us,B3 ns (Ym XY (.inr x) v) us/\(∀y,y∈us↔y∈ss\/y=x)/\(x∈ss->us=ss):=by
 obtain⟨us,h1,h2,h3,h4⟩:=Wn (x:=x) (v:=v) h.k h.d;refine⟨us,⟨h1,h2,fun y m=>?_,fun p mp=>?_⟩,h3,h4⟩
 .rcases(h3 y).mp m with m | rfl
  .exact h.n y m
  .exact hx
 .rcases S9 mp with m | e
  .exact h.p p m
  .rw[e];exact hv
theorem B3.get{ns ss:ZG}{XY:ZX}{x:Str}(h:B3 ns XY ss)(hx:x∈ss):∃t,Zj XY (.inr x)=some t/\Shp ns t:=by
 obtain⟨t,e⟩:=get_mem (XY:=XY) (k:=.inr x) (by rw[h.k];exact List.mem_map_of_mem hx);obtain⟨p,mp,rfl,_⟩:=D6 e;exact⟨_,e,h.p p mp⟩
theorem B3.srt{ns ss:ZG}{XY:ZX}(h:B3 ns XY ss)(hl:ss.length<64):Ql (XY.map fun p=>Ms p.1)=some ((SRT.Vr ss).map .str):=by
 obtain⟨g1,g2⟩:=F5 h.k
 have e:(XY.map fun p=>Ms p.1)=ss.map .str:=by
  rw[show (XY.map fun p=>Ms p.1)=(XY.map (·.1)).map Ms by rw[List.map_map];rfl,h.k,List.map_map];rfl
 rw[e];exact srt_strs ss hl
theorem W3(ts:ZZ)(n:Nat):Yx ts none (some (n:Int))=ts.take n:=by
 unfold Yx;rw[show HT.Vc ts.length 0 none=0 from rfl,HT.Rl,List.drop_zero,Nat.sub_zero];rcases Nat.le_total n ts.length with h | h
 .rw[Nat.min_eq_left h]
 .rw[Nat.min_eq_right h,T0l (N4 _),T0l h]
noncomputable def ls:ZT:=[1,2,9,10,99,100,999]
def Pn(r:Sl):Prop:=∃ms:ZT,r=.o (.lst (ms.map .int))/\ms.Nodup/\ms.length<=8/\∀m∈ms,m∈Dj
theorem Aw{w:W}(hD:Ug w.C):Td Uw w [] Pn:=by
 intro zs i l k tp;refine Zu rfl fun D rt _=>?_;refine Vl (fun rest acc p=>∃rs ms zs i l k s0,rest=rs.map T.int/\acc=ms.map T.int/\(ms++rs).Sublist ls/\TP (Zg zs i l k)/\p=[s0,.o (Zg zs i l k)]) ⟨ls,[],zs,i,l,k,_,rfl,rfl,List.Sublist.refl _,tp,rfl⟩ (fun x r acc p K hi ky kn=>?_) fun acc p hi=>?_
 .obtain⟨rs,ms,zs,i,l,k,s0,hr,rfl,hs,tp,rfl⟩:=hi;cases rs with
  | nil=>cases hr
  | cons z rs =>
   cases hr;refine Zn hD tp (by omega) (by omega) fun r zs i l k r0 r1 tp=>?_;refine Zq (b:=decide (r=0)) (fun _=>?_) fun _=>?_
   .exact ky _ _ ⟨rs,ms++[z],zs,i,l,k,_,rfl,by rw[O3];rfl,by rw[ZI];exact hs,tp,rfl⟩
   .exact kn _ ⟨rs,ms,zs,i,l,k,_,rfl,rfl,(List.Sublist.append (List.Sublist.refl _) (List.sublist_cons_self _ _)).trans hs,tp,rfl⟩
 obtain⟨rs,ms,zs,i,l,k,s0,hr,rfl,hs,tp,rfl⟩:=hi;have hs:ms.Sublist ls:=(List.sublist_append_left _ _).trans hs
 have fin:∀(n:Nat) zs i l k,TP (Zg zs i l k)->∃r t',Pn r/\TP t'/\((Sl.o (.lst (Yx (ms.map .int) none (some (n:Int)))),[Zg zs i l k]):Sl×ZZ)=(r,[t']):=fun n zs i l k tp=>by
  have h2:(ms.take n).Sublist ls:=(List.take_sublist _ _).trans hs;refine⟨_,_,⟨ms.take n,by rw[W3,List.map_take],h2.nodup (by decide),U8 h2.length_le (by decide),fun m mm=>?_⟩,tp,rfl⟩;exact(show ∀m∈ls,m∈Dj by decide) m (h2.subset mm)
 refine Zn hD tp (by omega) (by omega) fun r zs i l k r0 r1 tp=>?_;refine Zq (b:=decide (r=0)) (fun _=>?_) fun _=>?_
 .exact rt _ _ (fin 8 _ _ _ _ tp)
 .exact rt _ _ (fin 3 _ _ _ _ tp)
theorem zr{ns:ZG}{k:Bool}{ps:ZZ}(h:∀t∈ps,Ci ns k t){w:W}{Q:ZZ->P->Prop}(q:∀s0,Q ((ps.map Z7).map .int) [s0]) :
  V4 (fun x s K=>on (asg (.v 0) x s) fun s1=>if isNil .nil=true then wE w.nx (.pr .ix (.cons (.v 0) (.cons (.k (.int 0)) .nil))) s1 fun r s2=>Cy r fun y=>K (some y) s2
   else wE w.nx .nil s1 fun r s2=>Q5 r fun b=>if b=true then wE w.nx (.pr .ix (.cons (.v 0) (.cons (.k (.int 0)) .nil))) s2 fun r s3=>Cy r fun y=>K (some y) s3 else K none s2) ps [] [.no] Q:=by
 refine Ze (fun t=>.int (Z7 t)) (fun s=>∃s0,s=[s0]) ⟨_,rfl⟩ (fun x mx s K hs hk=>?_) fun s hs=>?_
 .obtain⟨s0,rfl⟩:=hs;cases h x mx with
  | mk hn hx ho hd=>refine ip ?_;exact hk _ ⟨_,rfl⟩
 .obtain⟨s0,rfl⟩:=hs;rw[show ps.map (fun t=>T.int (Z7 t))=(ps.map Z7).map .int by rw[List.map_map];rfl];exact q s0
def dt(r:Sl):Prop:=∃ss,r=.f (.tup ss)/\Stk ss
theorem qk{w:W}(hD:Ug w.C){ns:ZG}{b:Bool}{ps:ZZ}(hp:Ys ns b ps):Td Up w [.f (.tup ps)] dt:=by
 intro zs i l k tp;refine Zu rfl fun D rt _=>?_;refine zr hp.p fun s0=>?_;refine Vl (fun rest acc p=>∃rs ms zs i l k s0,rest=rs.map T.int/\acc=ms.map T.int/\(ms++rs).Sublist [2,3,10,998]/\TP (Zg zs i l k)/\p=[s0,.o (.lst ((ps.map Z7).map .int)),.o (Zg zs i l k)]) ⟨[2,3,10,998],[],zs,i,l,k,_,rfl,rfl,List.Sublist.refl _,tp,rfl⟩ (fun x r acc p K hi ky kn=>?_) fun acc p hi=>?_
 .obtain⟨rs,ms,zs,i,l,k,s0,hr,rfl,hs,tp,rfl⟩:=hi;cases rs with
  | nil=>cases hr
  | cons z rs =>
   cases hr;have no:∀zs i l k s0,TP (Zg zs i l k)->K none [s0,.o (.lst ((ps.map Z7).map .int)),.o (Zg zs i l k)]:=fun zs i l k s0 tp=>kn _ ⟨rs,ms,zs,i,l,k,_,rfl,rfl,(List.Sublist.append (List.Sublist.refl _) (List.sublist_cons_self _ _)).trans hs,tp,rfl⟩;refine Pz ?_;refine Zq (b:=!((ps.map Z7).any fun y=>decide (y=z))) (fun _=>?_) fun _=>no _ _ _ _ _ tp;refine Zn hD tp (by omega) (by omega) fun r zs i l k r0 r1 tp=>?_;refine Zq (b:=decide (r=0)) (fun _=>?_) fun _=>no _ _ _ _ _ tp;exact ky _ _ ⟨rs,ms++[z],zs,i,l,k,_,rfl,by rw[O3];rfl,by rw[ZI];exact hs,tp,rfl⟩
 obtain⟨rs,ms,zs,i,l,k,s0,hr,rfl,hs,tp,rfl⟩:=hi;have hs:ms.Sublist [2,3,10,998]:=(List.sublist_append_left _ _).trans hs;exact rt _ _ ⟨_,_,⟨_,rfl,ms,rfl,U8 hs.length_le (by decide),fun z m=>(show ∀m∈[(2:Int),3,10,998],Fg m by unfold Fg;decide) z (hs.subset m)⟩,tp,rfl⟩
def Hz(XY:ZX)(p:T):Prop:=∀(n:Int) (y o:Str) (d:T),p=.tup [.int n,.str y,.str o,.tup [d]]->∃s,Zj XY (.inr o)=some s/\Y8 s d
def Ai(ns:ZG)(XY:ZX)(b:Bool)(r:Sl):Prop:=∃ps,r=.f (.tup ps)/\Ys ns b ps/\∀p∈ps,Hz XY p
theorem Ys.nil{ns:ZG}{b:Bool}:Ys ns b []:=⟨Mj _,List.Pairwise.nil,fun t m=>absurd m J5⟩
set_option maxHeartbeats 1000000 in
theorem gq{w:W}(hD:Ug w.C)(hW:K8 w.C)(hN:Tp w.C "_law_numbers" [] Pn){ns:ZG}(hDf:∀t,Shp ns t\/t=.tup [.str "record"]->Tp w.C "_law_default" [.f t] (wj (DFit t)))(n0:0<ns.length)(n8:ns.length<=8){XY:ZX}(hk:∀x t,Zj XY x=some t->Shp ns t)(s:Str) :
  Td Jb w [.f (.lst (ns.map .str)),.f (.dct XY),.f (.str s)] (Ai ns XY (decide (s = "record"))):=by
 intro zs i l k tp;have sl:=sizeLine_eq;refine Zu rfl fun D rt _=>?_;refine Lp hN tp fun r zs i l k hr tp=>?_;obtain⟨ms,rfl,nd,ln,mm⟩:=hr;refine Dp (fun rest p=>∃rs ps zs i l k s5 s6 s7,rest=rs.map T.int/\p=[.o (Zg zs i l k),.f (.lst (ns.map .str)),.f (.dct XY),.f (.str s),.o (.lst ps),s5,s6,s7]/\TP (Zg zs i l k)/\(ps.map Z7++rs).Nodup/\ps.length+rs.length<=8/\(∀z∈rs,z∈Dj)/\∀p∈ps,Ci ns (decide (s = "record")) p/\Hz XY p) ⟨ms,[],zs,i,l,k,_,_,_,rfl,rfl,tp,nd,by simpa using ln,mm,fun t m=>absurd m J5⟩ (fun x r p D' hi nx _=>?_) fun p hi=>?_
 .obtain⟨rs,ps,zs,i,l,k,s5,s6,s7,hr,rfl,tp,nd,ln,mm,hp⟩:=hi;cases rs with
  | nil=>cases hr
  | cons z rs =>
   cases hr;have hz:=mm z Yb;rw[M5]at ln
   have more:∀zs i l k s5 s6 s7 t,TP (Zg zs i l k)->Ci ns (decide (s = "record")) t/\Hz XY t->Z7 t=z->D'.nx [.o (Zg zs i l k),.f (.lst (ns.map .str)),.f (.dct XY),.f (.str s),.o (.lst (ps++[t])),s5,s6,s7]:=fun zs i l k s5 s6 s7 t tp ht e=>nx _ ⟨rs,ps++[t],zs,i,l,k,s5,s6,s7,rfl,rfl,tp,by rw[O3,ZI];show (ps.map Z7++Z7 t::rs).Nodup;rw[e];exact nd,by rw[Nb,ZU];omega,fun z m=>mm z (Y5 _ m),fun p m=>by
    rcases Xj.mp m with m | m
    .exact hp p m
    .cases Dl.mp m;exact ht⟩
   have l0:(0:Int)<((ns.map T.str).length:Nat):=by rw[Y9];omega
   have l1:(((ns.map T.str).length:Nat):Int)<=1000000:=by rw[Y9];omega
   refine Zn hD tp l0 l1 fun r zs i l k r0 r1 tp=>?_;refine Vp r0 r1 fun o ho=>?_;refine Zn hD tp (by omega) (by omega) fun r zs i l k r0 r1 tp=>?_;refine Vp (ss:=["f","g"]) r0 r1 fun a ha=>?_
   have ha:a.length=1/\∀c∈a.cps.toList,97<=c/\c<=122:=by
    simp only[Ya,J5,or_false]at ha;rcases ha with rfl | rfl<;>exact⟨rfl,by decide⟩
   refine O6 hW hz ?_;have hs:=N8 ha hz;refine K5 (by have:=hs.1;rw[Str.length_append]at this;omega) ?_;show wS w _ _ [.o (Zg zs i l k),.f (.lst (ns.map .str)),.f (.dct XY),.f (.str s),.o (.lst ps),.f (.int z),.f (.str o),.f (.tup [.int z,.str (a++wd z),.str o])] _;refine Zq (b:=decide (s = "record")) (fun h=>?_) fun h=>?_
   .have h':=Dk h;subst h';refine Lp (hDf ((Zj XY (.inr o)).getD (.tup [.str "record"])) ?_) tp fun r zs i l k hr tp=>?_
    .cases e:Zj XY (.inr o) with
     | none=>exact .inr rfl
     | some t=>exact .inl (hk _ t e)
    obtain⟨d,rfl,hd,hx⟩:=hr;refine U7 (by omega) ?_;refine more _ _ _ _ _ _ _ _ tp ⟨.mk hz hs ho hd,fun n y o' d' e=>?_⟩ rfl;cases e;have hx:=hx d' rfl;cases eg:Zj XY (.inr o) with
    | none=>rw[eg]at hx;cases hx
    | some t=>rw[eg]at hx;exact⟨t,rfl,hx⟩
   .refine U7 (by omega) ?_;exact more _ _ _ _ _ _ _ _ tp ⟨by rw[h];exact .mk hz hs ho trivial,fun n y o' d' e=>by cases e⟩ rfl
 obtain⟨rs,ps,zs,i,l,k,s5,s6,s7,hr,rfl,tp,nd,ln,mm,hp⟩:=hi;exact rt _ _ ⟨_,_,⟨_,rfl,⟨by omega,(List.sublist_append_left _ _).nodup nd,fun p m=>(hp p m).1⟩,fun p m=>(hp p m).2⟩,tp,rfl⟩
theorem iniP{a:Int}{zs:ZT}{Q:Sl->Prop}(q:Q (.f (.bl (zs.any fun z=>decide (z=a))))):on ((Dn .isin (.int a) (.lst (zs.map .int))).map fun r=>Sl.f (.bl r)) Q:=Z1 (by show (inT (.int a) (.lst (zs.map .int))).map _=_;rw[xq];rfl) q
theorem sumP{zs:ZT}{Q:Sl->Prop}(q:Q (.f (.int zs.sum))):on (Ww .sum [.lst (zs.map .int)]) Q:=Z1 (by show (Gw _).map _=_;rw[PV.ints_map];rfl) q
theorem minIP{zs:ZT}{Q:Sl->Prop}(h:zs≠[])(q:∀m∈zs,(∀a∈zs,m<=a)->Q (.f (.int m))):on (Ww .min [.lst (zs.map .int)]) Q:=by
 cases zs with
 | nil=>exact absurd rfl h
 | cons z r =>
  have e:oy (z::r)=some (r.foldl (fun a b=>if b<a then b else a) z):=rfl;refine Z1 ?_ (q _ (Pq e).1 (Pq e).2);show og ((z::r).map .int)=_;unfold og;rw[PV.ints_map];rfl
def Prc(ps:ZX):Prop:=∀p∈ps,∃i:Int,p.2=.int i
theorem Prc.get{ps:ZX}(h:Prc ps){x:Key}{t:T}(e:Zj ps x=some t):∃i:Int,t=.int i:=by
 obtain⟨p,mp,rfl,_⟩:=D6 e;exact h p mp
theorem Ci.asR{ns:ZG}{t:T}(h:Ci ns true t):∃(n:Int) (x o:Str) (ds:ZZ),t=.tup [.int n,.str x,.str o,.tup ds]/\n∈Dj/\Sm x/\o∈ns/\lb (.tup ds):=by
 cases h with
 | @mk n x o ds hn hx ho hd =>
  match ds,hd with
  | [d],hd =>
   have hd:lb d:=hd;cases hd with
   | no=>exact⟨n,x,o,[],rfl,hn,hx,ho,.no⟩
   | is h=>exact⟨n,x,o,_,rfl,hn,hx,ho,.is h⟩
theorem Ci.cho{ns:ZG}{t:T}(h:Ci ns false t):∃(n:Int) (x o:Str),t=.tup [.int n,.str x,.str o]/\n∈Dj/\Sm x/\o∈ns:=by
 cases h with
 | @mk n x o ds hn hx ho hd =>
  match ds,hd with
  | [],hd=>exact⟨n,x,o,rfl,hn,hx,ho⟩
def n7(C:Cs):Prop:=∀{ns:ZG} {t:T} {ps:ZX},Shp ns t->Prc ps->cN (C "_law_price" [.f t,.o (.dct ps)]) fun x=>∃v:Int,x=(.f (.int v),[.dct ps])
set_option maxHeartbeats 1000000 in
theorem kg{w:W}{ns:ZG}{t:T}{ps:ZX}(ht:Shp ns t)(hp:Prc ps):wF Jg w [.f t,.o (.dct ps)] fun x=>∃v:Int,x=(.f (.int v),[.dct ps]):=by
 refine Zu rfl fun D rt _=>?_;cases ht with
 | @record fs ss hf hs =>
  refine Vl (fun rest acc p=>∃s0 zs,p=[s0,.o (.dct ps)]/\acc=zs.map T.int/\∀x∈rest,x∈fs) ⟨_,[],rfl,rfl,fun x m=>m⟩ (fun x r acc p K hi ky kn=>?_) fun acc p hi=>?_
  .obtain⟨s0,zs,rfl,rfl,hr⟩:=hi;have Wp:∀x∈r,x∈fs:=fun y m=>hr y (Y5 _ m);obtain⟨n,y,o,ds,rfl,_⟩:=(hf.p x (hr x Yb)).asR;cases ds with
   | cons d ds=>exact kn _ ⟨_,zs,rfl,rfl,Wp⟩
   | nil =>
    have e:∃z,(Zj ps (.inr o)).getD (.int 0)=.int z:=by
     cases q:Zj ps (.inr o) with
     | none=>exact⟨0,rfl⟩
     | some t=>obtain⟨z,rfl⟩:=hp.get q;exact⟨z,rfl⟩
    obtain⟨z,e⟩:=e;refine ky ((Zj ps (.inr o)).getD (.int 0)) _ ⟨_,zs++[z],rfl,by rw[e,O3];rfl,Wp⟩
  obtain⟨s0,zs,rfl,rfl,_⟩:=hi;refine iniP ?_;refine Zq (b:=zs.any fun z=>decide (z=0)) (fun _=>rt _ _ ⟨_,rfl⟩) fun _=>?_;refine sumP ?_;exact rt _ _ ⟨_,rfl⟩
 | @choice fs ss b hf hs =>
  refine Vl (fun rest acc p=>∃s0 zs,p=[s0,.o (.dct ps)]/\acc=zs.map T.int/\∀x∈rest,x∈fs) ⟨_,[],rfl,rfl,fun x m=>m⟩ (fun x r acc p K hi ky kn=>?_) fun acc p hi=>?_
  .obtain⟨s0,zs,rfl,rfl,hr⟩:=hi;have Wp:∀x∈r,x∈fs:=fun y m=>hr y (Y5 _ m);obtain⟨n,y,o,rfl,_⟩:=(hf.p x (hr x Yb)).cho;refine Zq (b:=(Zj ps (.inr o)).isSome) (fun h=>?_) fun h=>kn _ ⟨_,zs,rfl,rfl,Wp⟩;obtain⟨t,q⟩:=Option.isSome_iff_exists.mp h;obtain⟨z,rfl⟩:=hp.get q;refine Gj q ?_;exact ky _ _ ⟨_,zs++[z],rfl,by rw[O3];rfl,Wp⟩
  obtain⟨s0,zs,rfl,rfl,_⟩:=hi;refine Zq (b:=(zs.map T.int).isEmpty) (fun _=>rt _ _ ⟨_,rfl⟩) fun h=>?_;refine minIP (by intro z;rw[z]at h;cases h) fun m mm ml=>?_;exact rt _ _ ⟨_,rfl⟩
 | _=>exact rt _ _ ⟨_,rfl⟩
structure Prs(ss:ZG)(ps:ZX)(us:ZG):Prop where
 k:ps.map (·.1)=us.map Sum.inr
 d:us.Nodup
 n:∀x∈us,x∈ss
 p:Prc ps
theorem Gx:∀{us ss:ZG},us.Nodup->(∀x∈us,x∈ss)->us.length<=ss.length
 | [],_,_,_=>Mj _
 | x::us,ss,d,h=>by
  obtain⟨d1,d2⟩:=List.nodup_cons.mp d;have:=Gx (ss:=ss.erase x) d2 fun y m=>(List.mem_erase_of_ne (fun z:y=x=>d1 (by rw[<-z];exact m))).mpr (h y (Y5 _ m));rw[List.length_erase_of_mem (h x Yb)]at this;have:0<ss.length:=List.length_pos_of_mem (h x Yb);rw[M5];omega
theorem Prs.len{ps:ZX}{ss us:ZG}(h:Prs ss ps us):ps.length<=ss.length:=by
 have e:ps.length=us.length:=by have:=congrArg List.length h.k;simpa using this
 rw[e];exact Gx h.d h.n
def K7(x:Sl×ZZ):Prop:=∃ps,Prc ps/\ps.length<=8/\x=(.o (.dct ps),[])
def Mn(C:Cs):Prop:=∀{root:Str} {XY:ZX} {ss:ZG},B3 ss XY ss->ss.length<=8->cN (C "_law_prices" [.f (.tup [.str root,.dct XY])]) K7
set_option maxHeartbeats 1000000 in
theorem qn{w:W}(hP:n7 w.C){root:Str}{XY:ZX}{ss:ZG}(h:B3 ss XY ss)(h8:ss.length<=8):wF Uu w [.f (.tup [.str root,.dct XY])] K7:=by
 have sl:=sizeLine_eq;have hl:=h.len;refine Zu rfl fun D rt _=>?_;refine rngP (by omega) (by omega) ?_;refine Dp (fun rest p=>∃ps us s2 s3 s4,p=[.f (.tup [.str root,.dct XY]),.o (.dct ps),s2,s3,s4]/\Prs ss ps us) ⟨[],[],_,_,_,rfl,⟨rfl,List.Pairwise.nil,fun x m=>absurd m J5,fun p m=>absurd m J5⟩⟩ (fun x r p D' hi nx _=>?_) fun p hi=>?_
 .obtain⟨ps,us,s2,s3,s4,rfl,hs⟩:=hi;refine Du (h.srt (by omega)) ?_;refine Dp (fun rest p=>∃rs ps us s3 s4,rest=rs.map T.str/\p=[.f (.tup [.str root,.dct XY]),.o (.dct ps),.f x,s3,s4]/\Prs ss ps us/\∀y∈rs,y∈ss) ⟨SRT.Vr ss,ps,us,_,_,rfl,rfl,hs,fun y m=>(SRT.Z2 ss).mem_iff.mp m⟩ (fun x1 r1 p D1 hi nx1 _=>?_) fun p hi=>?_
  .obtain⟨rs,ps,us,s3,s4,hr1,rfl,hs,hrs⟩:=hi;cases rs with
   | nil=>cases hr1
   | cons y rs =>
    cases hr1;obtain⟨t,e,ht⟩:=h.get (hrs y Yb);refine Gj e ?_;refine Zz (hP ht hs.p) fun o ho=>?_;obtain⟨v,rfl⟩:=ho;show wS w _ _ [.f (.tup [.str root,.dct XY]),.o (.dct ps),.f x,.f (.str y),.f (.int v)] _;have hrs':∀z∈rs,z∈ss:=fun z m=>hrs z (Y5 _ m);refine Zq (b:=decide (0<v)) (fun g=>?_) fun g=>nx1 _ ⟨rs,ps,us,_,_,rfl,rfl,hs,hrs'⟩
    obtain⟨j,ej⟩:∃j,(Zj ps (.inr y)).getD (.int v)=.int j:=by
     cases q:Zj ps (.inr y) with
     | none=>exact⟨v,rfl⟩
     | some t=>obtain⟨z,rfl⟩:=hs.p.get q;exact⟨z,rfl⟩
    refine Z1 (a:=Sl.f (.int (if j<v then j else v))) (by show Ww .min [.int v,(Zj ps (.inr y)).getD (.int v)]=_;rw[ej];rfl) ?_;refine C2 (by have:=hs.len;omega) ?_;obtain⟨us',k1,k2,k3,_⟩:=Wn (x:=y) (v:=.int (if j<v then j else v)) hs.k hs.d;refine nx1 _ ⟨rs,_,us',_,_,rfl,rfl,⟨k1,k2,fun a m=>?_,fun p m=>?_⟩,hrs'⟩
    .rcases(k3 a).mp m with m | rfl
     .exact hs.n a m
     .exact hrs _ Yb
    .rcases S9 m with m | e
     .exact hs.p p m
     .exact⟨_,e⟩
  .obtain⟨rs,ps,us,s3,s4,hr1,rfl,hs,hrs⟩:=hi;exact nx _ ⟨ps,us,_,_,_,rfl,hs⟩
 .obtain⟨ps,us,s2,s3,s4,rfl,hs⟩:=hi;exact rt _ _ ⟨ps,hs.p,by have:=hs.len;omega,rfl⟩
def Fd(XY:ZX)(t:T):Prop:=∀ps us,t=.tup [.str "record",.tup ps,.tup us]->∀p∈ps,Hz XY p
structure Dw(root:Str)(XY:ZX)(ss:ZG):Prop where
 f:B3 ss XY ss
 l0:0<ss.length
 l8:ss.length<=8
 po:∀x∈ss,x∈V2
 r:root∈ss
 fit:∀x t,Zj XY (.inr x)=some t->Fd XY t
theorem B3.at{ns ss:ZG}{XY:ZX}(h:B3 ns XY ss){x:Str}{t:T}(e:Zj XY (.inr x)=some t):Shp ns t:=by
 obtain⟨p,mp,rfl,_⟩:=D6 e;exact h.p p mp
def wz(XY kvs':ZX):Prop:=∀o s d,Zj XY (.inr o)=some s->Y8 s d->Zj kvs' (.inr o)=some s
theorem Hz.keep{XY kvs':ZX}{p:T}(h:Hz XY p)(k:wz XY kvs'):Hz kvs' p:=fun n y o d e=>let ⟨s,e1,f⟩:=h n y o d e;⟨s,k o s d e1 f,f⟩
theorem Fd.keep{XY kvs':ZX}{t:T}(h:Fd XY t)(k:wz XY kvs'):Fd kvs' t:=fun ps us e p m=>(h ps us e p m).keep k
theorem Wr{XY:ZX}{y:Str}{v:T}(h:∀t d,Zj XY (.inr y)=some t->Y8 t d->v=t):wz XY (Ym XY (.inr y) v):=fun o s d e f=>by
 rw[Vy];by_cases z:y=o
 .subst z;rw[if_pos rfl,h s d e f]
 .rw[if_neg fun q=>z (Sum.inr.inj q)];exact e
def Cz(XY:ZX):Prop:=∀x t,Zj XY (.inr x)=some t->Fd XY t
theorem Cz.put{XY:ZX}{y:Str}{v:T}(h:Cz XY)(k:wz XY (Ym XY (.inr y) v))(hv:Fd XY v):Cz (Ym XY (.inr y) v):=fun x t e=>by
 rw[Vy]at e;by_cases z:y=x
 .subst z;rw[if_pos rfl]at e;cases e;exact hv.keep k
 .rw[if_neg fun q=>z (Sum.inr.inj q)]at e;exact(h x t e).keep k
theorem Ys.sub{ns:ZG}{k:Bool}{ps us:ZZ}(h:Ys ns k ps)(p:us.Sublist ps):Ys ns k us:=⟨U8 p.length_le h.l,(p.map Z7).nodup h.d,fun t m=>h.p t (p.mem m)⟩
theorem Prc.ints:∀{ps:ZX},Prc ps->∃zs:ZT,ps.map (·.2)=zs.map .int
 | [],_=>⟨[],rfl⟩
 | p::ps,h=>by
  obtain⟨i,e⟩:=h p Yb;obtain⟨zs,ez⟩:=Prc.ints (ps:=ps) fun q m=>h q (Y5 _ m);exact⟨i::zs,by rw[O5,e,ez];rfl⟩
theorem maxIP{z:Int}{zs:ZT}{Q:Sl->Prop}(q:∀m:Int,Q (.f (.int m))):on (Ww .max [.lst ([.int z]++zs.map .int)]) Q:=by
 have e:oa (z::zs)=some (zs.foldl (fun a b=>if a<b then b else a) z):=rfl;refine Z1 ?_ (q (zs.foldl (fun a b=>if a<b then b else a) z));show (Gw ((z::zs).map .int)).bind _=_;rw[PV.ints_map];rfl
theorem B3.put'{ss:ZG}{XY:ZX}{x:Str}{v:T}(h:B3 ss XY ss)(hx:x∈ss)(hv:Shp ss v):B3 ss (Ym XY (.inr x) v) ss:=by
 obtain⟨us,h1,_,h3⟩:=h.put hx hv;rw[h3 hx]at h1;exact h1
def xx(root:Str)(ss:ZG)(x:Sl×ZZ):Prop:=∃XY,Dw root XY ss/\x=(.f (.tup [.str root,.dct XY]),[.fn ""])
def Xq(C:Cs):Prop:=∀{root:Str} {XY:ZX} {ss:ZG},Dw root XY ss->cN (C "_law_light" [.f (.str root),.o (.dct XY)]) (xx root ss)
set_option maxHeartbeats 1000000 in
theorem me{w:W}(hP:Mn w.C){root:Str}{XY:ZX}{ss:ZG}(h:Dw root XY ss):wF Jt w [.f (.str root),.o (.dct XY)] (xx root ss):=by
 have sl:=sizeLine_eq;have h8:=h.l8;refine Zu rfl fun D rt _=>?_;have fin:∀XY s2,Dw root XY ss->wS w (Yv [.f (.str root),.o (.dct XY)]) (Yz 1 Cb) [.f (.str root),.o (.dct XY),s2] D:=fun XY s2 h=>rt _ _ ⟨XY,h,rfl⟩;refine Zz (hP h.f h8) fun x hx=>?_;obtain⟨ps,hp,hl,rfl⟩:=hx;obtain⟨zs,ez⟩:=hp.ints;refine addLP (by rw[Y9];show 1+_<=_;omega) ?_;rw[ez];refine maxIP fun m=>?_;refine Zq (b:=decide (100<m)) (fun _=>?_) fun _=>fin XY _ h;refine Du (h.f.srt (by omega)) ?_;refine Dp (fun rest p=>∃rs XY s2,rest=rs.map T.str/\p=[.f (.str root),.o (.dct XY),s2]/\B3 ss XY ss/\Cz XY/\∀x∈rs,x∈ss) ⟨SRT.Vr ss,XY,_,rfl,rfl,h.f,h.fit,fun y m=>(SRT.Z2 ss).mem_iff.mp m⟩ (fun x r p D' hi nx _=>?_) fun p hi=>?_
 .obtain⟨rs,XY,s2,hr,rfl,hf,hx,hm⟩:=hi;cases rs with
  | nil=>cases hr
  | cons y rs =>
   cases hr;have hy:=hm y Yb;have Gu:∀x∈rs,x∈ss:=fun x m=>hm x (Y5 _ m);obtain⟨t,e,ht⟩:=hf.get hy;refine Gj e ?_;cases ht with
   | @record fs us hp hs =>
    refine Gj e ?_;refine Gj e ?_;refine C2 (by have:=hf.len;omega) ?_;have ec:Yx fs none (some ((1:Nat):Int))=fs.take 1:=W3 fs 1;refine nx _ ⟨rs,_,_,rfl,rfl,hf.put' hy (.record (ss:=us) (ps:=Yx fs none (some ((1:Nat):Int))) ?_ hs),hx.put (Wr fun t d e' f=>?_) fun Zi us' e' p m=>?_,Gu⟩
    .rw[ec];exact hp.sub (List.take_sublist _ _)
    .rw[e]at e';cases e';cases f
    .cases e';exact hx y _ e fs us rfl p (List.mem_of_mem_take (by rw[<-ec];exact m))
   | _=>exact nx _ ⟨rs,_,_,rfl,rfl,hf,hx,Gu⟩
 .obtain⟨rs,XY,s2,hr,rfl,hf,hx,hm⟩:=hi;exact fin XY _ ⟨hf,h.l0,h.l8,h.po,h.r,hx⟩
def Ws(r:Sl):Prop:=∃root XY ss,r=.f (.tup [.str root,.dct XY])/\Dw root XY ss
noncomputable def Co:ZG:=["record","choice","row","whole","text","record","map","truth","choice","record"]
def Dm(g:Str):Prop:=g = "record" \/ g = "choice"
theorem yk{g:Str}(h:g∈Co):(g = "whole" \/ g = "truth" \/ g = "text")\/(g = "row" \/ g = "map")\/Dm g:=by
 simp only[Co,Ya,J5,or_false]at h;rcases h with rfl | rfl | rfl | rfl | rfl | rfl | rfl | rfl | rfl | rfl<;>simp[Dm]
noncomputable def pr2(q:Str×Str):T:=.tup [.str q.1,.str q.2]
theorem R6:∀(a b:ZG),Nd (a.map .str) (b.map .str)=(a.zip b).map pr2
 | [],_=>rfl
 | _::_,[]=>rfl
 | x::a,y::b=>by show .tup [.str x,.str y]::Nd (a.map .str) (b.map .str)=_;rw[R6 a b];rfl
theorem Zxz{body:T->P->En->Prop}{xs ys:ZZ}{p:P}{D:En}(e:xs=ys)(h:Nt body ys p D):Nt body xs p D:=by rw[e];exact h
theorem ua{XY:ZX}{k:Key}{v v2:T}:Ym (Ym XY k v) k v2=Ym XY k v2:=by
 unfold Ym;by_cases h:(XY.any fun p=>decide (p.1=k))=true
 .rw[if_pos h,if_pos h,if_pos]
  .rw[List.map_map];refine List.map_congr_left fun p _=>?_;show (if (if p.1=k then (p.1,v) else p).1=k then _ else _)=_;by_cases e:p.1=k
   .rw[if_pos e,if_pos (show (p.1,v).1=k from e),if_pos e];show ((if p.1=k then (p.1,v) else p).1,v2)=_;rw[if_pos e]
   .rw[if_neg e,if_neg e,if_neg e]
  .obtain⟨p,mp,e⟩:=ZO.mp h;have e:=Dk e;exact ZO.mpr ⟨_,List.mem_map_of_mem mp,by rw[if_pos e];exact Jo e⟩
 .rw[if_neg h,if_neg h,if_pos]
  .rw[O3];show XY.map _++[if k=k then (k,v2) else (k,v)]=_;rw[if_pos rfl]
   congr 1
   conv=>rhs;rw[<-List.map_id XY]
   refine List.map_congr_left fun q mq=>?_;rw[if_neg]
   .rfl
   .intro z;exact h (ZO.mpr ⟨q,mq,Jo z⟩)
  .rw[List.any_append];show (_ || (decide (k=k) || false))=true;rw[Jo rfl];simp
theorem By{x:Str}:∀{a b:ZG},a.length=b.length->x∈a->∃y,(x,y)∈a.zip b
 | _::_,[],h,_=>by cases h
 | z::a,y::b,h,m=>by
  rcases Ya.mp m with rfl | m
  .exact⟨y,Yb⟩
  .obtain⟨u,mu⟩:=By (Nat.succ.inj h) m;exact⟨u,Y5 _ mu⟩
theorem Xv{x a b:Str}:∀{ms gs:ZG},ms.Nodup->(x,a)∈ms.zip gs->(x,b)∈ms.zip gs->a=b
 | [],_,_,h,_=>by cases h
 | _::_,[],_,h,_=>by cases h
 | m::ms,g::gs,d,h,h'=>by
  obtain⟨d1,d2⟩:=List.nodup_cons.mp d;rcases Ya.mp (show (x,a)∈(m,g)::ms.zip gs from h) with e | h
  .obtain⟨e1,e2⟩:=Prod.mk.inj e;rcases Ya.mp (show (x,b)∈(m,g)::ms.zip gs from h') with e' | h'
   .rw[e2,(Prod.mk.inj e').2]
   .exact absurd (e1 ▸ (List.of_mem_zip h').1) d1
  .rcases Ya.mp (show (x,b)∈(m,g)::ms.zip gs from h') with e' | h'
   .exact absurd ((Prod.mk.inj e').1 ▸ (List.of_mem_zip h).1) d1
   .exact Xv d2 h h'
structure Pls(ms gs:ZG)(XY:ZX)(ss:ZG):Prop where
 f:B3 ms XY ss
 n:∀x t,Zj XY (.inr x)=some t->xi t
 g:∀x∈ss,∃g,(x,g)∈ms.zip gs/\¬ Dm g
structure MkC(C:Cs):Prop where
 dr:Ug C
 pl:∀{s:Str} (ns:ZG),(s = "whole" \/ s = "truth" \/ s = "text")->Tp C "_law_plain" [.f (.str s)] (wj (Zz7 ns))
 pa:∀{ns:ZG} {XY:ZX} (s:Str),0<ns.length->ns.length<=8->(∀x t,Zj XY x=some t->Shp ns t)->Tp C "_law_parts" [.f (.lst (ns.map .str)),.f (.dct XY),.f (.str s)] (Ai ns XY (decide (s = "record")))
 st:∀{ns:ZG} {b:Bool} {ps:ZZ},Ys ns b ps->Tp C "_law_struck" [.f (.tup ps)] dt
 nm:Tp C "_law_names" [] Pl
 lt:Xq C
set_option maxHeartbeats 2000000 in
theorem make1{w:W}(H:MkC w.C){pt:Nat->Bool}{ms gs:ZG}(n0:0<ms.length)(n8:ms.length<=8){D:En}{S1:Sl}
    (q:∀XY ss zs i l k s5 s6,TP (Zg zs i l k)->Pls ms gs XY ss->(∀q∈ms.zip gs,Dm q.2\/q.1∈ss)->D.nx [.o (Zg zs i l k),.f (.lst (ms.map .str)),S1,.f (.lst (gs.map .str)),.o (.dct XY),s5,s6,.no,.no])
    {zs:ZT} {i l k:Int} (tp:TP (Zg zs i l k)) (hg:∀g∈gs,g∈Co) :
    Nt (fun x s D=>on (asg (.tup (Zw (.v 5) (.v 6))) x s) fun s1=>wS w pt (.seq (.ite (.pr (.cm .isin) (Zw (.v 6) (.tup (Vv (ks "whole") (ks "truth") (ks "text")))))
    (Z0 (.put 4 (.v 5) (.call "_law_plain" (Zw (.io 0) (.v 6)))))
    .nil)
   (.seq (.ite (.pr (.cm .isin) (Zw (.v 6) (.tup (Zw (ks "row") (ks "map")))))
    (Z0 (.put 4 (.v 5) (.tup (Vv (.v 6) (Zx (.v 1) (.call "_law_draw" (Zw (.io 0) (D9 (.v 1))))) (Zx (.lst (Mh (ki 0) (ki 1) (ki 2) (ki 20))) (.call "_law_draw" (Zw (.io 0) (ki 4))))))))
    .nil)
   .nil)) s1 D) ((ms.zip gs).map pr2) [.o (Zg zs i l k),.f (.lst (ms.map .str)),S1,.f (.lst (gs.map .str)),.o (.dct []),.no,.no,.no,.no] D:=by
  have sl:=sizeLine_eq;have l0:(0:Int)<((ms.map T.str).length:Nat):=by rw[Y9];omega
  have l1:(((ms.map T.str).length:Nat):Int)<=1000000:=by rw[Y9];omega
  refine Dp (fun rest p=>∃rs XY ss zs i l k s5 s6,rest=rs.map pr2/\p=[.o (Zg zs i l k),.f (.lst (ms.map .str)),S1,.f (.lst (gs.map .str)),.o (.dct XY),s5,s6,.no,.no]/\TP (Zg zs i l k)/\Pls ms gs XY ss/\(∀q∈ms.zip gs,q∈rs\/Dm q.2\/q.1∈ss)/\∀q∈rs,q∈ms.zip gs) ⟨ms.zip gs,[],[],zs,i,l,k,_,_,rfl,rfl,tp,⟨⟨rfl,List.Pairwise.nil,fun x m=>absurd m J5,fun x m=>absurd m J5⟩,fun x t z=>(nomatch z),fun x m=>absurd m J5⟩,fun q m=>.inl m,fun q m=>m⟩ (fun x r p D' hi nx _=>?_) fun p hi=>?_
  . obtain⟨rs,XY,ss,zs,i,l,k,s5,s6,hr,rfl,tp,hf,hq,hm⟩:=hi
    cases rs with
    | nil=>cases hr
    | cons yg rs =>
      obtain⟨y,g⟩:=yg;cases hr;have hz:=List.of_mem_zip (hm _ Yb);have Gu:∀q∈rs,q∈ms.zip gs:=fun q m=>hm q (Y5 _ m);have hl:XY.length<sizeLine:=by have:=hf.f.len;have:=Gx hf.f.d hf.f.n;omega
      have more:¬ Dm g->∀t zs i l k,TP (Zg zs i l k)->Zz7 ms t->D'.nx [.o (Zg zs i l k),.f (.lst (ms.map .str)),S1,.f (.lst (gs.map .str)),.o (.dct (Ym XY (.inr y) t)),.f (.str y),.f (.str g),.no,.no]:=fun ng t zs i l k tp ht=>by
        obtain⟨us,h1,h2,_⟩:=hf.f.put hz.1 ht.1;refine nx _ ⟨rs,_,us,zs,i,l,k,_,_,rfl,rfl,tp,⟨h1,fun x u e=>?_,fun x m=>?_⟩,fun q mq=>?_,Gu⟩
        . rw[Vy]at e
          split at e
          . cases e;exact ht.2
          . exact hf.n x u e
        . rcases(h2 x).mp m with m | rfl
          . exact hf.g x m
          . exact⟨g,hm _ Yb,ng⟩
        rcases hq q mq with z | z | z
        . rcases Ya.mp z with rfl | z
          . exact .inr (.inr ((h2 _).mpr (.inr rfl)))
          . exact .inl z
        . exact .inr (.inl z)
        . exact .inr (.inr ((h2 _).mpr (.inl z)))
      rcases yk (hg g hz.2) with h | h | h
      . rcases h with rfl | rfl | rfl
        . refine Lp (H.pl ms (.inl rfl)) tp fun r zs i l k hr tp=>?_
          obtain⟨t,rfl,ht⟩:=hr;refine C2 hl ?_;exact more (by unfold Dm;decide +kernel) _ _ _ _ _ tp ht
        . refine Lp (H.pl ms (.inr (.inl rfl))) tp fun r zs i l k hr tp=>?_
          obtain⟨t,rfl,ht⟩:=hr;refine C2 hl ?_;exact more (by unfold Dm;decide +kernel) _ _ _ _ _ tp ht
        . refine Lp (H.pl ms (.inr (.inr rfl))) tp fun r zs i l k hr tp=>?_
          obtain⟨t,rfl,ht⟩:=hr;refine C2 hl ?_;exact more (by unfold Dm;decide +kernel) _ _ _ _ _ tp ht
      . rcases h with rfl | rfl
        . refine Zn H.dr tp l0 l1 fun r zs i l k r0 r1 tp=>?_
          refine Vp r0 r1 fun o ho=>?_;refine Zn H.dr tp (by omega) (by omega) fun r zs i l k r0 r1 tp=>?_;refine Nz 0 20 r0 r1 rfl fun j j0 j1 _=>?_;refine C2 hl ?_;exact more (by unfold Dm;decide +kernel) _ _ _ _ _ tp ⟨.row ho j0 j1,fun _ _ z=>(nomatch z)⟩
        . refine Zn H.dr tp l0 l1 fun r zs i l k r0 r1 tp=>?_
          refine Vp r0 r1 fun o ho=>?_;refine Zn H.dr tp (by omega) (by omega) fun r zs i l k r0 r1 tp=>?_;refine Nz 0 20 r0 r1 rfl fun j j0 j1 _=>?_;refine C2 hl ?_;exact more (by unfold Dm;decide +kernel) _ _ _ _ _ tp ⟨.map ho j0 j1,fun _ _ z=>(nomatch z)⟩
      . have no:D'.nx [.o (Zg zs i l k),.f (.lst (ms.map .str)),S1,.f (.lst (gs.map .str)),.o (.dct XY),.f (.str y),.f (.str g),.no,.no]:=by
          refine nx _ ⟨rs,_,ss,zs,i,l,k,_,_,rfl,rfl,tp,hf,fun q mq=>?_,Gu⟩;rcases hq q mq with z | z | z
          . rcases Ya.mp z with rfl | z
            . exact .inr (.inl h)
            . exact .inl z
          . exact .inr (.inl z)
          . exact .inr (.inr z)
        rcases h with rfl | rfl
        . exact no
        . exact no
  . obtain⟨rs,XY,ss,zs,i,l,k,s5,s6,hr,rfl,tp,hf,hq,hm⟩:=hi
    refine q XY ss zs i l k s5 s6 tp hf fun q mq=>?_;rcases hq q mq with z | z
    . cases rs with
      | nil=>cases z
      | cons _ _=>cases hr
    . exact z
set_option maxHeartbeats 2000000 in
theorem make2{w:W}(H:MkC w.C){t0:T}{ms gs:ZG}(md:ms.Nodup)(n0:0<ms.length)(n8:ms.length<=8){D:En}{S1:Sl}{Wc:ZX}{ss0:ZG}(hp0:Pls ms gs Wc ss0)
    (q:∀XY ss zs i l k s4 s5 s6 s8,TP (Zg zs i l k)->B3 ms XY ss->Cz XY->(∀q∈ms.zip gs,q.1∈ss)->D.nx [.o (Zg zs i l k),.f (.lst (ms.map .str)),S1,.f (.lst (gs.map .str)),s4,s5,s6,.o (.dct XY),s8])
    {zs:ZT} {i l k:Int} (tp:TP (Zg zs i l k)) (hg:∀g∈gs,g∈Co) (h0:∀q∈ms.zip gs,Dm q.2\/q.1∈ss0) (s5 s6:Sl) :
    Nt (fun x s D=>on (asg (.tup (Zw (.v 5) (.v 6))) x s) fun s1=>wS w (Yv [.o t0]) (.seq (.ite (.pr (.cm .isin) (Zw (.v 6) (.tup (Zw (ks "record") (ks "choice")))))
    (.seq (.set 8 (.call "_law_parts" (Mh (.io 0) (.v 1) (.v 4) (.v 6))))
   (.seq (.put 7 (.v 5) (.tup (Vv (.v 6) (.v 8) (.call "_law_struck" (Zw (.io 0) (.v 8))))))
   .nil))
    .nil)
   (.seq (.ite (Yk (.v 6) (ks "choice"))
    (Z0 (.put 7 (.v 5) (U5 (Zx (.v 7) (.v 5)) (.tup (Zt (Yk (.call "_law_draw" (Zw (.io 0) (ki 2))) (ki 1)))))))
    .nil)
   .nil)) s1 D) ((ms.zip gs).map pr2) [.o (Zg zs i l k),.f (.lst (ms.map .str)),S1,.f (.lst (gs.map .str)),.o (.dct Wc),s5,s6,.o (.dct Wc),.no] D:=by
  have sl:=sizeLine_eq;have hf0:=hp0.f;refine Dp (fun rest p=>∃rs XY ss zs i l k s4 s5 s6 s8,rest=rs.map pr2/\p=[.o (Zg zs i l k),.f (.lst (ms.map .str)),S1,.f (.lst (gs.map .str)),s4,s5,s6,.o (.dct XY),s8]/\OF s4 (.dct Wc)/\TP (Zg zs i l k)/\B3 ms XY ss/\(Cz XY/\(∀o s,Zj Wc (.inr o)=some s->Zj XY (.inr o)=some s)/\∀x t,Zj XY (.inr x)=some t->Zj Wc (.inr x)=some t\/∀d,¬ Y8 t d)/\(∀q∈ms.zip gs,(Dm q.2/\q∈rs)\/q.1∈ss)/\∀q∈rs,q∈ms.zip gs) ⟨ms.zip gs,Wc,ss0,zs,i,l,k,_,_,_,_,rfl,rfl,.inl rfl,tp,hf0,⟨fun x t e ps us e'=>absurd e' (hp0.n x t e ps us),fun _ _ e=>e,fun _ _ e=>.inl e⟩,fun q m=>(h0 q m).imp (fun z=>⟨z,m⟩) id,fun q m=>m⟩ (fun x r p D' hi nx _=>?_) fun p hi=>?_
  . obtain⟨rs,XY,ss,zs,i,l,k,s4,s5,s6,s8,hr,rfl,eh,tp,hf,⟨hx,hK,hN⟩,hq,hm⟩:=hi
    cases rs with
    | nil=>cases hr
    | cons yg rs =>
      obtain⟨y,g⟩:=yg;cases hr;have hz:=List.of_mem_zip (hm _ Yb);have Gu:∀q∈rs,q∈ms.zip gs:=fun q m=>hm q (Y5 _ m);have hl:XY.length<100:=by have:=hf.len;have:=Gx hf.d hf.n;omega
      have hk0:∀x t,Zj Wc x=some t->Shp ms t:=fun x t e=>by
        obtain⟨p,mp,rfl,_⟩:=D6 e;exact hf0.p p mp
      have more:Dm g->∀t zs i l k s8,TP (Zg zs i l k)->Shp ms t->(∀d,¬ Y8 t d)->Fd XY t->D'.nx [.o (Zg zs i l k),.f (.lst (ms.map .str)),S1,.f (.lst (gs.map .str)),.f (.dct Wc),.f (.str y),.f (.str g),.o (.dct (Ym XY (.inr y) t)),s8]:=fun rc t zs i l k s8 tp ht nt ft=>by
        obtain⟨us,h1,h2,_⟩:=hf.put hz.1 ht
        have y0:Zj Wc (.inr y)=none:=by
          cases e:Zj Wc (.inr y) with
          | none=>rfl
          | some u =>
            have:=zi e;rw[hf0.k]at this;obtain⟨y',my,ey⟩:=M4.mp this;cases ey;obtain⟨g',mg,ng⟩:=hp0.g _ my;rw[Xv md (hm _ Yb) mg]at rc;exact absurd rc ng
        have kp:wz XY (Ym XY (.inr y) t):=Wr fun u d e f=>by
          rcases hN y u e with z | z
          . rw[y0]at z;cases z
          . exact absurd f (z d)
        refine nx _ ⟨rs,_,us,zs,i,l,k,_,_,_,_,rfl,rfl,.inr rfl,tp,h1,⟨hx.put kp ft,fun o u e=>?_,fun o u e=>?_⟩,fun q mq=>?_,Gu⟩
        . rw[Vy]
          split
          . rename_i z;cases z;rw[y0]at e;cases e
          . exact hK o u e
        . rw[Vy]at e
          split at e
          . cases e;exact .inr nt
          . exact hN o u e
        rcases hq q mq with ⟨z1,z⟩ | z
        . rcases Ya.mp z with rfl | z
          . exact .inr ((h2 _).mpr (.inr rfl))
          . exact .inl ⟨z1,z⟩
        . exact .inr ((h2 _).mpr (.inl z))
      rcases yk (hg g hz.2) with h | h | h
      . have ng:¬ Dm g:=by rcases h with rfl | rfl | rfl<;>(unfold Dm;decide +kernel)
        have no:D'.nx [.o (Zg zs i l k),.f (.lst (ms.map .str)),S1,.f (.lst (gs.map .str)),s4,.f (.str y),.f (.str g),.o (.dct XY),s8]:=by
          refine nx _ ⟨rs,_,ss,zs,i,l,k,_,_,_,_,rfl,rfl,eh,tp,hf,⟨hx,hK,hN⟩,fun q mq=>?_,Gu⟩;rcases hq q mq with ⟨z1,z⟩ | z
          . rcases Ya.mp z with rfl | z
            . exact absurd z1 ng
            . exact .inl ⟨z1,z⟩
          . exact .inr z
        rcases h with rfl | rfl | rfl<;>exact no
      . have ng:¬ Dm g:=by rcases h with rfl | rfl<;>(unfold Dm;decide +kernel)
        have no:D'.nx [.o (Zg zs i l k),.f (.lst (ms.map .str)),S1,.f (.lst (gs.map .str)),s4,.f (.str y),.f (.str g),.o (.dct XY),s8]:=by
          refine nx _ ⟨rs,_,ss,zs,i,l,k,_,_,_,_,rfl,rfl,eh,tp,hf,⟨hx,hK,hN⟩,fun q mq=>?_,Gu⟩;rcases hq q mq with ⟨z1,z⟩ | z
          . rcases Ya.mp z with rfl | z
            . exact absurd z1 ng
            . exact .inl ⟨z1,z⟩
          . exact .inr z
        rcases h with rfl | rfl<;>exact no
      . rcases h with rfl | rfl
        . refine y8 eh rfl ?_
          refine Lp (H.pa "record" n0 n8 hk0) tp fun r zs i l k hr tp=>?_;obtain⟨ps,rfl,hps,hpf⟩:=hr;refine Lp (H.st hps) tp fun r zs i l k hr tp=>?_;obtain⟨us,rfl,hus⟩:=hr;refine C2 (by omega) ?_;exact more (.inl rfl) _ _ _ _ _ _ tp (.record hps hus) (fun d z=>by cases z) fun Zi us' e p m=>by cases e;exact(hpf p m).keep fun o u d e _=>hK o u e
        . refine y8 eh rfl ?_
          refine Lp (H.pa "choice" n0 n8 hk0) tp fun r zs i l k hr tp=>?_;obtain⟨ps,rfl,hps,hpf⟩:=hr;refine Lp (H.st hps) tp fun r zs i l k hr tp=>?_;obtain⟨us,rfl,hus⟩:=hr;refine C2 (by omega) ?_;refine Gj (x:=.tup [.str "choice",.tup ps,.tup us]) (by rw[Vy,if_pos rfl]) ?_;refine Zn H.dr tp (by omega) (by omega) fun r zs i l k r0 r1 tp=>?_;have e:=hf.len;obtain⟨us',h1,_⟩:=Wn (x:=y) (v:=.tup [.str "choice",.tup ps,.tup us]) hf.k hf.d;refine C2 ?_ ?_
          . unfold Ym
            split
            . rw[Y9];omega
            . rw[Nb,ZU];omega
          . rw[ua]
            exact more (.inr rfl) _ _ _ _ _ _ tp (.choice hps hus) (fun d z=>by cases z) fun Zi us' e p m=>by cases e
  . obtain⟨rs,XY,ss,zs,i,l,k,s4,s5,s6,s8,hr,rfl,eh,tp,hf,⟨hx,hK,hN⟩,hq,hm⟩:=hi
    refine q XY ss zs i l k s4 s5 s6 s8 tp hf hx fun q mq=>?_;rcases hq q mq with ⟨_,z⟩ | z
    . cases rs with
      | nil=>cases z
      | cons _ _=>cases hr
    . exact z
set_option maxHeartbeats 2000000 in
theorem o4{w:W}(H:MkC w.C):Td G4 w [] Ws:=by
 intro zs i l k tp;refine Zu rfl fun D rt _=>?_;refine Lp H.nm tp fun r zs i l k hr tp=>?_;obtain⟨ns,rfl,l8,nd,po⟩:=hr;refine Zn H.dr tp (by omega) (by omega) fun r zs i l k r0 r1 tp=>?_;refine Nz 1 8 r0 r1 rfl fun j j1 j8 _=>?_;have e:Yx (ns.map .str) none (some j)=(ns.take j.toNat).map .str:=by rw[Iy (by omega) (by rw[Y9];omega),List.map_take]
 show wS w _ _ [.o (Zg zs i l k),.o (.lst (Yx (ns.map .str) none (some j))),.no,.no,.no,.no,.no,.no,.no] _;rw[e];have m0:0<(ns.take j.toNat).length:=by rw[j7];omega
 have m8:(ns.take j.toNat).length<=8:=by rw[j7];omega
 have md:(ns.take j.toNat).Nodup:=(List.take_sublist _ _).nodup nd;have mp:∀x∈ns.take j.toNat,x∈V2:=fun x m=>po x (List.mem_of_mem_take m);generalize ns.take j.toNat=ms at m0 m8 md mp ⊢;refine Vl (fun rest acc p=>∃gs zs i l k s0,acc=gs.map T.str/\gs.length+rest.length=ms.length/\(∀g∈gs,g∈Co)/\TP (Zg zs i l k)/\p=[s0,.o (.lst (Co.map .str)),.o (Zg zs i l k)]) ⟨[],zs,i,l,k,_,rfl,by simp,fun g m=>absurd m J5,tp,rfl⟩ (fun x r acc p K hi ky kn=>?_) fun acc p hi=>?_
 .obtain⟨gs,zs,i,l,k,s0,rfl,hl,hg,tp,rfl⟩:=hi;refine Zn H.dr tp (by omega) (by omega) fun r zs i l k r0 r1 tp=>?_;refine Vp (ss:=Co) r0 r1 fun g mg=>?_;refine ky _ _ ⟨gs++[g],zs,i,l,k,_,by rw[O3];rfl,by rw[Nb,ZU];rw[M5]at hl;omega,fun a ma=>?_,tp,rfl⟩;rcases Xj.mp ma with ma | ma
  .exact hg a ma
  .cases Dl.mp ma;exact mg
 obtain⟨gs,zs,i,l,k,s0,rfl,hl,hg,tp,rfl⟩:=hi;have hl:ms.length=gs.length:=by simpa using hl.symm
 show wS w _ _ [.o (Zg zs i l k),.f (.lst (ms.map .str)),.o (.lst (Co.map .str)),.o (.lst (gs.map .str)),.no,.no,.no,.no,.no] _;refine Zxz (R6 ms gs) ?_;refine make1 H m0 m8 (fun XY ss zs i l k s5 s6 tp hf hq=>?_) tp hg;refine Zxz (R6 ms gs) ?_;refine make2 H md m0 m8 hf (fun XY ss zs i l k s4 s5 s6 s8 tp hf hfit hq=>?_) tp hg hq s5 s6;have l0:(0:Int)<((ms.map T.str).length:Nat):=by rw[Y9];omega
 have l1:(((ms.map T.str).length:Nat):Int)<=1000000:=by rw[Y9];omega
 refine Zn H.dr tp l0 l1 fun r zs i l k r0 r1 tp=>?_;refine Vp r0 r1 fun o ho=>?_
 have sub:∀x∈ms,x∈ss:=fun x m=>by
  obtain⟨y,my⟩:=By hl m;exact hq _ my
 have le:=Gx hf.d hf.n;have ge:=Gx md sub;refine Zz (H.lt (root:=o) (XY:=XY) (ss:=ss) ⟨⟨hf.k,hf.d,fun x m=>m,fun p m=>(hf.p p m).mono sub⟩,by omega,by omega,fun x m=>mp x (hf.n x m),sub o ho,hfit⟩) fun x hx=>?_;obtain⟨kvs',hm,rfl⟩:=hx;exact rt _ _ ⟨_,_,⟨_,_,_,rfl,hm⟩,tp,rfl⟩
def isIn(lo hi:Int)(t:T):Prop:=∃v:Int,t=.int v/\lo<=v/\v<=hi
theorem Tv{w:W}(hD:Ug w.C){n lo hi:Int}(h:lo<=hi):Td Yf w [.f (.int n),.f (.int lo),.f (.int hi)] (wj (isIn lo hi)):=by
 intro zs i l k tp;refine Zu rfl fun D rt _=>?_;refine Zn hD tp (by omega) (by omega) fun r zs i l k r0 r1 tp=>?_;refine Nz (-1) 2 r0 r1 rfl fun d _ _ _=>?_;exact rt _ _ ⟨.f (.int (if (if n+d<hi then n+d else hi)>lo then (if n+d<hi then n+d else hi) else lo)),_,⟨_,rfl,_,rfl,by split<;>omega,by split<;>split<;>omega⟩,tp,rfl⟩
def Zqw(C:Cs):Prop:=∀{n lo hi:Int},lo<=hi->Tp C "_law_number_turned" [.f (.int n),.f (.int lo),.f (.int hi)] (wj (isIn lo hi))
theorem Gq{a b:T}{r q:ZZ}{e:Bool}(h:Hy a b=some e)(h1:e=true->(D3 r q).isSome=true)(h2:e=false->(ltE a b).isSome=true):(D3 (a::r) (b::q)).isSome=true:=by
 unfold D3;rw[h];show (if e=true then D3 r q else ltE a b).isSome=true;cases e with
 | true=>rw[if_pos rfl];exact h1 rfl
 | false=>rw[if_neg fun z=>nomatch z];exact h2 rfl
def itm:T->ZZ
 | .tup ts=>ts
 | _=>[]
theorem m3{ns:ZG}{k:Bool}{p:T}(hp:Ci ns k p):(D3 (itm p) (itm p)).isSome=true:=by
 cases hp with | @mk n x o ds hn hx ho hd =>
 refine Gq (e:=decide (n=n)) rfl (fun _=>?_) fun _=>rfl;refine Gq (e:=decide (x=x)) rfl (fun _=>?_) fun _=>rfl;refine Gq (e:=decide (o=o)) rfl (fun _=>?_) fun _=>rfl;cases k with
 | false =>
  match ds,hd with
  | [],_=>rfl
 | true =>
  match ds,hd with
  | [d],hd =>
  cases hd with
  | no=>rfl
  | is h=>cases h with
   | @int i=>exact Gq (e:=(decide (i=i) && true)) rfl (fun _=>rfl) fun _=>rfl
   | @bl b=>cases b<;>rfl
   | @str x=>exact Gq (e:=(decide (x=x) && true)) rfl (fun _=>rfl) fun _=>rfl
   | nil=>rfl
theorem o9{ns:ZG}{k:Bool}{p q:T}(hp:Ci ns k p)(hq:Ci ns k q)(h:Z7 p=Z7 q->p=q):(D3 (itm p) (itm q)).isSome=true:=by
 by_cases e:Z7 p=Z7 q
 .cases h e;exact m3 hp
 .cases hp with | @mk n x o ds hn hx ho hd =>
  cases hq with | @mk m y u es hm hy hu he =>
  exact Gq (e:=decide (n=m)) rfl (fun z=>absurd (Dk z) e) fun _=>rfl
theorem Sx{ns:ZG}{b:Bool}:∀{ps:ZZ},(∀p∈ps,Ci ns b p)->R8 ps=some (ps.map itm)
 | [],_=>rfl
 | p::ps,h=>by
  have ih:=Sx (ps:=ps) fun q m=>h q (Y5 _ m);cases h p Yb with | mk _ _ _ _ =>
  show (R8 ps).map _=_;rw[ih];rfl
theorem bg{l V:Type}{f:l->V}:∀{xs:List l},(xs.map f).Nodup->∀{a b:l},a∈xs->b∈xs->f a=f b->a=b
 | [],_,a,_,m,_,_=>absurd m J5
 | x::xs,h,a,b,ma,mb,e=>by
  rw[O5,List.nodup_cons]at h;rcases Ya.mp ma with e1 | m1
  .rcases Ya.mp mb with e2 | m2
   .rw[e1,e2]
   .exact absurd (show f x∈xs.map f by rw[<-e1,e];exact List.mem_map_of_mem m2) h.1
  .rcases Ya.mp mb with e2 | m2
   .exact absurd (show f x∈xs.map f by rw[<-e2, <-e];exact List.mem_map_of_mem m1) h.1
   .exact bg h.2 m1 m2 e
theorem range_getD{ps:ZZ}:(List.range ps.length).map (fun i=>ps.getD i .non)=ps:=by
 refine List.ext_getElem (by simp) fun i h1 h2=>?_;rw[List.getElem_map,List.getElem_range,List.getD_eq_getElem?_getD,Lh h2];rfl
theorem pq{ns:ZG}{k:Bool}{ps:ZZ}(h:Ys ns k ps):∃us,M8 ps=some us/\Ys ns k us:=by
 have l:=h.l
 have key:∃us,M8 ps=some us/\us.Perm ps:=by
  unfold M8;rw[Sx h.p];show ∃us,(if ps.length<2 then some ps else _)=some us/\_;by_cases c:ps.length<2
  .exact⟨ps,if_pos c,.refl _⟩
  .rw[if_neg c,if_pos ⟨by omega,fun a ma b' mb=>by
    obtain⟨p,mp,rfl⟩:=M4.mp ma;obtain⟨q,mq,rfl⟩:=M4.mp mb;exact o9 (h.p p mp) (h.p q mq) (bg h.d mp mq)⟩]
   have pm:=(SRT.qf (n:=ps.length) (by omega) fun i j=>(D3 ((ps.map itm).getD i []) ((ps.map itm).getD j [])).getD false).map fun i=>ps.getD i .non;rw[range_getD]at pm;exact⟨_,rfl,pm⟩
 obtain⟨us,e,pm⟩:=key;exact⟨us,e,by rw[pm.length_eq];exact h.l,((pm.map Z7).nodup_iff).mpr h.d,fun t m=>h.p t (pm.mem_iff.mp m)⟩
theorem srtP{ts us:ZZ}{Q:Sl->Prop}(e:M8 ts=some us)(q:Q (.o (.lst us))):on (Ww .srtP [.lst ts]) Q:=Z1 (a:=Sl.o (.lst us)) (by show (M8 ts).map _=_;rw[e];rfl) q
theorem Ys.set{ns:ZG}{k:Bool}{ps:ZZ}{j:Nat}{x y:T}(h:Ys ns k ps)(e:ps[j]?=some x)(hy:Ci ns k y)(hd:Z7 y=Z7 x):Ys ns k (ps.set j y):=by
 have em:(ps.set j y).map Z7=ps.map Z7:=by
  rw[List.map_set];refine List.ext_getElem? fun i=>?_;rw[List.getElem?_set]
  split
  .rename_i z
   subst z;have hl:=(wt.mp e).1;rw[if_pos (by rw[Y9];exact hl),lg,e,hd];rfl
  .rfl
 refine⟨by rw[XX];exact h.l,by rw[em];exact h.d,fun p m=>?_⟩;rcases List.mem_or_eq_of_mem_set m with m | rfl
 .exact h.p p m
 .exact hy
theorem Ys.app{ns:ZG}{k:Bool}{ps:ZZ}{y:T}(h:Ys ns k ps)(l:ps.length<8)(hy:Ci ns k y)(hd:∀z∈ps.map Z7,z≠Z7 y):Ys ns k (ps++[y]):=by
 refine⟨by rw[Nb,ZU];omega, ?_,fun p m=>?_⟩
 .rw[O3,List.nodup_append];refine⟨h.d,by simp,fun a ma b mb=>?_⟩;rw[show b=Z7 y by simpa using mb];exact hd a ma
 .rcases Xj.mp m with m | m
  .exact h.p p m
  .cases Dl.mp m;exact hy
theorem kq{ts:ZZ}{i:Int}{t:T}{Q:T->Prop}(h0:0<=i)(h1:i<ts.length)(q:Q (.lst (ts.set i.toNat t))):on (putAt (.lst ts) (.int i) t) Q:=by
 refine Z1 ?_ q;show (jq ts.length i).map _=_;unfold jq;rw[if_pos h0,if_pos h1];rfl
theorem Zzp{ts:ZZ}{i:Int}{t:T}(h0:0<=i)(h1:i<ts.length):Ls (ts.set i.toNat t) i=some t:=by
 unfold Ls jq;rw[if_pos h0,XX,if_pos h1];show (ts.set i.toNat t)[i.toNat]?=_;rw[List.getElem?_set_self (by omega)]
noncomputable def Qa(k:Bool)(ps us:ZZ)(b:Bool):T:=match k with
 | true=>.tup [.str "record",.tup ps,.tup us]
 | false=>.tup [.str "choice",.tup ps,.tup us,.bl b]
set_option maxHeartbeats 2000000 in
theorem v7{w:W}(hD:Ug w.C){ns:ZG}{a0:List Sl}{k:Bool}{ps0 us ps:ZZ}{b:Bool}(hs:Stk us)(hp:Ys ns k ps){D:En}{N1:Sl}(rt:∀r zs i l k' p,TP (Zg zs i l k')->Shp ns r->p.length=12->D.rt (.f r) (.o (Zg zs i l k')::p))
  {zs:ZT} {i l k':Int} (tp:TP (Zg zs i l k')) (t0:T) (s3 s4 s6 s7 s8 s9:Sl) :
  wS w (Yv [.o t0,.f (.lst (ns.map .str)),.f (Qa k ps0 us b)]) (Yz 8 Zk) [.o (Zg zs i l k'),N1,.f (Qa k ps0 us b),s3,s4,.o (.lst ps),s6,s7,s8,s9,.no,.no,.no] D:=by
 obtain⟨zz,rfl,zl,zb⟩:=hs;obtain⟨qs,eq,hq⟩:=pq hp;cases k
 all_goals
  refine zr hp.p fun s0=>?_;refine Vl (fun rest acc p=>∃rs ms s0,rest=rs.map T.int/\acc=ms.map T.int/\(ms++rs).Sublist zz/\p=[s0,.o (.lst ((ps.map Z7).map .int))]) ⟨zz,[],_,rfl,rfl,List.Sublist.refl _,rfl⟩ (fun x r acc p K hi ky kn=>?_) fun acc p hi=>?_
  .obtain⟨rs,ms,s0,hr,rfl,hs,rfl⟩:=hi;cases rs with
   | nil=>cases hr
   | cons z rs =>
    cases hr;refine Pz ?_;refine Zq (b:=!((ps.map Z7).any fun y=>decide (y=z))) (fun _=>?_) fun _=>?_
    .exact ky _ _ ⟨rs,ms++[z],_,rfl,by rw[O3];rfl,by rw[ZI];exact hs,rfl⟩
    .exact kn _ ⟨rs,ms,_,rfl,rfl,(List.Sublist.append (List.Sublist.refl _) (List.sublist_cons_self _ _)).trans hs,rfl⟩
  obtain⟨rs,ms,s0,hr,rfl,hs,rfl⟩:=hi;have hs:ms.Sublist zz:=(List.sublist_append_left _ _).trans hs;have st:Stk (ms.map .int):=⟨ms,rfl,U8 hs.length_le zl,fun z m=>zb z (hs.subset m)⟩;refine srtP eq ?_
 .refine Zn hD tp (by omega) (by omega) fun r zs i l k r0 r1 tp=>?_;exact rt _ _ _ _ _ _ tp (.choice hq st) rfl
 .exact rt _ _ _ _ _ _ tp (.record hq st) rfl
theorem popP{ts:ZZ}{i:Int}{Q:T×T->Prop}(h0:0<=i)(h1:i<ts.length)(q:∀x,ts[i.toNat]?=some x->x∈ts->Q (.lst (ts.eraseIdx i.toNat),x)):on (mtT .popAt (.lst ts) [.int i]) Q:=by
 have hl:i.toNat<ts.length:=by omega
 have e:mtT .popAt (.lst ts) [.int i]=some (.lst (ts.eraseIdx i.toNat),ts[i.toNat]):=by
  show (if 0<=i/\i<ts.length then (ts[i.toNat]?).map fun x=>(T.lst (ts.eraseIdx i.toNat),x) else none)=_;rw[if_pos ⟨h0,h1⟩,Lh hl];rfl
 exact Z1 e (q _ (Lh hl) (G0e hl))
theorem bit{b:Bool}:(0:Int)<=(if b=true then 1 else 0)/\(if b=true then (1:Int) else 0)<2:=by cases b<;>decide
theorem Wg:∀a∈[("f" : Str),"g","h","k","b"],a.length=1/\∀c∈a.cps.toList,97<=c/\c<=122:=by decide +kernel
def jn:S->S
 | .seq (.ite _ _ b) _=>b
 | s=>s
theorem zc{j:Int}(h:T.int j∈[1,2,3,9,10,500].map T.int):j∈Dj:=by
 obtain⟨z,mz,ez⟩:=M4.mp h;cases ez;exact(show ∀z∈[1,2,3,9,10,500],z∈Dj by decide) j mz
set_option maxHeartbeats 4000000 in
theorem Xh{w:W}(hD:Ug w.C)(hW:K8 w.C){ns:ZG}(n0:0<ns.length)(n8:ns.length<=8){k:Bool}{us ps:ZZ}{b:Bool}(hs:Stk us)(hp:Ys ns k ps){D:En}(rt:∀r zs i l k' p,TP (Zg zs i l k')->Shp ns r->p.length=12->D.rt (.f r) (.o (Zg zs i l k')::p))
  {zs:ZT} {i l k':Int} (tp:TP (Zg zs i l k')) (t0:T) :
  wS w (Yv [.o t0,.f (.lst (ns.map .str)),.f (Qa k ps us b)]) (Yz 4 Zk) [.o (Zg zs i l k'),.f (.lst (ns.map .str)),.f (Qa k ps us b),.no,.no,.no,.no,.no,.no,.no,.no,.no,.no] D:=by
 have sl:=sizeLine_eq;have l0:(0:Int)<((ns.map T.str).length:Nat):=by rw[Y9];omega
 have l1:(((ns.map T.str).length:Nat):Int)<=1000000:=by rw[Y9];omega
 have pl:=hp.l;have fin:∀{Zi:ZZ} {zs i l k'} (s3 s4 s6 s7 s8 s9:Sl),TP (Zg zs i l k')->Ys ns k Zi->wS w (Yv [.o t0,.f (.lst (ns.map .str)),.f (Qa k ps us b)]) (Yz 8 Zk) [.o (Zg zs i l k'),.f (.lst (ns.map .str)),.f (Qa k ps us b),s3,s4,.o (.lst Zi),s6,s7,s8,s9,.no,.no,.no] D:=fun s3 s4 s6 s7 s8 s9 tp L3=>v7 hD (a0:=[]) hs L3 rt tp t0 s3 s4 s6 s7 s8 s9;cases k
 all_goals
  refine Zn hD tp (by omega) (by omega) fun a zs i l k a0 a1 tp=>?_;refine Zn hD tp (by omega) (by omega) fun way zs i l k w0 w1 tp=>?_;show wS w _ _ [.o (Zg zs i l k),.f (.lst (ns.map .str)),.f (Qa _ ps us b),.no,.no,.o (.lst ps),.f (.int a),.f (.int way),.no,.no,.no,.no,.no] _
 .have cw:wS w (Yv [.o t0,.f (.lst (ns.map .str)),.f (Qa false ps us b)]) (jn (jn (Yz 7 Zk))) [.o (Zg zs i l k),.f (.lst (ns.map .str)),.f (Qa false ps us b),.no,.no,.o (.lst ps),.f (.int a),.f (.int way),.no,.no,.no,.no,.no] ⟨fun q=>wS w (Yv [.o t0,.f (.lst (ns.map .str)),.f (Qa false ps us b)]) (Yz 8 Zk) q D,D.rt,D.bk,D.ct⟩:=by
   refine Zn hD tp (by omega) (by omega) fun r zs i l k r0 r1 tp=>?_;refine Nz 1 500 r0 r1 rfl fun j _ _ mj=>?_;have hj:j∈Dj:=zc mj;refine O6 hW hj ?_;have xj:=N8 (Wg "k" (by decide +kernel)) hj;refine K5 (by have:=xj.1;rw[Str.length_append]at this;omega) ?_;refine Zn hD tp l0 l1 fun r zs i l k r0 r1 tp=>?_;refine Vp r0 r1 fun o ho=>?_;refine zr hp.p fun s0=>?_;refine Pz ?_;refine Zq (b:=!((ps.map Z7).any fun y=>decide (y=j))) (fun h=>?_) fun _=>fin _ _ _ _ _ _ tp hp;refine Zq (b:=decide (((ps.length:Nat):Int)<8)) (fun h2=>?_) fun _=>fin _ _ _ _ _ _ tp hp;have h2:=Dk h2;refine U7 (by omega) ?_;exact fin _ _ _ _ _ _ tp (hp.app (by omega) (.mk hj xj ho trivial) (nh h))
  have els:wS w (Yv [.o t0,.f (.lst (ns.map .str)),.f (Qa false ps us b)]) (jn (Yz 7 Zk)) [.o (Zg zs i l k),.f (.lst (ns.map .str)),.f (Qa false ps us b),.no,.no,.o (.lst ps),.f (.int a),.f (.int way),.no,.no,.no,.no,.no] ⟨fun q=>wS w (Yv [.o t0,.f (.lst (ns.map .str)),.f (Qa false ps us b)]) (Yz 8 Zk) q D,D.rt,D.bk,D.ct⟩:=by
   refine Zq (b:=decide (way<3)) (fun _=>?_) fun _=>cw;refine Zq (b:=decide (a<((ps.length:Nat):Int))) (fun h2=>?_) fun _=>cw;have h2:=Dk h2;obtain⟨x,atx,gx,mx⟩:=Lg a0 h2;obtain⟨n,y,o,rfl,hn,hy,ho⟩:=(hp.p x mx).cho;refine Ts atx ?_;refine Zn hD tp l0 l1 fun r zs i l k r0 r1 tp=>?_;refine Vp r0 r1 fun o1 l5=>?_;refine Zn hD tp (by omega) (by omega) fun r zs i l k r0 r1 tp=>?_;refine Vp (ss:=[o,o1]) (bit (b:=decide (r=0))).1 (bit (b:=decide (r=0))).2 fun o2 N7=>?_
   have N7:o2∈ns:=by
    simp only[Ya,J5,or_false]at N7;rcases N7 with rfl | rfl
    .exact ho
    .exact l5
   refine Ts atx ?_;refine Ts atx ?_;refine O6 hW hn ?_;have xj:=N8 (Wg "h" (by decide +kernel)) hn;refine K5 (by have:=xj.1;rw[Str.length_append]at this;omega) ?_;refine Ts atx ?_;refine kq a0 h2 ?_;exact fin _ _ _ _ _ _ tp (hp.set gx (.mk hn xj N7 trivial) rfl)
  refine Zq (b:=decide (way=0)) (fun _=>?_) fun _=>els;refine Zq (b:=decide (a<((ps.length:Nat):Int))) (fun h2=>?_) fun _=>els;refine popP a0 (Dk h2) fun x _ _=>?_;exact fin _ _ _ _ _ _ tp (hp.sub (List.eraseIdx_sublist _ _))
 .have cw:wS w (Yv [.o t0,.f (.lst (ns.map .str)),.f (Qa true ps us b)]) (jn (jn (Yz 7 Zk))) [.o (Zg zs i l k),.f (.lst (ns.map .str)),.f (Qa true ps us b),.no,.no,.o (.lst ps),.f (.int a),.f (.int way),.no,.no,.no,.no,.no] ⟨fun q=>wS w (Yv [.o t0,.f (.lst (ns.map .str)),.f (Qa true ps us b)]) (Yz 8 Zk) q D,D.rt,D.bk,D.ct⟩:=by
   refine Zn hD tp (by omega) (by omega) fun r zs i l k r0 r1 tp=>?_;refine Nz 1 500 r0 r1 rfl fun j _ _ mj=>?_;have hj:j∈Dj:=zc mj;refine O6 hW hj ?_;have xj:=N8 (Wg "k" (by decide +kernel)) hj;refine K5 (by have:=xj.1;rw[Str.length_append]at this;omega) ?_;refine Zn hD tp l0 l1 fun r zs i l k r0 r1 tp=>?_;refine Vp r0 r1 fun o ho=>?_;refine Zn hD tp (by omega) (by omega) fun r zs i l k r0 r1 tp=>?_;refine ixP r0 r1 fun d _ md=>?_
   have hd:lb d:=by
    simp only[Ya,J5,or_false]at md;rcases md with rfl | rfl
    .exact .no
    .exact .is (.int (by unfold Fg;decide))
   refine zr hp.p fun s0=>?_;refine Pz ?_;refine Zq (b:=!((ps.map Z7).any fun y=>decide (y=j))) (fun h=>?_) fun _=>fin _ _ _ _ _ _ tp hp;refine Zq (b:=decide (((ps.length:Nat):Int)<8)) (fun h2=>?_) fun _=>fin _ _ _ _ _ _ tp hp;have h2:=Dk h2;refine U7 (by omega) ?_;exact fin _ _ _ _ _ _ tp (hp.app (by omega) (.mk hj xj ho hd) (nh h))
  have els:wS w (Yv [.o t0,.f (.lst (ns.map .str)),.f (Qa true ps us b)]) (jn (Yz 7 Zk)) [.o (Zg zs i l k),.f (.lst (ns.map .str)),.f (Qa true ps us b),.no,.no,.o (.lst ps),.f (.int a),.f (.int way),.no,.no,.no,.no,.no] ⟨fun q=>wS w (Yv [.o t0,.f (.lst (ns.map .str)),.f (Qa true ps us b)]) (Yz 8 Zk) q D,D.rt,D.bk,D.ct⟩:=by
   refine Zq (b:=decide (way<3)) (fun _=>?_) fun _=>cw;refine Zq (b:=decide (a<((ps.length:Nat):Int))) (fun h2=>?_) fun _=>cw;have h2:=Dk h2;obtain⟨x,atx,gx,mx⟩:=Lg a0 h2;obtain⟨n,y,o,ds,rfl,hn,hy,ho,hd⟩:=(hp.p x mx).asR;refine Ts atx ?_;refine Zn hD tp l0 l1 fun r zs i l k r0 r1 tp=>?_;refine Vp r0 r1 fun o1 l5=>?_;refine Zn hD tp (by omega) (by omega) fun r zs i l k r0 r1 tp=>?_;refine Vp (ss:=[o,o1]) (bit (b:=decide (r=0))).1 (bit (b:=decide (r=0))).2 fun o2 N7=>?_
   have N7:o2∈ns:=by
    simp only[Ya,J5,or_false]at N7;rcases N7 with rfl | rfl
    .exact ho
    .exact l5
   refine Ts atx ?_;refine Ts atx ?_;refine O6 hW hn ?_;have xj:=N8 (Wg "h" (by decide +kernel)) hn;refine K5 (by have:=xj.1;rw[Str.length_append]at this;omega) ?_;refine Ts atx ?_;refine kq a0 h2 ?_;have h1:=hp.set gx (.mk hn xj N7 hd:Ci ns true (.tup [.int n,.str ("h" ++ wd n),.str o2,.tup ds])) rfl;refine Zn hD tp (by omega) (by omega) fun r zs i l k r0 r1 tp=>?_;refine Zq (b:=decide (r=0)) (fun _=>?_) fun _=>fin _ _ _ _ _ _ tp h1;refine Zn hD tp (by omega) (by omega) fun r zs i l k r0 r1 tp=>?_;refine ixP r0 r1 fun s _ ms=>?_
   have hsd:lb s:=by
    simp only[Ya,J5,or_false]at ms;rcases ms with rfl | rfl | rfl
    .exact .is (.int (by unfold Fg;decide))
    .exact .is (.int (by unfold Fg;decide))
    .exact .is (.str (Qu (by decide +kernel) (Wg "b" (by decide +kernel)).2))
   have ga:=Zzp (t:=.tup [.int n,.str ("h" ++ wd n),.str o2,.tup ds]) a0 h2;refine Ts ga ?_;refine Ts ga ?_;refine ixP (bit (b:=ds.isEmpty)).1 (bit (b:=ds.isEmpty)).2 fun d _ md=>?_
   have hd2:lb d:=by
    simp only[Ya,J5,or_false]at md;rcases md with rfl | rfl
    .exact .no
    .exact hsd
   refine kq a0 (by rw[XX];exact h2) ?_;refine fin _ _ _ _ _ _ tp (h1.set (x:=.tup [.int n,.str ("h" ++ wd n),.str o2,.tup ds]) ?_ (.mk hn xj N7 hd2) rfl);rw[List.getElem?_set_self (by omega)]
  refine Zq (b:=decide (way=0)) (fun _=>?_) fun _=>els;refine Zq (b:=decide (a<((ps.length:Nat):Int))) (fun h2=>?_) fun _=>els;refine popP a0 (Dk h2) fun x _ _=>?_;exact fin _ _ _ _ _ _ tp (hp.sub (List.eraseIdx_sublist _ _))
theorem k8(x:Str)(is:List Nat):∀c∈(Str.mk (is.filterMap (x.cps[·]?)).toArray).cps.toList,c∈x.cps.toList:=fun c m=>by
 have m:c∈is.filterMap (x.cps[·]?):=by simpa using m
 obtain⟨i,_,e⟩:=List.mem_filterMap.mp m;have:=Array.mem_of_getElem? e;exact Array.mem_toList_iff.mpr this
theorem ix_hi(l:ZC)(k n:Nat):(Builtin.Str.strSliceIndices l (some (k:Int)) 1 n).length<=k:=by
 unfold Builtin.Str.strSliceIndices sliceRange;cases l<;>simp only[show (1:Int)>0 by decide,if_true,Y9,XZ]<;>(split<;>(try split)<;>(try split)<;>(try simp only[Int.ediv_one])<;>omega)
theorem yb(x:Str)(l:ZC)(k:Nat):(Txt.slice x l (some (k:Int))).length<=k:=by
 have h:=ix_hi l k x.length;unfold Txt.slice
 split
 .rename_i c
  simp only[Jx,beq_iff_eq]at c;omega
 .show (List.filterMap _ (Builtin.Str.strSliceIndices l (some (k:Int)) 1 x.length)).toArray.size<=k;rw[Ul];exact U8 (List.length_filterMap_le _ _) h
theorem qm(x:Str)(l u:ZC):∀c∈(Txt.slice x l u).cps.toList,c∈x.cps.toList:=by
 unfold Txt.slice
 split
 .exact fun _ m=>m
 .exact k8 x _
theorem wCompE{body:T->P->(Option T->P->Prop)->Prop}{xs ys acc:ZZ}{p:P}{Q:ZZ->P->Prop}(e:xs=ys)(h:V4 body ys acc p Q):V4 body xs acc p Q:=by rw[e];exact h
set_option maxHeartbeats 2000000 in
theorem C1{w:W}(hD:Ug w.C)(hW:K8 w.C)(hT:Zqw w.C){ns:ZG}(n0:0<ns.length)(n8:ns.length<=8){t:T}(ht:Shp ns t):Td Yt w [.f (.lst (ns.map .str)),.f t] (wj (Shp ns)):=by
 intro zs i l k tp;have l0:(0:Int)<((ns.map T.str).length:Nat):=by rw[Y9];omega
 have l1:(((ns.map T.str).length:Nat):Int)<=1000000:=by rw[Y9];omega
 refine Zu rfl fun D rt _=>?_
 have Tq:∀r zs i l k' p,TP (Zg zs i l k')->Shp ns r->p.length=12->D.rt (.f r) (.o (Zg zs i l k')::p):=fun r zs i l k' p tp hr hp=>by
  refine rt _ _ ?_
  match p,hp with
  | a::b::p,_=>exact⟨_,_,⟨_,rfl,hr⟩,tp,rfl⟩
 cases ht with
 | @whole a b ha hb _ =>
  refine wCompE (ys:=[.int a,.int b]) rfl ?_;refine Lp (hT (lo:=-10 ^ 18) (hi:=10 ^ 18) (by decide)) tp fun r zs i l k hr tp=>?_;obtain⟨_,rfl,u,rfl,u0,u1⟩:=hr;refine Lp (hT (lo:=-10 ^ 18) (hi:=10 ^ 18) (by decide)) tp fun r zs i l k hr tp=>?_;obtain⟨_,rfl,v,rfl,v0,v1⟩:=hr;exact rt _ _ ⟨.f (.tup [.str "whole",.int (if v<u then v else u),.int (if u<v then v else u)]),_,⟨_,rfl,.whole ⟨by split<;>omega,by split<;>omega⟩ ⟨by split<;>omega,by split<;>omega⟩ (by split<;>split<;>omega)⟩,tp,rfl⟩
 | text h0 h1 =>
  refine Lp (hT (lo:=0) (hi:=200) (by decide)) tp fun r zs i l k hr tp=>?_;obtain⟨_,rfl,u,rfl,u0,u1⟩:=hr;exact rt _ _ ⟨_,_,⟨_,rfl,.text u0 u1⟩,tp,rfl⟩
 | truth =>
  refine Zn hD tp (by omega) (by omega) fun r zs i l k r0 r1 tp=>?_;refine ixP r0 r1 fun x _ mx=>?_;simp only[Ya,J5,or_false]at mx;rcases mx with rfl | rfl | rfl
  .exact rt _ _ ⟨_,_,⟨_,rfl,.truth⟩,tp,rfl⟩
  .exact rt _ _ ⟨_,_,⟨_,rfl,.whole (by unfold Fg;decide) (by unfold Fg;decide) (by decide)⟩,tp,rfl⟩
  .exact rt _ _ ⟨_,_,⟨_,rfl,.whole (by unfold Fg;decide) (by unfold Fg;decide) (by decide)⟩,tp,rfl⟩
 | @row o n ho h0 h1 =>
  refine Zn hD tp l0 l1 fun r zs i l k r0 r1 tp=>?_;refine Vp r0 r1 fun o1 l5=>?_;refine Zn hD tp (by omega) (by omega) fun r zs i l k r0 r1 tp=>?_;refine Vp (ss:=[o,o1]) (bit (b:=decide (r=0))).1 (bit (b:=decide (r=0))).2 fun o2 N7=>?_
  have N7:o2∈ns:=by
   simp only[Ya,J5,or_false]at N7;rcases N7 with rfl | rfl
   .exact ho
   .exact l5
  refine Lp (hT (lo:=0) (hi:=20) (by decide)) tp fun r zs i l k hr tp=>?_;obtain⟨_,rfl,u,rfl,u0,u1⟩:=hr;exact rt _ _ ⟨_,_,⟨_,rfl,.row N7 u0 u1⟩,tp,rfl⟩
 | @map o n ho h0 h1 =>
  refine Zn hD tp l0 l1 fun r zs i l k r0 r1 tp=>?_;refine Vp r0 r1 fun o1 l5=>?_;refine Zn hD tp (by omega) (by omega) fun r zs i l k r0 r1 tp=>?_;refine Vp (ss:=[o,o1]) (bit (b:=decide (r=0))).1 (bit (b:=decide (r=0))).2 fun o2 N7=>?_
  have N7:o2∈ns:=by
   simp only[Ya,J5,or_false]at N7;rcases N7 with rfl | rfl
   .exact ho
   .exact l5
  refine Lp (hT (lo:=0) (hi:=20) (by decide)) tp fun r zs i l k hr tp=>?_;obtain⟨_,rfl,u,rfl,u0,u1⟩:=hr;exact rt _ _ ⟨_,_,⟨_,rfl,.map N7 u0 u1⟩,tp,rfl⟩
 | @record ps us hp hs=>exact Xh hD hW n0 n8 (k:=true) (b:=true) hs hp Tq tp (Zg zs i l k)
 | @choice ps us b hp hs=>exact Xh hD hW n0 n8 (k:=false) (b:=b) hs hp Tq tp (Zg zs i l k)
theorem maxB{lo hi:Int}{b c:Bool}(le:lo<=hi)(hc:c=decide ((if b=true then 1 else 0)<hi)){Q:Sl->Prop}(q:∀t,(t=.bl b/\lo<=(if b=true then 1 else 0)/\(if b=true then (1:Int) else 0)<=hi)\/(∃z,t=.int z/\lo<=z/\z<=hi)->Q (.f t)):on (Ww .max [.int lo,if c=true then .bl b else .int hi]) Q:=by
 cases c with
 | true =>
  have h1:=Dk hc.symm;show Q (.f (if decide ((if b=true then 1 else 0)>lo)=true then .bl b else .int lo));by_cases h2:(if b=true then (1:Int) else 0)>lo
  .rw[Jo h2,if_pos rfl];exact q _ (.inl ⟨rfl,by omega,by omega⟩)
  .rw[Mr h2,if_neg Qv];exact q _ (.inr ⟨lo,rfl,Int.le_refl _,le⟩)
 | false =>
  show Q (.f (.int (if hi>lo then hi else lo)))
  split
  .exact q _ (.inr ⟨hi,rfl,le,Int.le_refl _⟩)
  .exact q _ (.inr ⟨lo,rfl,Int.le_refl _,le⟩)
theorem Bx{x:Str}(h:Sm x)(l u:ZC):Sm (Txt.slice x l u):=⟨U8 (Txt.slice_le x l u) h.1,fun c m=>h.2 c (qm x l u c m)⟩
theorem Hi{lo hi i:Int}(le:lo<=hi):lo<=(if (if i<hi then i else hi)>lo then (if i<hi then i else hi) else lo)+0/\(if (if i<hi then i else hi)>lo then (if i<hi then i else hi) else lo)+0<=hi:=by
 split<;>split<;>omega
theorem bnd_in{lo hi i:Int}(h1:Fg lo)(h2:Fg hi)(h:lo<=i/\i<=hi):Fg i:=by
 obtain⟨a,b⟩:=h1;obtain⟨c,d⟩:=h2;exact⟨by omega,by omega⟩
def lz(C:Cs):Prop:=∀{ns ss:ZG} {XY:ZX} {t:T},B3 ns XY ss->(∀x∈ns,x∈ss)->Shp ns t->cN (C "_law_fixed" [.o (.dct XY),.f t]) fun x=>∃u,(Shp ns u/\Fd XY u/\∀d,Y8 t d->u=t)/\x=(.f u,[.dct XY])
set_option maxHeartbeats 4000000 in
theorem ta{w:W}{ns ss:ZG}{XY:ZX}{t:T}(hf:B3 ns XY ss)(sub:∀x∈ns,x∈ss)(ht:Shp ns t):wF Jl w [.o (.dct XY),.f t] fun x=>∃u,(Shp ns u/\Fd XY u/\∀d,Y8 t d->u=t)/\x=(.f u,[.dct XY]):=by
 have sl:=sizeLine_eq;refine Zu rfl fun D rt _=>?_;cases ht with
 | whole ha hb le=>exact rt _ _ ⟨_,⟨.whole ha hb le,fun _ _ e=>(by cases e),fun _ _=>rfl⟩,rfl⟩
 | truth=>exact rt _ _ ⟨_,⟨.truth,fun _ _ e=>(by cases e),fun _ _=>rfl⟩,rfl⟩
 | text h0 h1=>exact rt _ _ ⟨_,⟨.text h0 h1,fun _ _ e=>(by cases e),fun _ _=>rfl⟩,rfl⟩
 | row ho h0 h1=>exact rt _ _ ⟨_,⟨.row ho h0 h1,fun _ _ e=>(by cases e),fun _ _=>rfl⟩,rfl⟩
 | map ho h0 h1=>exact rt _ _ ⟨_,⟨.map ho h0 h1,fun _ _ e=>(by cases e),fun _ _=>rfl⟩,rfl⟩
 | choice hp hs=>exact rt _ _ ⟨_,⟨.choice hp hs,fun _ _ e=>(by cases e),fun _ _=>rfl⟩,rfl⟩
 | @record fs us hp hs =>
  have fl:=hp.l;refine Dp (fun rest p=>∃ps s3 s4 s5 s6 s7,p=[.o (.dct XY),.f (.tup [.str "record",.tup fs,.tup us]),.o (.lst ps),s3,s4,s5,s6,s7]/\ps.map Z7++rest.map Z7=fs.map Z7/\(∀p∈ps,Ci ns true p/\Hz XY p)/\∀x∈rest,x∈fs) ⟨[],_,_,_,_,_,rfl,rfl,fun p m=>absurd m J5,fun x m=>m⟩ (fun x r p D' hi nx _=>?_) fun p hi=>?_
  .obtain⟨ps,s3,s4,s5,s6,s7,rfl,he,hq,hm⟩:=hi;obtain⟨n,y,o,ds,rfl,hn,hy,ho,hd⟩:=(hp.p x (hm _ Yb)).asR;have Gu:∀x∈r,x∈fs:=fun x m=>hm x (Y5 _ m);have hl:ps.length<sizeLine:=by have:=congrArg List.length he;simp at this;omega
   have more:∀d s3 s4 s5 s6 s7,lb d->(∀x,d=.tup [x]->∃s,Zj XY (.inr o)=some s/\Y8 s x)->D'.nx [.o (.dct XY),.f (.tup [.str "record",.tup fs,.tup us]),.o (.lst (ps++[.tup [.int n,.str y,.str o,d]])),s3,s4,s5,s6,s7]:=fun d s3 s4 s5 s6 s7 hd hx=>nx _ ⟨_,_,_,_,_,_,rfl,by rw[O3,ZI];exact he,fun p m=>by
    rcases Xj.mp m with m | m
    .exact hq p m
    .cases Dl.mp m;exact⟨.mk hn hy ho hd,fun n' y' o' d' e=>(by cases e;exact hx d' rfl)⟩,Gu⟩
   obtain⟨f,e,hsf⟩:=hf.get (sub o ho);refine Gj e ?_;have no:∀x:T,T.tup []=.tup [x]->∃s,Zj XY (.inr o)=some s/\Y8 s x:=fun x z=>by cases z
   have one:∀{x:T},Y8 f x->∀y:T,T.tup [x]=.tup [y]->∃s,Zj XY (.inr o)=some s/\Y8 s y:=fun h y z=>by cases z;exact⟨f,e,h⟩
   cases hsf with
   | record _ _=>cases hd<;>(refine U7 hl ?_;exact more _ _ _ _ _ _ .no no)
   | choice _ _=>cases hd<;>(refine U7 hl ?_;exact more _ _ _ _ _ _ .no no)
   | @whole lo tw b1 b2 le =>
    cases hd with
    | no=>refine U7 hl ?_;exact more _ _ _ _ _ _ .no no
    | is h =>
     have fin:∀{z:Int} {s3 s4 s5 s6 s7:Sl},lo<=z/\z<=tw->D'.nx [.o (.dct XY),.f (.tup [.str "record",.tup fs,.tup us]),.o (.lst (ps++[.tup [.int n,.str y,.str o,.tup [.int z]]])),s3,s4,s5,s6,s7]:=fun h=>more _ _ _ _ _ _ (.is (.int (bnd_in b1 b2 h))) (one (.whole h.1 h.2));cases h with
     | @int i h=>refine U7 hl ?_;exact fin (Hi le)
     | str h=>refine U7 hl ?_;exact fin (Hi le)
     | nil=>refine U7 hl ?_;exact fin (Hi le)
     | @bl b =>
      refine maxB le rfl fun t ht=>?_;rcases ht with ⟨rfl,h1,h2⟩ | ⟨z,rfl,h1,h2⟩
      .refine U7 hl ?_;exact fin ⟨by rw[Int.add_zero];exact h1,by rw[Int.add_zero];exact h2⟩
      .refine U7 hl ?_;exact fin ⟨by rw[Int.add_zero];exact h1,by rw[Int.add_zero];exact h2⟩
   | truth =>
    cases hd with
    | no=>refine U7 hl ?_;exact more _ _ _ _ _ _ .no no
    | is h=>cases h<;>(refine U7 hl ?_;exact more _ _ _ _ _ _ (.is .bl) (one .truth))
   | @text m h0 h1 =>
    have sh:∀x:Str,((Txt.slice x none (some m)).length:Int)<=m:=fun x=>by
     obtain⟨k,rfl⟩:=Int.eq_ofNat_of_zero_le h0;have:=yb x none k;omega
    have em:Sm "" := by unfold Sm;decide +kernel
    cases hd with
    | no=>refine U7 hl ?_;exact more _ _ _ _ _ _ .no no
    | is h =>
     cases h with
     | str h =>
      refine Q4 (by have:=h.1;omega) ?_;refine U7 hl ?_;exact more _ _ _ _ _ _ (.is (.str (Bx h _ _))) (one (.text (sh _)))
     | int h=>refine U7 hl ?_;exact more _ _ _ _ _ _ (.is (.str (Bx em _ _))) (one (.text (sh _)))
     | bl=>refine U7 hl ?_;exact more _ _ _ _ _ _ (.is (.str (Bx em _ _))) (one (.text (sh _)))
     | nil=>refine U7 hl ?_;exact more _ _ _ _ _ _ (.is (.str (Bx em _ _))) (one (.text (sh _)))
   | row _ _ _ =>
    cases hd with
    | no=>refine U7 hl ?_;exact more _ _ _ _ _ _ .no no
    | is h=>refine U7 hl ?_;exact more _ _ _ _ _ _ (.is .nil) (one .row)
   | map _ _ _ =>
    cases hd with
    | no=>refine U7 hl ?_;exact more _ _ _ _ _ _ .no no
    | is h=>refine U7 hl ?_;exact more _ _ _ _ _ _ (.is .nil) (one .map)
  .obtain⟨ps,s3,s4,s5,s6,s7,rfl,he,hq,hm⟩:=hi;have he:ps.map Z7=fs.map Z7:=by simpa using he
   exact rt _ _ ⟨_,⟨.record ⟨by have:=congrArg List.length he;simp at this;omega,by rw[he];exact hp.d,fun p m=>(hq p m).1⟩ hs,fun Zi us' e p m=>(by cases e;exact(hq p m).2),fun d z=>(by cases z)⟩,rfl⟩
def PShT(C:Cs):Prop:=∀{ns:ZG} {t:T},0<ns.length->ns.length<=8->Shp ns t->Tp C "_law_shape_turned" [.f (.lst (ns.map .str)),.f t] (wj (Shp ns))
theorem B3.putU{ns ss:ZG}{XY:ZX}{x:Str}{v:T}(h:B3 ns XY ss)(hx:x∈ss)(hv:Shp ns v):B3 ns (Ym XY (.inr x) v) ss:=by
 obtain⟨us,h1,_,h3⟩:=h.put (h.n x hx) hv;rw[h3 hx]at h1;exact h1
set_option maxHeartbeats 2000000 in
theorem x8{w:W}(hD:Ug w.C)(hS:PShT w.C)(hF:lz w.C)(hL:Xq w.C){root:Str}{XY:ZX}{ss:ZG}(h:Dw root XY ss):Td Uh w [.f (.tup [.str root,.dct XY])] Ws:=by
 intro zs i l k tp;have sl:=sizeLine_eq;have h8:=h.l8;have h0:=h.l0;have pm:=SRT.Z2 ss;have hn:(SRT.Vr ss).length=ss.length:=pm.length_eq;have f0:B3 (SRT.Vr ss) XY ss:=⟨h.f.k,h.f.d,fun x m=>pm.mem_iff.mpr m,fun p m=>(h.f.p p m).mono fun x m=>pm.mem_iff.mpr m⟩;have sub:∀x∈SRT.Vr ss,x∈ss:=fun x m=>pm.mem_iff.mp m;refine Zu rfl fun D rt _=>?_;refine Du (h.f.srt (by omega)) ?_;generalize SRT.Vr ss=us at hn f0 sub;have l0:(0:Int)<((us.map T.str).length:Nat):=by rw[Y9];omega
 have l1:(((us.map T.str).length:Nat):Int)<=1000000:=by rw[Y9];omega
 refine Zn hD tp (by omega) (by omega) fun r zs i l k r0 r1 tp=>?_;refine Nz 0 12 r0 r1 rfl fun m m0 m1 _=>?_;refine rngP (by omega) (by omega) ?_;refine Dp (fun rest p=>∃kvs' zs i l k s2 s4 s5,p=[.o (Zg zs i l k),.f (.tup [.str root,.dct XY]),s2,.o (.dct kvs'),s4,s5]/\OF s2 (.lst (us.map .str))/\TP (Zg zs i l k)/\B3 us kvs' ss) ⟨XY,zs,i,l,k,_,_,_,rfl,.inl rfl,tp,f0⟩ (fun x r p D' hi nx _=>?_) fun p hi=>?_
 .obtain⟨kvs',zs,i,l,k,s2,s4,s5,rfl,eh,tp,hf⟩:=hi;have go:∀s2:Sl,OF s2 (.lst (us.map .str))->D'.nx=D'.nx:=fun _ _=>rfl;have hl:kvs'.length<sizeLine:=by have:=hf.len;omega
  rcases eh with rfl | rfl
  all_goals
   refine Zn hD tp l0 l1 fun r zs i l k r0 r1 tp=>?_;refine Vp r0 r1 fun o ho=>?_;have ho:=sub o ho;obtain⟨t,e,ht⟩:=hf.get ho;refine Gj e ?_;refine Lp (hS (by omega) (by omega) ht) tp fun r zs i l k hr tp=>?_;obtain⟨u,rfl,hu⟩:=hr;refine C2 hl ?_;exact nx _ ⟨_,_,_,_,_,_,_,_,rfl,.inr rfl,tp,hf.putU ho hu⟩
 obtain⟨kvs',zs,i,l,k,s2,s4,s5,rfl,eh,tp,hf⟩:=hi;refine y8 eh rfl ?_;refine Dp (fun rest p=>∃rs kvs' s5,rest=rs.map T.str/\p=[.o (Zg zs i l k),.f (.tup [.str root,.dct XY]),.f (.lst (us.map .str)),.o (.dct kvs'),s4,s5]/\B3 us kvs' ss/\(∀x∈ss,x∈rs\/∀t,Zj kvs' (.inr x)=some t->Fd kvs' t)/\∀x∈rs,x∈ss) ⟨us,kvs',_,rfl,rfl,hf,fun x m=>.inl (f0.n x m),sub⟩ (fun x r p D' hi nx _=>?_) fun p hi=>?_
 .obtain⟨rs,kvs',s5,hr,rfl,hf,hx,hm⟩:=hi;cases rs with
  | nil=>cases hr
  | cons y rs =>
   cases hr;have hy:=hm y Yb;obtain⟨t,e,ht⟩:=hf.get hy;refine Gj e ?_;refine Zz (hF hf sub ht) fun x hy'=>?_;obtain⟨u,⟨hu,hfu,xj⟩,rfl⟩:=hy';refine C2 (by have:=hf.len;omega) ?_;have kp:wz kvs' (Ym kvs' (.inr y) u):=Wr fun t' d e' f=>by rw[e]at e';cases e';exact xj d f
   refine nx _ ⟨rs,_,_,rfl,rfl,hf.putU hy hu,fun x m=>?_,fun x m=>hm x (Y5 _ m)⟩;by_cases z:y=x
   .subst z;refine .inr fun t' e'=>?_;rw[Vy,if_pos rfl]at e';cases e';exact hfu.keep kp
   .rcases hx x m with q | q
    .exact .inl ((Ya.mp q).resolve_left fun w=>z w.symm)
    .refine .inr fun t' e'=>?_;rw[Vy,if_neg fun w=>z (Sum.inr.inj w)]at e';exact(q t' e').keep kp
 obtain⟨rs,kvs',s5,hr,rfl,hf,hx,hm⟩:=hi;refine Zz (hL (root:=root) (XY:=kvs') (ss:=ss) ⟨⟨hf.k,hf.d,fun x m=>m,fun p m=>(hf.p p m).mono sub⟩,h0,h8,h.po,h.r,fun x t e=>?_⟩) fun x hx=>?_
 .have mx:x∈ss:=by
   have:=zi e;rw[hf.k]at this;obtain⟨y,my,ey⟩:=M4.mp this;cases ey;exact my
  rcases hx x mx with q | q
  .cases rs with
   | nil=>cases q
   | cons _ _=>cases hr
  .exact q t e
 obtain⟨kvs2,hm,rfl⟩:=hx;exact rt _ _ ⟨_,_,⟨_,_,_,rfl,hm⟩,tp,rfl⟩
def Zqy(C:Cs):Prop:=∀zs:ZT,cN (C "_law_tape" [.f (.lst (zs.map .int))]) fun x=>∃t,TP t/\x=(.o t,[])
def xu(C:Cs):Prop:=∀{root:Str} {XY:ZX} {ss:ZG},Dw root XY ss->Tp C "_law_turned" [.f (.tup [.str root,.dct XY])] Ws
theorem Dh{body:T->P->En->Prop}{xs:ZZ}{p:P}{D:En}(I:ZZ->P->Prop)(h:I xs p)(st:∀x r p (D':En),I (x::r) p->(∀q,I r q->D'.nx q)->(∀s q,D.rt s q->D'.rt s q)->body x p D')(q:∀q,I [] q->D.nx q):Nt body xs p D :=
 Xy I (fun _=>False) D.rt (fun x r p D' h n _ _ r'=>st x r p D' h n r') xs p D h q (fun _ z=>z.elim) fun _ _ z=>z
def Ld(P:Prop)(x:Sl×ZZ):Prop:=∃b:Bool,(b=true↔P)/\x=(.f (.bl b),[])
def Ll(C:Cs):Prop:=∀{root x:Str} {XY:ZX} {t:T},Zj XY (.inr x)=some t->cN (C "form_of" [.f (.tup [.str root,.dct XY]),.f (.str x)]) fun y=>y=(.f t,[])
theorem Zzy{w:W}{root x:Str}{XY:ZX}{t:T}(e:Zj XY (.inr x)=some t):wF Mc w [.f (.tup [.str root,.dct XY]),.f (.str x)] fun y=>y=(.f t,[]):=by
 refine Zu rfl fun D rt _=>?_;refine rt _ _ ?_;show ((.f ((Zj XY (.inr x)).getD .non),[]):Sl×ZZ)=(.f t,[]);rw[e];rfl
theorem iw{w:W}{n:Int}{x o:Str}{ds:ZZ}:wF Y3 w [.f (.tup [.int n,.str x,.str o,.tup ds])] fun y=>y=(.f (.bl (!ds.isEmpty)),[]):=by
 refine Zu rfl fun D rt _=>?_;exact rt _ _ rfl
def K9(C:Cs):Prop:=∀{n:Int} {x o:Str} {ds:ZZ},cN (C "may_be_left_out" [.f (.tup [.int n,.str x,.str o,.tup ds])]) fun y=>y=(.f (.bl (!ds.isEmpty)),[])
noncomputable def Z3(ps:ZZ)(n:Int):Option T:=ps.find? fun p=>decide (Z7 p=n)
theorem Ea{p:T}{ps:ZZ}{n:Int}(e:Z7 p=n):Z3 (p::ps) n=some p:=List.find?_cons_of_pos (p:=fun p=>decide (Z7 p=n)) (Jo e)
theorem Eo{p:T}{ps:ZZ}{n:Int}(e:Z7 p≠n):Z3 (p::ps) n=Z3 ps n:=List.find?_cons_of_neg (p:=fun p=>decide (Z7 p=n)) fun z=>e (Dk z)
def n9(C:Cs):Prop:=∀{ns:ZG} {k:Bool} {ps r:ZZ} {s:Str} {n:Int},(∀p∈ps,Ci ns k p)->cN (C "member_of" [.f (.tup (.str s::.tup ps::r)),.f (.int n)]) fun x=>x=(.f ((Z3 ps n).getD .non),[])
theorem qp{w:W}{ns:ZG}{k:Bool}{ps r:ZZ}{s:Str}{n:Int}(h:∀p∈ps,Ci ns k p):wF Jw w [.f (.tup (.str s::.tup ps::r)),.f (.int n)] fun x=>x=(.f ((Z3 ps n).getD .non),[]):=by
 refine Zu rfl fun D rt _=>?_;refine ixSn ?_;refine Dh (fun rest p=>∃s2,p=[.f (.tup (.str s::.tup ps::r)),.f (.int n),s2]/\(∀x∈rest,x∈ps)/\Z3 ps n=Z3 rest n) ⟨_,rfl,fun x m=>m,rfl⟩ (fun x rest p D' hi nx Tq=>?_) fun p hi=>?_
 .obtain⟨s2,rfl,hr,hf⟩:=hi;have hx:=h x (hr x Yb);cases hx with | @mk m y o ds hn hy ho hd =>
  refine ip ?_;refine Zq (b:=decide (m=n)) (fun e=>?_) fun e=>?_
  .refine Tq _ _ (rt _ _ ?_);rw[hf,Ea (show Z7 (T.tup (.int m::.str y::.str o::ds))=n from Dk e)];rfl
  .refine nx _ ⟨_,rfl,fun y m=>hr y (Y5 _ m), ?_⟩;rw[hf,Eo (show Z7 (T.tup (.int m::.str y::.str o::ds))≠n from of_decide_eq_false e)]
 .obtain⟨s2,rfl,_,hf⟩:=hi;exact rt _ _ (by rw[hf];rfl)
theorem find_none{ps:ZZ}{n:Int}:Z3 ps n=none↔∀g∈ps,Z7 g≠n:=by
 unfold Z3;rw[XJ];exact⟨fun h g m e=>h g m (Jo e),fun h g m e=>h g m (Dk e)⟩
theorem find_some{ps:ZZ}{n:Int}{g:T}(d:(ps.map Z7).Nodup):Z3 ps n=some g↔g∈ps/\Z7 g=n:=by
 constructor
 .intro h;exact⟨List.mem_of_find?_eq_some h,Dk (by have:=List.find?_some h;exact this)⟩
 .rintro⟨m,e⟩
  induction ps with
  | nil=>cases m
  | cons p ps ih =>
   obtain⟨d1,d2⟩:=List.nodup_cons.mp (show (Z7 p::ps.map Z7).Nodup from d);rcases Ya.mp m with rfl | m
   .exact Ea e
   .rw[Eo fun z=>d1 (by rw[z, <-e];exact List.mem_map_of_mem m)];exact ih d2 m
def sq:Bool->ZZ->T
 | true,ts=>.lst ts
 | false,ts=>.tup ts
noncomputable def Zv(l:Bool)(ps:List (Str×Str))(es:ZG):T:=.tup [sq l (ps.map pr2),sq l (es.map .str)]
noncomputable def hB(ps:List (Str×Str))(es:ZG)(w r:Str):Bool:=(ps.any fun q=>decide (q=(w,r))) || es.any fun y=>decide (y=w)
theorem Qj(q:Str×Str):∀ps:List (Str×Str),Ja (pr2 q) (ps.map pr2)=some (ps.any fun p=>decide (p=q))
 | []=>rfl
 | p::ps=>by
  show (Hy (pr2 p) (pr2 q)).bind _=_
  have e:Hy (pr2 p) (pr2 q)=some (decide (p=q)):=by
   show some (decide (p.1=q.1) && (decide (p.2=q.2) && true))=_;rw[Bool.and_true, <-Bool.decide_and]
   congr 1
   exact decide_eq_decide.mpr ⟨fun⟨a,b⟩=>Prod.ext a b,fun e=>by rw[e];exact⟨rfl,rfl⟩⟩
  rw[e];show (Ja (pr2 q) (ps.map pr2)).map _=_;rw[Qj q ps];rfl
theorem inpP{l:Bool}{q:Str×Str}{ps:List (Str×Str)}{Q:Sl->Prop}(h:Q (.f (.bl (ps.any fun p=>decide (p=q))))):on ((Dn .isin (.tup [.str q.1,.str q.2]) (sq l (ps.map pr2))).map fun r=>Sl.f (.bl r)) Q:=Z1 (by cases l<;>exact congrArg (Option.map fun r=>Sl.f (.bl r)) (Qj q ps)) h
theorem D5{l:Bool}{a:Str}{zs:ZG}{Q:Sl->Prop}(q:Q (.f (.bl (zs.any fun z=>decide (z=a))))):on ((Dn .isin (.str a) (sq l (zs.map .str))).map fun r=>Sl.f (.bl r)) Q:=Z1 (by cases l<;>exact congrArg (Option.map fun r=>Sl.f (.bl r)) (N0 a zs)) q
theorem Ag{l:Bool}{a:Str}{zs:ZG}{Q:Sl->Prop}(q:Q (.f (.bl (!(zs.any fun z=>decide (z=a)))))):on ((Dn .notin (.str a) (sq l (zs.map .str))).map fun r=>Sl.f (.bl r)) Q:=Z1 (by cases l<;>exact congrArg (fun o=>(Option.map not o).map fun r=>Sl.f (.bl r)) (N0 a zs)) q
def Je(f:Str)(C:Cs):Prop:=∀{lx:Bool} {ps:List (Str×Str)} {es:ZG} {w r:Str},cN (C f [.f (Zv lx ps es),.f (.str w),.f (.str r)]) fun x=>x=(.f (.bl (hB ps es w r)),[])
theorem El{w:W}{lx:Bool}{ps:List (Str×Str)}{es:ZG}{a r:Str}:wF R2 w [.f (Zv lx ps es),.f (.str a),.f (.str r)] fun x=>x=(.f (.bl (hB ps es a r)),[]):=by
 refine Zu rfl fun D rt _=>?_;refine inpP (q:=(a,r)) ?_;refine Zq (b:=ps.any fun p=>decide (p=(a,r))) (fun h=>?_) fun h=>?_
 .refine rt _ _ ?_;unfold hB;rw[h];rfl
 .refine D5 ?_;refine rt _ _ ?_;unfold hB;rw[h];rfl
theorem Pb{w:W}{lx:Bool}{ps:List (Str×Str)}{es:ZG}{a r:Str}:wF Jc w [.f (Zv lx ps es),.f (.str a),.f (.str r)] fun x=>x=(.f (.bl (hB ps es a r)),[]):=El (w:=w)
def SIG : Str := " !\"#$&'()*+,-./0123456789:;<=>?@ABCDEFGHIJKLMNOPQRSTUVWXYZ[\\]^_`abcdefghijklmnopqrstuvwxyz{|}~"
theorem pv:∀k,k<26->(!(Builtin.Str.occurrences SIG ⟨#[97+k]⟩ 0 SIG.length 1).isEmpty)=true:=by decide +kernel
theorem sig_in{c:Nat}(h:97<=c/\c<=122):(!(Builtin.Str.occurrences SIG ⟨#[c]⟩ 0 SIG.length 1).isEmpty)=true:=by
 have:=pv (c - 97) (by omega);rw[show 97+(c - 97)=c by omega]at this;exact this
theorem Ef{w:W}{i a b:Int}(h1:a<=i)(h2:i<=b):wF G7 w [.f (.int i),.f (.int a),.f (.int b)] fun x=>x=(.f (.bl true),[]):=by
 refine Zu rfl fun D rt _=>?_;refine c2P ?_;refine rt _ _ ?_;rw[Jo h1,Jo h2];rfl
theorem Au{w:W}(hg:w.gl "SIGNS" = some (.str SIG)){x:Str}{n:Int}(hx:Sm x)(h:(x.length:Int)<=n):wF Mb w [.f (.str x),.f (.int n)] fun y=>y=(.f (.bl true),[]):=by
 have sl:=sizeLine_eq;have hl:x.length<=sizeLine:=by have:=hx.1;omega
 refine Zu rfl fun D rt _=>?_;refine ij hl ?_;refine Zq (b:=!decide (n<((x.length:Nat):Int))) (fun _=>?_) fun z=>absurd (Dk (Yp z)) (by omega);refine Zz9 hl ?_;refine Ze (fun _=>.bl true) (fun p=>∃s0,p=[s0]) ⟨_,rfl⟩ (fun f mf p K hp hk=>?_) fun p hp=>?_
 .obtain⟨s0,rfl⟩:=hp;obtain⟨c,mc,rfl⟩:=M4.mp mf;refine glP hg ?_;have hk:=hk [.f (.str ⟨#[c]⟩)] ⟨_,rfl⟩;rw[<-sig_in (hx.2 c mc)]at hk;exact hk
 obtain⟨s0,rfl⟩:=hp;refine Rg (f:=fun _=>true) ?_;refine rt _ _ ?_;rw[R5.mpr fun _ _=>rfl];rfl
structure DF(s d:T):Prop where
 f:Y8 s d
 x:Dx d
def n5(C:Cs):Prop:=∀{i a b:Int},a<=i->i<=b->cN (C "is_whole" [.f (.int i),.f (.int a),.f (.int b)]) fun x=>x=(.f (.bl true),[])
def Zqv(C:Cs):Prop:=∀{x:Str} {n:Int},Sm x->(x.length:Int)<=n->cN (C "is_text" [.f (.str x),.f (.int n)]) fun x=>x=(.f (.bl true),[])
inductive Sng:T->T->Prop
 | whole{a b i:Int}(h1:a<=i)(h2:i<=b):Sng (.tup [.str "whole",.int a,.int b]) (.int i)
 | truth {b:Bool}:Sng (.tup [.str "truth"]) (.bl b)
 | text {n:Int} {x:Str} (h:(x.length:Int)<=n) (s:Sm x):Sng (.tup [.str "text",.int n]) (.str x)
def PSng(C:Cs):Prop:=∀{s d:T},Sng s d->cN (C "is_single_value" [.f s,.f d]) fun x=>x=(.f (.bl true),[])
theorem qd{w:W}(hW:n5 w.C)(hT:Zqv w.C){s d:T}(h:Sng s d):wF Y4 w [.f s,.f d] fun x=>x=(.f (.bl true),[]):=by
 refine Zu rfl fun D rt _=>?_;cases h with
 | whole h1 h2=>refine Zz (hW h1 h2) fun x e=>?_;subst e;exact rt _ _ rfl
 | truth=>exact rt _ _ rfl
 | text h s=>refine Zz (hT s h) fun x e=>?_;subst e;exact rt _ _ rfl
def O2(C:Cs)(f:Str)(as:List Sl)(y:Sl×ZZ):Prop:=cN (C f as) fun x=>x=y
theorem gj{w:W}:wF Vd w [.f (.tup [])] fun x=>x=(.f (.bl true),[]):=by
 refine Zu rfl fun D rt _=>?_;exact rt _ _ rfl
theorem ye{w:W}:wF R1 w [.f (.lst [])] fun x=>x=(.f (.bl true),[]):=by
 refine Zu rfl fun D rt _=>?_;exact rt _ _ rfl
theorem qe{w:W}(h:O2 w.C "rises" [.f (.lst [])] (.f (.bl true),[])){f:T}:wF Uo w [.f (.lst []),.f f] fun x=>x=(.f (.bl true),[]):=by
 refine Zu rfl fun D rt _=>?_;refine Zz h fun x e=>?_;subst e;exact rt _ _ rfl
theorem H9{w:W}{o:Str}{n:Int}(h0:0<=n):wF Va w [.f (.tup [.str "row",.str o,.int n]),.f (.tup [])] fun x=>x=(.o (.lst []),[]):=by
 refine Zu rfl fun D rt _=>?_;refine Zq (b:=decide (n<0)) (fun z=>absurd (Dk z) (by omega)) fun _=>?_;exact rt _ _ rfl
theorem Az{w:W}(hg:w.gl "is_name" = some (.fn "is_name"))(hP:O2 w.C "are_pairs" [.f (.tup [])] (.f (.bl true),[]))(hL:∀f,O2 w.C "are_labels" [.f (.lst []),.f f] (.f (.bl true),[])){o:Str}{n:Int}(h0:0<=n):wF Vo w [.f (.tup [.str "map",.str o,.int n]),.f (.tup [])] fun x=>x=(.o (.lst []),[]):=by
 refine Zu rfl fun D rt _=>?_;refine Zz hP fun x e=>?_;subst e;refine Zq (b:=decide (n<0)) (fun z=>absurd (Dk z) (by omega)) fun _=>?_;refine glP hg ?_;refine Zz (hL _) fun x e=>?_;subst e;exact rt _ _ rfl
def PPin(C:Cs):Prop:=∀{ns:ZG} {s d:T},Shp ns s->DF s d->cN (C "parts_in" [.f s,.f d,.f (.bl false)]) fun x=>x=(.o (.lst []),[])
theorem S2{w:W}(hS:PSng w.C)(hR:∀{o:Str} {n:Int},0<=n->O2 w.C "parts_in_row" [.f (.tup [.str "row",.str o,.int n]),.f (.tup [])] (.o (.lst []),[]))(hM:∀{o:Str} {n:Int},0<=n->O2 w.C "parts_in_map" [.f (.tup [.str "map",.str o,.int n]),.f (.tup [])] (.o (.lst []),[])){ns:ZG}{s d:T}(hs:Shp ns s)(h:DF s d):wF Ge w [.f s,.f d,.f (.bl false)] fun x=>x=(.o (.lst []),[]):=by
 refine Zu rfl fun D rt _=>?_;obtain⟨h,hx⟩:=h;cases h with
 | whole h1 h2=>refine Zz (hS (.whole h1 h2)) fun x e=>?_;subst e;exact rt _ _ rfl
 | truth=>refine Zz (hS .truth) fun x e=>?_;subst e;exact rt _ _ rfl
 | text h=>cases hx with | str s=>refine Zz (hS (.text h s)) fun x e=>?_;subst e;exact rt _ _ rfl
 | row=>cases hs with | row _ h0 _=>refine Zz (hR h0) fun x e=>?_;subst e;exact rt _ _ rfl
 | map=>cases hs with | map _ h0 _=>refine Zz (hM h0) fun x e=>?_;subst e;exact rt _ _ rfl
def PThr(C:Cs):Prop:=∀{ns:ZG} {root x:Str} {XY:ZX} {s d:T},Zj XY (.inr x)=some s->Shp ns s->DF s d->cN (C "is_right_through" [.f (.tup [.str root,.dct XY]),.f (.str x),.f d,.f (.bl false)]) fun y=>y=(.f (.bl true),[])
theorem Hh{w:W}(hF:Ll w.C)(hP:PPin w.C){ns:ZG}{root x:Str}{XY:ZX}{s d:T}(e:Zj XY (.inr x)=some s)(hs:Shp ns s)(h:DF s d):wF Yn w [.f (.tup [.str root,.dct XY]),.f (.str x),.f d,.f (.bl false)] fun y=>y=(.f (.bl true),[]):=by
 have sl:=sizeLine_eq;refine Zu rfl fun D rt _=>?_;refine whS ?_;refine rq (fun n p=>∃ts s5 s6,p=[.f (.tup [.str root,.dct XY]),.f (.str x),.f d,.f (.bl false),.o (.lst ts),s5,s6]/\((n=1/\ts=[.tup [.str x,d]])\/(n=0/\ts=[]))) (fun n p K hi kt kf=>?_) 1 1000000 _ (by omega) ⟨_,_,_,rfl,.inl ⟨rfl,rfl⟩⟩;obtain⟨ts,s5,s6,rfl,⟨rfl,rfl⟩ | ⟨rfl,rfl⟩⟩:=hi
 .refine kt _ fun D' nx _ _ Tq=>?_;show wS w _ _ [.f (.tup [.str root,.dct XY]),.f (.str x),.f d,.f (.bl false),.o (.lst []),.f (.tup [.str x,d]),s6] _;refine Zz (hF e) fun y ey=>?_;subst ey;refine Zz (hP hs h) fun y ey=>?_;subst ey;show wS w _ _ [.f (.tup [.str root,.dct XY]),.f (.str x),.f d,.f (.bl false),.o (.lst []),.f (.tup [.str x,d]),.o (.lst [])] _;exact nx 0 _ (by omega) ⟨_,_,_,rfl,.inr ⟨rfl,rfl⟩⟩
 .exact kf _ (rt _ _ rfl)
def PVal(C:Cs):Prop:=∀{ns:ZG} {root x:Str} {XY:ZX} {s d:T},Zj XY (.inr x)=some s->Shp ns s->DF s d->cN (C "is_value" [.f (.tup [.str root,.dct XY]),.f (.str x),.f d]) fun y=>y=(.f (.bl true),[])
theorem Eb{w:W}(hT:PThr w.C){ns:ZG}{root x:Str}{XY:ZX}{s d:T}(e:Zj XY (.inr x)=some s)(hs:Shp ns s)(h:DF s d):wF G8 w [.f (.tup [.str root,.dct XY]),.f (.str x),.f d] fun y=>y=(.f (.bl true),[]):=by
 refine Zu rfl fun D rt _=>?_;refine Zz (hT e hs h) fun y ey=>?_;subst ey;exact rt _ _ rfl
noncomputable def X3:List (Str×Str):=[("whole","whole"),("truth","whole"),("text","text"),("row","row"),("map","map"),("record","rec"),("choice","arm")]
noncomputable def Yq(s:Str):Option Str:=(X3.find? fun p=>decide (p.1=s)).map (·.2)
theorem Zm:Yq "whole" = some "whole" := by decide +kernel
theorem Zd:Yq "truth" = some "whole" := by decide +kernel
theorem Zb:Yq "text" = some "text" := by decide +kernel
theorem Zs:Yq "row" = some "row" := by decide +kernel
theorem Zh:Yq "map" = some "map" := by decide +kernel
theorem Yi:Yq "record" = some "rec" := by decide +kernel
theorem Ye:Yq "choice" = some "arm" := by decide +kernel
def PIS(C:Cs):Prop:=∀{s z:Str} {r:ZZ},Yq s=some z->cN (C "item_sort" [.f (.tup (.str s::r))]) fun x=>x=(.f (.str z),[])
inductive Bn:T->Int->Int->Prop
 | whole{a b:Int}:Bn (.tup [.str "whole",.int a,.int b]) a b
 | truth:Bn (.tup [.str "truth"]) 0 1
noncomputable def wn:T->ZC
 | .int i=>some i
 | .bl b=>some (if b=true then 1 else 0)
 | _=>none
inductive Hg:T->T->T->T->Prop
 | num{s s' d d':T}{a b a' b' i:Int}(h:Bn s a b)(h':Bn s' a' b')(e:wn d=some i)(e':wn d'=some i):Hg s s' d d'
 | text {n m:Int} {x:Str}:Hg (.tup [.str "text",.int n]) (.tup [.str "text",.int m]) (.str x) (.str x)
 | row {o o':Str} {n m:Int}:Hg (.tup [.str "row",.str o,.int n]) (.tup [.str "row",.str o',.int m]) (.tup []) (.tup [])
 | map {o o':Str} {n m:Int}:Hg (.tup [.str "map",.str o,.int n]) (.tup [.str "map",.str o',.int m]) (.tup []) (.tup [])
theorem Z5{k k' z z':Str}{r r':ZZ}{d d':T}(w1:Yq k=some z)(w2:Yq k'=some z')(ne:z≠z'):¬ Hg (.tup (.str k::r)) (.tup (.str k'::r')) d d':=by
 intro h;generalize hs:T.tup (.str k::r)=s at h;generalize Jz:T.tup (.str k'::r')=s' at h
 have fin:∀{u:Str},Yq k=some u->Yq k'=some u->False:=fun {u} h1 h2=>by
  rw[w1]at h1;rw[w2]at h2;cases h1;cases h2;exact ne rfl
 cases h with
 | num h1 h2 e1 e2 =>
  have c1:Yq k=some "whole" := by
   cases h1
   .injection hs with hs;injection hs with hs;injection hs with hs;rw[hs];exact Zm
   .injection hs with hs;injection hs with hs;injection hs with hs;rw[hs];exact Zd
  have c2:Yq k'=some "whole" := by
   cases h2
   .injection Jz with hs;injection hs with hs;injection hs with hs;rw[hs];exact Zm
   .injection Jz with hs;injection hs with hs;injection hs with hs;rw[hs];exact Zd
  exact fin c1 c2
 | text=>injection hs with hs;injection hs with hs;injection hs with hs;injection Jz with Jz;injection Jz with Jz;injection Jz with Jz;subst hs Jz;exact fin Zb Zb
 | row=>injection hs with hs;injection hs with hs;injection hs with hs;injection Jz with Jz;injection Jz with Jz;injection Jz with Jz;subst hs Jz;exact fin Zs Zs
 | map=>injection hs with hs;injection hs with hs;injection hs with hs;injection Jz with Jz;injection Jz with Jz;injection Jz with Jz;subst hs Jz;exact fin Zh Zh
theorem ud{w:W}{s s':T}{o o':Str}{r r':ZZ}:wF Yw w [.f (.tup (s::.str o::r)),.f (.tup []),.f (.tup (s'::.str o'::r')),.f (.tup [])] fun x=>x=(.o (.lst []),[]):=by
 refine Zu rfl fun D rt _=>?_;exact rt _ _ rfl
theorem yi{w:W}{s s':T}{o o':Str}{r r':ZZ}:wF Yw w [.f (.tup (s::.str o::r)),.f (.lst []),.f (.tup (s'::.str o'::r')),.f (.lst [])] fun x=>x=(.o (.lst []),[]):=by
 refine Zu rfl fun D rt _=>?_;exact rt _ _ rfl
def xa(C:Cs)(v:T):Prop:=∀{s s':T} {o o':Str} {r r':ZZ},O2 C "parts_of_rows" [.f (.tup (s::.str o::r)),.f v,.f (.tup (s'::.str o'::r')),.f v] (.o (.lst []),[])
def Zqg(C:Cs):Prop:=∀{s s':T} {o o':Str} {r r':ZZ},O2 C "parts_of_maps" [.f (.tup (s::.str o::r)),.f (.tup []),.f (.tup (s'::.str o'::r')),.f (.tup [])] (.o (.lst []),[])
theorem oi{w:W}(h:xa w.C (.lst [])){s s':T}{o o':Str}{r r':ZZ}:wF Vg w [.f (.tup (s::.str o::r)),.f (.tup []),.f (.tup (s'::.str o'::r')),.f (.tup [])] fun x=>x=(.o (.lst []),[]):=by
 refine Zu rfl fun D rt _=>?_;refine Zz h fun x e=>?_;subst e;exact rt _ _ rfl
def TelB(P:Prop)(x:Sl×ZZ):Prop:=∃b:Bool,(b=true↔P)/\x=(if b=true then .o (.lst []) else .f .non,[])
def Zqm(C:Cs):Prop:=∀{root root' x x':Str} {XY kvs':ZX} {s s' d d':T},Zj XY (.inr x)=some s->Zj kvs' (.inr x')=some s'->Y8 s d->Y8 s' d'->cN (C "parts_of_both" [.f (.tup [.str root,.dct XY]),.f (.tup [.str root',.dct kvs']),.f (.tup [.str x,d,.str x',d'])]) (TelB (Hg s s' d d'))
theorem R3{i j:Int}:(i == j)=decide (i=j):=Bool.beq_eq_decide_eq i j
theorem Ur{s s' d d':T}{a b a' b' i j:Int}{c:Bool}(h:Bn s a b)(h':Bn s' a' b')(e:wn d=some i)(e':wn d'=some j)(hc:c=decide (i=j)):c=true↔Hg s s' d d':=by
 subst hc;constructor
 .intro z;have:=Dk z;subst this;exact .num h h' e e'
 .intro z;refine Jo ?_;cases z with
  | num _ _ e1 e2=>rw[e]at e1;rw[e']at e2;cases e1;cases e2;rfl
  | text=>cases e
  | row=>cases e
  | map=>cases e
theorem Qd{n m:Int}{x y:Str}{c:Bool}(hc:c=decide (x=y)):c=true↔Hg (.tup [.str "text",.int n]) (.tup [.str "text",.int m]) (.str x) (.str y):=by
 subst hc;constructor
 .intro z;have:=Dk z;subst this;exact .text
 .intro z;refine Jo ?_;generalize hs:T.tup [.str "text",.int n]=s at z;generalize hx:T.str x=u at z;generalize hy:T.str y=v at z;cases z with
  | num _ _ e1 e2=>rw[<-hx]at e1;cases e1
  | text=>cases hx;cases hy;rfl
set_option maxHeartbeats 2000000 in
theorem Zzs{w:W}(hF:Ll w.C)(hI:PIS w.C)(hR:xa w.C (.tup []))(hM:Zqg w.C){root root' x x':Str}{XY kvs':ZX}{s s' d d':T}(e:Zj XY (.inr x)=some s)(e':Zj kvs' (.inr x')=some s')(f:Y8 s d)(f':Y8 s' d'):wF Vf w [.f (.tup [.str root,.dct XY]),.f (.tup [.str root',.dct kvs']),.f (.tup [.str x,d,.str x',d'])] (TelB (Hg s s' d d')):=by
 refine Zu rfl fun D rt _=>?_;refine Zz (hF e) fun y ey=>?_;subst ey;refine Zz (hF e') fun y ey=>?_;subst ey;have no:∀q:P,¬ Hg s s' d d'->q.length=5->D.rt (.f .non) (.f (.tup [.str root,.dct XY])::.f (.tup [.str root',.dct kvs'])::.f (.tup [.str x,d,.str x',d'])::q):=fun q h _=>rt _ _ ⟨false,⟨(fun z=>nomatch z),fun z=>absurd z h⟩,rfl⟩;cases f with
 | @whole a1 b1 i h1 h2 =>
  refine Zz (hI Zm) fun y ey=>?_;subst ey;cases f' with
  | @whole a2 b2 j g1 g2 =>
   refine Zz (hI Zm) fun y ey=>?_;subst ey;refine Zq (b:=decide (i=j)) (fun z=>?_) fun z=>?_
   .exact rt _ _ ⟨true,Ur .whole .whole rfl rfl z.symm,rfl⟩
   .exact rt _ _ ⟨false,Ur .whole .whole rfl rfl z.symm,rfl⟩
  | @truth b =>
   refine Zz (hI Zd) fun y ey=>?_;subst ey;refine Zq (b:=i == if b=true then 1 else 0) (fun z=>?_) fun z=>?_
   .exact rt _ _ ⟨true,Ur .whole .truth rfl rfl (z.symm.trans R3),rfl⟩
   .exact rt _ _ ⟨false,Ur .whole .truth rfl rfl (z.symm.trans R3),rfl⟩
  | text g=>refine Zz (hI Zb) fun y ey=>?_;subst ey;exact no _ (Z5 Zm Zb (by decide +kernel)) rfl
  | row=>refine Zz (hI Zs) fun y ey=>?_;subst ey;exact no _ (Z5 Zm Zs (by decide +kernel)) rfl
  | map=>refine Zz (hI Zh) fun y ey=>?_;subst ey;exact no _ (Z5 Zm Zh (by decide +kernel)) rfl
 | @truth b =>
  refine Zz (hI Zd) fun y ey=>?_;subst ey;cases f' with
  | @whole a2 b2 j g1 g2 =>
   refine Zz (hI Zm) fun y ey=>?_;subst ey;refine Zq (b:=(if b=true then 1 else 0) == j) (fun z=>?_) fun z=>?_
   .exact rt _ _ ⟨true,Ur .truth .whole rfl rfl (z.symm.trans R3),rfl⟩
   .exact rt _ _ ⟨false,Ur .truth .whole rfl rfl (z.symm.trans R3),rfl⟩
  | @truth c =>
   refine Zz (hI Zd) fun y ey=>?_;subst ey;have q:(b == c)=decide ((if b=true then (1:Int) else 0)=if c=true then 1 else 0):=by cases b<;>cases c<;>rfl
   refine Zq (b:=b == c) (fun z=>?_) fun z=>?_
   .exact rt _ _ ⟨true,Ur .truth .truth rfl rfl (z.symm.trans q),rfl⟩
   .exact rt _ _ ⟨false,Ur .truth .truth rfl rfl (z.symm.trans q),rfl⟩
  | text g=>refine Zz (hI Zb) fun y ey=>?_;subst ey;exact no _ (Z5 Zd Zb (by decide +kernel)) rfl
  | row=>refine Zz (hI Zs) fun y ey=>?_;subst ey;exact no _ (Z5 Zd Zs (by decide +kernel)) rfl
  | map=>refine Zz (hI Zh) fun y ey=>?_;subst ey;exact no _ (Z5 Zd Zh (by decide +kernel)) rfl
 | @text n1 a h =>
  refine Zz (hI Zb) fun y ey=>?_;subst ey;cases f' with
  | whole g1 g2=>refine Zz (hI Zm) fun y ey=>?_;subst ey;exact no _ (Z5 Zb Zm (by decide +kernel)) rfl
  | truth=>refine Zz (hI Zd) fun y ey=>?_;subst ey;exact no _ (Z5 Zb Zd (by decide +kernel)) rfl
  | @text n2 c g =>
   refine Zz (hI Zb) fun y ey=>?_;subst ey;refine Zq (b:=decide (a=c)) (fun z=>?_) fun z=>?_
   .exact rt _ _ ⟨true,Qd z.symm,rfl⟩
   .exact rt _ _ ⟨false,Qd z.symm,rfl⟩
  | row=>refine Zz (hI Zs) fun y ey=>?_;subst ey;exact no _ (Z5 Zb Zs (by decide +kernel)) rfl
  | map=>refine Zz (hI Zh) fun y ey=>?_;subst ey;exact no _ (Z5 Zb Zh (by decide +kernel)) rfl
 | row =>
  refine Zz (hI Zs) fun y ey=>?_;subst ey;cases f' with
  | whole g1 g2=>refine Zz (hI Zm) fun y ey=>?_;subst ey;exact no _ (Z5 Zs Zm (by decide +kernel)) rfl
  | truth=>refine Zz (hI Zd) fun y ey=>?_;subst ey;exact no _ (Z5 Zs Zd (by decide +kernel)) rfl
  | text g=>refine Zz (hI Zb) fun y ey=>?_;subst ey;exact no _ (Z5 Zs Zb (by decide +kernel)) rfl
  | row =>
   refine Zz (hI Zs) fun y ey=>?_;subst ey;refine Zz hR fun y ey=>?_;subst ey;exact rt _ _ ⟨true,⟨fun _=>.row,fun _=>rfl⟩,rfl⟩
  | map=>refine Zz (hI Zh) fun y ey=>?_;subst ey;exact no _ (Z5 Zs Zh (by decide +kernel)) rfl
 | map =>
  refine Zz (hI Zh) fun y ey=>?_;subst ey;cases f' with
  | whole g1 g2=>refine Zz (hI Zm) fun y ey=>?_;subst ey;exact no _ (Z5 Zh Zm (by decide +kernel)) rfl
  | truth=>refine Zz (hI Zd) fun y ey=>?_;subst ey;exact no _ (Z5 Zh Zd (by decide +kernel)) rfl
  | text g=>refine Zz (hI Zb) fun y ey=>?_;subst ey;exact no _ (Z5 Zh Zb (by decide +kernel)) rfl
  | row=>refine Zz (hI Zs) fun y ey=>?_;subst ey;exact no _ (Z5 Zh Zs (by decide +kernel)) rfl
  | map =>
   refine Zz (hI Zh) fun y ey=>?_;subst ey;refine Zz hM fun y ey=>?_;subst ey;exact rt _ _ ⟨true,⟨fun _=>.map,fun _=>rfl⟩,rfl⟩
def PAlk(C:Cs):Prop:=∀{Y0:ZG} {root root' x x':Str} {XY kvs':ZX} {s s' d d':T},Zj XY (.inr x)=some s->Zj kvs' (.inr x')=some s'->Y8 s d->Shp Y0 s'->DF s' d'->cN (C "tells_alike" [.f (.tup [.str root,.dct XY]),.f (.str x),.f d,.f (.tup [.str root',.dct kvs']),.f (.str x'),.f d']) (Ld (Hg s s' d d'))
theorem yx{w:W}(hV:PVal w.C)(hB:Zqm w.C){Y0:ZG}{root root' x x':Str}{XY kvs':ZX}{s s' d d':T}(e:Zj XY (.inr x)=some s)(e':Zj kvs' (.inr x')=some s')(f:Y8 s d)(Jz:Shp Y0 s')(f':DF s' d'):wF Uj w [.f (.tup [.str root,.dct XY]),.f (.str x),.f d,.f (.tup [.str root',.dct kvs']),.f (.str x'),.f d'] (Ld (Hg s s' d d')):=by
 refine Zu rfl fun D rt _=>?_;refine Zz (hV e' Jz f') fun y ey=>?_;subst ey;refine whS ?_;refine rq (fun n p=>∃ts s7,p=[.f (.tup [.str root,.dct XY]),.f (.str x),.f d,.f (.tup [.str root',.dct kvs']),.f (.str x'),.f d',.o (.lst ts),s7]/\((n=1/\ts=[.tup [.str x,d,.str x',d']])\/(n=0/\ts=[]/\Hg s s' d d'))) (fun n p K hi kt kf=>?_) 1 1000000 _ (by omega) ⟨_,_,rfl,.inl ⟨rfl,rfl⟩⟩;obtain⟨ts,s7,rfl,⟨rfl,rfl⟩ | ⟨rfl,rfl,al⟩⟩:=hi
 .refine kt _ fun D' nx _ _ Tq=>?_;refine Zz (hB e e' f f'.f) fun y hy=>?_;obtain⟨b,hb,rfl⟩:=hy;cases b with
  | true =>
   show wS w _ _ [.f (.tup [.str root,.dct XY]),.f (.str x),.f d,.f (.tup [.str root',.dct kvs']),.f (.str x'),.f d',.o (.lst []),.o (.lst [])] _;exact nx 0 _ (by omega) ⟨_,_,rfl,.inr ⟨rfl,rfl,hb.mp rfl⟩⟩
  | false =>
   show wS w _ _ [.f (.tup [.str root,.dct XY]),.f (.str x),.f d,.f (.tup [.str root',.dct kvs']),.f (.str x'),.f d',.o (.lst []),.f .non] _;exact Tq _ _ (rt _ _ ⟨false,hb,rfl⟩)
 .exact kf _ (rt _ _ ⟨true,⟨fun _=>al,fun _=>rfl⟩,rfl⟩)
structure lq(C:Cs):Prop where
 y:∀{t:T} {a b:Int},Bn t a b->O2 C "_law_bounds" [.f t] (.f (.tup [.int a,.int b]),[])
 n:∀{k z:Str} {r:ZZ},Yq k=some z->z ≠ "whole" -> O2 C "_law_bounds" [.f (.tup (.str k::r))] (.f (.tup []),[])
def PLAl(C:Cs):Prop:=∀{s s' d d':T},Y8 s d->Y8 s' d'->cN (C "_law_alike" [.f (.tup [s,s']),.f d,.f d']) (Ld (Hg s s' d d'))
theorem anyE{a:T}{ts:ZZ}{b:Bool}(e:Ja (.tup []) ts=some b){Q:Sl->Prop}(q:Q (.f (.bl (!b)))):on ((Dn .notin (.tup []) (.lst ts)).map fun r=>Sl.f (.bl r)) Q:=Z1 (by show ((Ja (.tup []) ts).map not).map _=_;rw[e];rfl) q
theorem bn_hd{t:T}{a b:Int}(h:Bn t a b):∃k r,t=.tup (.str k::r)/\Yq k=some "whole" := by
 cases h
 .exact⟨_,_,rfl,Zm⟩
 .exact⟨_,_,rfl,Zd⟩
theorem A5{s d:T}(h:Y8 s d):(∃a b i,Bn s a b/\wn d=some i/\(d=.int i\/∃c:Bool,d=.bl c/\i=if c=true then 1 else 0))\/∃k z r,s=.tup (.str k::r)/\Yq k=some z/\z ≠ "whole" /\ wn d=none:=by
 cases h with
 | whole h1 h2=>exact .inl ⟨_,_,_,.whole,rfl,.inl rfl⟩
 | truth=>exact .inl ⟨_,_,_,.truth,rfl,.inr ⟨_,rfl,rfl⟩⟩
 | text h=>exact .inr ⟨_,_,_,rfl,Zb,by decide +kernel,rfl⟩
 | row=>exact .inr ⟨_,_,_,rfl,Zs,by decide +kernel,rfl⟩
 | map=>exact .inr ⟨_,_,_,rfl,Zh,by decide +kernel,rfl⟩
theorem i8{d:T}{i:Int}(h:d=.int i\/∃c:Bool,d=.bl c/\i=if c=true then 1 else 0){Q:Sl->Prop}(q:Q (.f (.int i))):on (Ww .int [d]) Q:=by
 rcases h with rfl | ⟨c,rfl,rfl⟩
 .exact q
 .exact q
set_option maxHeartbeats 1000000 in
theorem Pd{w:W}(hB:lq w.C){s s' d d':T}(f:Y8 s d)(f':Y8 s' d'):wF Jh w [.f (.tup [s,s']),.f d,.f d'] (Ld (Hg s s' d d')):=by
 refine Zu rfl fun D rt _=>?_
 have bs:∀{s d:T},Y8 s d->∃ts,O2 w.C "_law_bounds" [.f s] (.f (.tup ts),[])/\((ts=[]/\wn d=none)\/∃a b,ts=[.int a,.int b]/\Bn s a b):=fun {s d} f=>by
  rcases A5 f with ⟨a,b,i,h,_⟩ | ⟨k,z,r,rfl,h1,h2,h3⟩
  .exact⟨_,hB.y h,.inr ⟨a,b,rfl,h⟩⟩
  .exact⟨_,hB.n h1 h2,.inl ⟨rfl,h3⟩⟩
 obtain⟨ts,c1,k1⟩:=bs f;obtain⟨Bz,c2,k2⟩:=bs f';refine Zz c1 fun y ey=>?_;subst ey;refine Zz c2 fun y ey=>?_;subst ey
 have seq:(wn d=none\/wn d'=none)->wS w (Yv [.f (.tup [s,s']),.f d,.f d']) (Yz 1 Cr) [.f (.tup [s,s']),.f d,.f d'] D:=fun hn=>by
  cases f with
  | whole h1 h2=>cases f'<;>first
   | (rcases hn with z | z<;>cases z;done)
   | exact rt _ _ ⟨false,⟨(fun z=>nomatch z),fun z=>absurd z (by first | exact Z5 Zm Zb (by decide +kernel) | exact Z5 Zm Zs (by decide +kernel) | exact Z5 Zm Zh (by decide +kernel))⟩,rfl⟩
  | truth=>cases f'<;>first
   | (rcases hn with z | z<;>cases z;done)
   | exact rt _ _ ⟨false,⟨(fun z=>nomatch z),fun z=>absurd z (by first | exact Z5 Zd Zb (by decide +kernel) | exact Z5 Zd Zs (by decide +kernel) | exact Z5 Zd Zh (by decide +kernel))⟩,rfl⟩
  | @text n1 a h=>cases f' with
   | @text n2 c g =>
    refine rt _ _ ⟨decide (a=c),Qd rfl,rfl⟩
   | whole g1 g2=>exact rt _ _ ⟨false,⟨(fun z=>nomatch z),fun z=>absurd z (Z5 Zb Zm (by decide +kernel))⟩,rfl⟩
   | truth=>exact rt _ _ ⟨false,⟨(fun z=>nomatch z),fun z=>absurd z (Z5 Zb Zd (by decide +kernel))⟩,rfl⟩
   | row=>exact rt _ _ ⟨false,⟨(fun z=>nomatch z),fun z=>absurd z (Z5 Zb Zs (by decide +kernel))⟩,rfl⟩
   | map=>exact rt _ _ ⟨false,⟨(fun z=>nomatch z),fun z=>absurd z (Z5 Zb Zh (by decide +kernel))⟩,rfl⟩
  | row=>cases f' with
   | row=>exact rt _ _ ⟨true,⟨fun _=>.row,fun _=>rfl⟩,rfl⟩
   | whole g1 g2=>exact rt _ _ ⟨false,⟨(fun z=>nomatch z),fun z=>absurd z (Z5 Zs Zm (by decide +kernel))⟩,rfl⟩
   | truth=>exact rt _ _ ⟨false,⟨(fun z=>nomatch z),fun z=>absurd z (Z5 Zs Zd (by decide +kernel))⟩,rfl⟩
   | text g=>exact rt _ _ ⟨false,⟨(fun z=>nomatch z),fun z=>absurd z (Z5 Zs Zb (by decide +kernel))⟩,rfl⟩
   | map=>exact rt _ _ ⟨false,⟨(fun z=>nomatch z),fun z=>absurd z (Z5 Zs Zh (by decide +kernel))⟩,rfl⟩
  | map=>cases f' with
   | map=>exact rt _ _ ⟨true,⟨fun _=>.map,fun _=>rfl⟩,rfl⟩
   | whole g1 g2=>exact rt _ _ ⟨false,⟨(fun z=>nomatch z),fun z=>absurd z (Z5 Zh Zm (by decide +kernel))⟩,rfl⟩
   | truth=>exact rt _ _ ⟨false,⟨(fun z=>nomatch z),fun z=>absurd z (Z5 Zh Zd (by decide +kernel))⟩,rfl⟩
   | text g=>exact rt _ _ ⟨false,⟨(fun z=>nomatch z),fun z=>absurd z (Z5 Zh Zb (by decide +kernel))⟩,rfl⟩
   | row=>exact rt _ _ ⟨false,⟨(fun z=>nomatch z),fun z=>absurd z (Z5 Zh Zs (by decide +kernel))⟩,rfl⟩
 rcases k1 with ⟨rfl,n1⟩ | ⟨a,b,rfl,b1⟩
 .rcases k2 with ⟨rfl,n2⟩ | ⟨a',b',rfl,b2⟩
  .exact seq (.inl n1)
  .exact seq (.inl n1)
 .rcases k2 with ⟨rfl,n2⟩ | ⟨a',b',rfl,b2⟩
  .exact seq (.inr n2)
  .have num:∀{s d:T} {a b:Int},Y8 s d->Bn s a b->∃i,wn d=some i/\(d=.int i\/∃c:Bool,d=.bl c/\i=if c=true then 1 else 0):=fun {s d a b} f h=>by
    rcases A5 f with ⟨_,_,i,_,e1,e2⟩ | ⟨k,z,r,rfl,h1,h2,_⟩
    .exact⟨i,e1,e2⟩
    .obtain⟨k',r',e,h3⟩:=bn_hd h;cases e;rw[h1]at h3;cases h3;exact absurd rfl h2
   obtain⟨i,e1,g1⟩:=num f b1;obtain⟨j,e2,g2⟩:=num f' b2;refine i8 g1 ?_;refine i8 g2 ?_;exact rt _ _ ⟨decide (i=j),Ur b1 b2 e1 e2 rfl,rfl⟩
noncomputable def dN:T->Bool
 | .tup [_,_,_,.tup ds]=>ds.isEmpty
 | _=>false
noncomputable def mlB(ps:ZZ)(g:T):Bool:=!dN g || (Z3 ps (Z7 g)).isSome
theorem Zzk{ps:ZZ}{n:Int}:(Z3 ps n).isSome=true↔∃f∈ps,Z7 f=n:=by
 cases e:Z3 ps n with
 | none=>exact⟨(fun z=>nomatch z),fun⟨f,m,z⟩=>absurd z (find_none.mp e f m)⟩
 | some f=>exact⟨fun _=>⟨f,List.mem_of_find?_eq_some e,Dk (by have:=List.find?_some e;exact this)⟩,fun _=>rfl⟩
theorem ml_all{ps Zi:ZZ}:Zi.all (mlB ps)=true↔∀g∈Zi,dN g=true->∃f∈ps,Z7 f=Z7 g:=by
 rw[R5];refine forall_congr' fun g=>forall_congr' fun _=>?_;unfold mlB;rw[<-Zzk];cases dN g<;>simp
def ly(ps Zi:ZZ):Prop:=∀g∈Zi,dN g=true->∃f∈ps,Z7 f=Z7 g
noncomputable def Y6(ps us:ZZ):T:=.tup [.str "record",.tup ps,.tup us]
def Zqf(C:Cs):Prop:=∀{ns Y0:ZG} {ps Zi us us':ZZ},Ys ns true ps->Ys Y0 true Zi->cN (C "may_lack" [.f (Y6 ps us),.f (Y6 Zi us')]) (Ld (ly ps Zi))
theorem ig{w:W}(hL:K9 w.C)(hM:n9 w.C){ns Y0:ZG}{ps Zi us us':ZZ}(hp:Ys ns true ps)(L3:Ys Y0 true Zi):wF G0 w [.f (Y6 ps us),.f (Y6 Zi us')] (Ld (ly ps Zi)):=by
 refine Zu rfl fun D rt _=>?_;refine Ze (fun g=>.bl (mlB ps g)) (fun p=>∃s0,p=[s0,.f (Y6 ps us)]) ⟨_,rfl⟩ (fun g mg p K hi hk=>?_) fun p hi=>?_
 .obtain⟨s0,rfl⟩:=hi;obtain⟨n,x,o,ds,rfl,_⟩:=(L3.p g mg).asR;have hk:=hk [.f (.tup [.int n,.str x,.str o,.tup ds]),.f (Y6 ps us)] ⟨_,rfl⟩;refine Zz hL fun y ey=>?_;subst ey;refine Zq (b:=!ds.isEmpty) (fun z=>?_) fun z=>?_
  .have:mlB ps (.tup [.int n,.str x,.str o,.tup ds])=true:=by
    show (!ds.isEmpty || _)=true;rw[z];rfl
   rw[this]at hk;exact hk
  .have e:mlB ps (.tup [.int n,.str x,.str o,.tup ds])=(Z3 ps n).isSome:=by
    show (!ds.isEmpty || _)=_;rw[z];rfl
   rw[e]at hk;refine Zz (hM (s:="record") (r:=[.tup us]) hp.p) fun y ey=>?_;subst ey;cases q:Z3 ps n with
   | none=>rw[q]at hk;exact hk
   | some f =>
    rw[q]at hk;obtain⟨n',x',o',Un,rfl,_⟩:=(hp.p f (List.mem_of_find?_eq_some q)).asR;exact hk
 obtain⟨s0,rfl⟩:=hi;refine Rg ?_;exact rt _ _ ⟨_,ml_all,rfl⟩
def LoP(XY kvs':ZX)(o o':Str)(ds Un:ZZ):Prop:=∀d,ds=[d]->∃d' s s',Un=[d']/\Zj XY (.inr o)=some s/\Zj kvs' (.inr o')=some s'/\Hg s s' d d'
structure FdO(ns:ZG)(XY:ZX)(o:Str)(ds:ZZ):Prop where
 d:ds=[]\/∃d s,ds=[d]/\Zj XY (.inr o)=some s/\Shp ns s/\DF s d
def PLoa(C:Cs):Prop:=∀{ns Y0:ZG} {root root' x x' o o':Str} {XY kvs':ZX} {n n':Int} {ds Un:ZZ},FdO ns XY o ds->FdO Y0 kvs' o' Un->cN (C "are_left_out_alike" [.f (.tup [.str root,.dct XY]),.f (.tup [.str root',.dct kvs']),.f (.tup [.int n,.str x,.str o,.tup ds]),.f (.tup [.int n',.str x',.str o',.tup Un])]) (Ld (LoP XY kvs' o o' ds Un))
theorem loa_ok{w:W}(hL:K9 w.C)(hA:PAlk w.C){ns Y0:ZG}{root root' x x' o o':Str}{XY kvs':ZX}{n n':Int}{ds Un:ZZ}(h:FdO ns XY o ds)(h':FdO Y0 kvs' o' Un):wF Yy w [.f (.tup [.str root,.dct XY]),.f (.tup [.str root',.dct kvs']),.f (.tup [.int n,.str x,.str o,.tup ds]),.f (.tup [.int n',.str x',.str o',.tup Un])] (Ld (LoP XY kvs' o o' ds Un)):=by
 refine Zu rfl fun D rt _=>?_;refine Zz hL fun y ey=>?_;subst ey;rcases h.d with rfl | ⟨d,s,rfl,e,hs,df⟩
 .exact rt _ _ ⟨true,⟨fun _ d z=>(nomatch z),fun _=>rfl⟩,rfl⟩
 .refine Zz hL fun y ey=>?_;subst ey;rcases h'.d with rfl | ⟨d',s',rfl,e',Jz,df'⟩
  .exact rt _ _ ⟨false,⟨(fun z=>nomatch z),fun z=>by obtain⟨_,_,_,q,_⟩:=z d rfl;cases q⟩,rfl⟩
  .refine Zz (hA e e' df.f Jz df') fun y hy=>?_;obtain⟨b,hb,rfl⟩:=hy;refine rt _ _ ⟨b,⟨fun z d1 q=>?_,fun z=>hb.mpr ?_⟩,rfl⟩
   .cases q;exact⟨d',s,s',rfl,e,e',hb.mp z⟩
   .obtain⟨d1,s1,Qp,q,e1,Fx,al⟩:=z d rfl;cases q;rw[e]at e1;rw[e']at Fx;cases e1;cases Fx;exact al
def wc(hb:Str->Str->Bool)(XY kvs':ZX)(f g:T):Prop:=∀(n:Int) (x o:Str) (ds:ZZ) (n':Int) (x' o':Str) (Un:ZZ),f=.tup [.int n,.str x,.str o,.tup ds]->g=.tup [.int n',.str x',.str o',.tup Un]->hb o o'=true/\LoP XY kvs' o o' ds Un
def FR(hb:Str->Str->Bool)(XY kvs':ZX)(ps Zi:ZZ):Prop:=ly ps Zi/\∀f∈ps,∀g∈Zi,Z7 f=Z7 g->wc hb XY kvs' f g
theorem wc.mk{hb:Str->Str->Bool}{XY kvs':ZX}{n n':Int}{x x' o o':Str}{ds Un:ZZ}(h1:hb o o'=true)(h2:LoP XY kvs' o o' ds Un):wc hb XY kvs' (.tup [.int n,.str x,.str o,.tup ds]) (.tup [.int n',.str x',.str o',.tup Un]):=fun _ _ _ _ _ _ _ _ e e'=>by cases e;cases e';exact⟨h1,h2⟩
structure N5(ns:ZG)(XY:ZX)(ps:ZZ):Prop where
 p:Ys ns true ps
 f:∀f∈ps,∃n x o ds,f=.tup [.int n,.str x,.str o,.tup ds]/\FdO ns XY o ds
def PARF(C:Cs):Prop:=∀{ns Y0:ZG} {root root':Str} {XY kvs':ZX} {ps Zi us us':ZZ} {lx:Bool} {pp:List (Str×Str)} {es:ZG},N5 ns XY ps->N5 Y0 kvs' Zi->cN (C "are_right_fields" [.f (.tup [.str root,.dct XY]),.f (.tup [.str root',.dct kvs']),.f (Zv lx pp es),.f (Y6 ps us),.f (Y6 Zi us')]) (Ld (FR (hB pp es) XY kvs' ps Zi))
set_option maxHeartbeats 2000000 in
theorem arf_ok{w:W}(hK:Zqf w.C)(hM:n9 w.C)(hH:Je "holds" w.C)(hL:PLoa w.C){ns Y0:ZG}{root root':Str}{XY kvs':ZX}{ps Zi us us':ZZ}{lx:Bool}{pp:List (Str×Str)}{es:ZG}(h:N5 ns XY ps)(h':N5 Y0 kvs' Zi):wF Yr w [.f (.tup [.str root,.dct XY]),.f (.tup [.str root',.dct kvs']),.f (Zv lx pp es),.f (Y6 ps us),.f (Y6 Zi us')] (Ld (FR (hB pp es) XY kvs' ps Zi)):=by
 refine Zu rfl fun D rt _=>?_;refine Zz (hK h.p h'.p) fun y hy=>?_;obtain⟨b,hb,rfl⟩:=hy;refine Zq (b:=!b) (fun z=>rt _ _ ⟨false,⟨(fun q=>nomatch q),fun q=>by rw[hb.mpr q.1]at z;cases z⟩,rfl⟩) fun z=>?_;have lk:=hb.mp (Yp z);refine Dh (fun rest p=>∃s5 s6,p=[.f (.tup [.str root,.dct XY]),.f (.tup [.str root',.dct kvs']),.f (Zv lx pp es),.f (Y6 ps us),.f (Y6 Zi us'),s5,s6]/\(∀x∈rest,x∈ps)/\∀f∈ps,f∈rest\/∀g∈Zi,Z7 f=Z7 g->wc (hB pp es) XY kvs' f g) ⟨_,_,rfl,fun x m=>m,fun f m=>.inl m⟩ (fun f rest p D' hi nx Tq=>?_) fun p hi=>?_
 .obtain⟨s5,s6,rfl,hr,hd⟩:=hi;have mf:=hr f Yb;have Wp:∀x∈rest,x∈ps:=fun x m=>hr x (Y5 _ m);obtain⟨n,x,o,ds,rfl,fo⟩:=h.f f mf
  have go:(∀g∈Zi,n=Z7 g->wc (hB pp es) XY kvs' (.tup [.int n,.str x,.str o,.tup ds]) g)->∀f∈ps,f∈rest\/∀g∈Zi,Z7 f=Z7 g->wc (hB pp es) XY kvs' f g:=fun hf f1 m1=>by
   rcases hd f1 m1 with q | q
   .rcases Ya.mp q with rfl | q
    .exact .inr hf
    .exact .inl q
   .exact .inr q
  refine Zz (hM (s:="record") (r:=[.tup us']) h'.p.p) fun y ey=>?_;subst ey;cases q:Z3 Zi n with
  | none=>exact nx _ ⟨_,_,rfl,Wp,go fun g mg e=>absurd e.symm (find_none.mp q g mg)⟩
  | some g =>
   obtain⟨mg,eg⟩:=(find_some h'.p.d).mp q;obtain⟨n',x',o',Un,rfl,fo'⟩:=h'.f g mg;refine Zz hH fun y ey=>?_;subst ey;refine Zq (b:=!hB pp es o o') (fun z=>?_) fun z=>?_
   .refine Tq _ _ (rt _ _ ⟨false,⟨(fun q=>nomatch q),fun q=>?_⟩,rfl⟩);have:=(q.2 _ mf _ mg eg.symm _ _ _ _ _ _ _ _ rfl rfl).1;rw[this]at z;cases z
   .refine Zz (hL fo fo') fun y hy=>?_;obtain⟨b,hb,rfl⟩:=hy;refine Zq (b:=!b) (fun z=>?_) fun z2=>?_
    .refine Tq _ _ (rt _ _ ⟨false,⟨(fun q=>nomatch q),fun q=>?_⟩,rfl⟩);have:=(q.2 _ mf _ mg eg.symm _ _ _ _ _ _ _ _ rfl rfl).2;rw[hb.mpr this]at z;cases z
    .refine nx _ ⟨_,_,rfl,Wp,go fun g1 m1 e1=>?_⟩;have:Z3 Zi n=some g1:=(find_some h'.p.d).mpr ⟨m1,e1.symm⟩;rw[q]at this;cases this;exact .mk (Yp z) (hb.mp (Yp z2))
 .obtain⟨s5,s6,rfl,_,hd⟩:=hi;refine rt _ _ ⟨true,⟨fun _=>⟨lk,fun f m=>?_⟩,fun _=>rfl⟩,rfl⟩;rcases hd f m with q | q
  .cases q
  .exact q
noncomputable def Ad(L:List (Int×T))(acc:ZX):ZX:=(L.map fun p=>((Sum.inl p.1:Key),p.2)).foldl (fun acc kv=>Ym acc kv.1 kv.2) acc
theorem Wy:∀L:List (Int×T),Di (L.map fun p=>.tup [.int p.1,p.2])=some (L.map fun p=>((Sum.inl p.1:Key),p.2))
 | []=>rfl
 | p::L=>by show (some (Sum.inl p.1:Key)).bind _=_;show (Di (L.map fun p=>.tup [.int p.1,p.2])).map _=_;rw[Wy L];rfl
theorem Iw{L:List (Int×T)}{Q:Sl->Prop}(q:Q (.o (.dct (Ad L [])))):on (Ww .dict [.lst (L.map fun p=>.tup [.int p.1,p.2])]) Q:=Z1 (by show (Di _).map _=_;rw[Wy];rfl) q
theorem Ru{y:Int}:∀{L:List (Int×T)} {acc:ZX},y ∉ L.map (·.1)->Zj (Ad L acc) (.inl y)=Zj acc (.inl y)
 | [],_,_=>rfl
 | p::L,acc,h=>by
  show Zj (Ad L (Ym acc (.inl p.1) p.2)) (.inl y)=_;rw[O5,Ya]at h;rw[Ru (fun z=>h (.inr z)),Vy,if_neg (fun z=>h (.inl (Sum.inl.inj z).symm))]
theorem Am{y:Int}{t:T}:∀{L:List (Int×T)} {acc:ZX},(L.map (·.1)).Nodup->(y,t)∈L->Zj (Ad L acc) (.inl y)=some t
 | [],_,_,h=>absurd h J5
 | p::L,acc,d,h=>by
  obtain⟨d1,d2⟩:=List.nodup_cons.mp (show (p.1::L.map (·.1)).Nodup from d);show Zj (Ad L (Ym acc (.inl p.1) p.2)) (.inl y)=some t;rcases Ya.mp h with e | h
  .subst e;rw[Ru d1,Vy,if_pos rfl]
  .exact Am d2 h
noncomputable def T7:T->Int×T
 | .tup [.int n,_,o]=>(n,o)
 | _=>(0,.non)
theorem j5{w:W}{ss:ZG}{fs:ZZ}(hf:Ys ss false fs){Q:ZZ->P->Prop}(q:∀s0,Q ((fs.map T7).map fun p=>.tup [.int p.1,p.2]) [s0]) :
  V4 (fun x s K=>on (asg (.v 0) x s) fun s1=>if isNil .nil=true then wE w.nx (.pr .sl2 (.cons (.v 0) .nil)) s1 fun r s2=>Cy r fun y=>K (some y) s2
   else wE w.nx .nil s1 fun r s2=>Q5 r fun b=>if b=true then wE w.nx (.pr .sl2 (.cons (.v 0) .nil)) s2 fun r s3=>Cy r fun y=>K (some y) s3 else K none s2) fs [] [.no] Q:=by
 refine Ze (fun t=>.tup [.int (T7 t).1,(T7 t).2]) (fun s=>∃s0,s=[s0]) ⟨_,rfl⟩ (fun x mx s K hs hk=>?_) fun s hs=>?_
 .obtain⟨s0,rfl⟩:=hs;obtain⟨n,y,o,rfl,_⟩:=(hf.p x mx).cho;exact hk _ ⟨_,rfl⟩
 .obtain⟨s0,rfl⟩:=hs;rw[show fs.map (fun t=>T.tup [.int (T7 t).1,(T7 t).2])=(fs.map T7).map fun p=>.tup [.int p.1,p.2] by rw[List.map_map];rfl];exact q s0
theorem xh{ss:ZG}:∀{fs:ZZ},(∀f∈fs,Ci ss false f)->(fs.map T7).map (·.1)=fs.map Z7
 | [],_=>rfl
 | f::fs,h=>by
  obtain⟨n,y,o,rfl,_⟩:=(h f Yb).cho;rw[O5,O5,O5,xh fun f m=>h f (Y5 _ m)];rfl
theorem dv{XY:ZX}{k:Int}{x:T}{Q:Sl->Prop}(e:Zj XY (.inl k)=some x)(q:Q (.f x)):on ((Ek (.dct XY) (.int k)).map Sl.f) Q:=Z1 (by show (Zj XY (.inl k)).map _=_;rw[e];rfl) q
inductive Kx where | num | text | row | map | rcd | cho
noncomputable def kz:Kx->Str
 | .num => "whole"
 | .text => "text"
 | .row => "row"
 | .map => "map"
 | .rcd => "rec"
 | .cho => "arm"
theorem Ah{x y:Kx}(h:kz x=kz y):x=y:=by
 cases x<;>cases y<;>first | rfl | exact absurd h (by decide +kernel)
noncomputable def V5(ps us:ZZ)(b:Bool):T:=.tup [.str "choice",.tup ps,.tup us,.bl b]
inductive j9(ns:ZG):T->Kx->Prop
 | num{t:T}{a b:Int}(h:Bn t a b):j9 ns t .num
 | text {n:Int}:j9 ns (.tup [.str "text",.int n]) .text
 | row {o:Str} {n:Int} (ho:o∈ns):j9 ns (.tup [.str "row",.str o,.int n]) .row
 | map {o:Str} {n:Int} (ho:o∈ns):j9 ns (.tup [.str "map",.str o,.int n]) .map
 | rcd {ps us:ZZ} (hp:Ys ns true ps):j9 ns (Y6 ps us) .rcd
 | cho {ps us:ZZ} {b:Bool} (hp:Ys ns false ps):j9 ns (V5 ps us b) .cho
theorem Gm{ns:ZG}{t:T}(h:Shp ns t):∃k x r,t=.tup (.str k::r)/\Yq k=some (kz x)/\j9 ns t x:=by
 cases h with
 | whole a b c=>exact⟨_,.num,_,rfl,Zm,.num .whole⟩
 | truth=>exact⟨_,.num,_,rfl,Zd,.num .truth⟩
 | text a b=>exact⟨_,.text,_,rfl,Zb,.text⟩
 | row a b c=>exact⟨_,.row,_,rfl,Zs,.row a⟩
 | map a b c=>exact⟨_,.map,_,rfl,Zh,.map a⟩
 | record a b=>exact⟨_,.rcd,_,rfl,Yi,.rcd a⟩
 | choice a b=>exact⟨_,.cho,_,rfl,Ye,.cho a⟩
theorem D4{ns:ZG}{t:T}{x:Kx}(h:j9 ns t x){k:Str}{r:ZZ}(e:t=.tup (.str k::r)):Yq k=some (kz x):=by
 cases h with
 | num h=>cases h<;>cases e<;>first | exact Zm | exact Zd
 | text=>cases e;exact Zb
 | row _=>cases e;exact Zs
 | map _=>cases e;exact Zh
 | rcd _=>cases e;exact Yi
 | cho _=>cases e;exact Ye
def Dr(es:ZG)(o:Str):Bool:=es.any fun y=>decide (y=o)
noncomputable def S5:T->Str
 | .tup (_::_::.str o::_)=>o
 | _ => ""
noncomputable def Ff(pp:List (Str×Str))(es:ZG)(Zi:ZZ)(b':Bool)(f:T):Bool:=match Z3 Zi (Z7 f) with
 | none=>Dr es (S5 f) || b'
 | some g=>hB pp es (S5 f) (S5 g)
def j6(pp:List (Str×Str))(es:ZG)(o o':Str)(n m:Int):Prop:=Dr es o=true\/n=0\/(n<=m/\hB pp es o o'=true)
inductive PR(pp:List (Str×Str))(es:ZG)(XY kvs':ZX):T->T->Prop
 | num{t t':T}{a b c d:Int}(h:Bn t a b)(h':Bn t' c d)(l:c<=a)(u:b<=d):PR pp es XY kvs' t t'
 | text {n m:Int} (l:n<=m):PR pp es XY kvs' (.tup [.str "text",.int n]) (.tup [.str "text",.int m])
 | row {o o':Str} {n m:Int} (h:j6 pp es o o' n m):PR pp es XY kvs' (.tup [.str "row",.str o,.int n]) (.tup [.str "row",.str o',.int m])
 | map {o o':Str} {n m:Int} (h:j6 pp es o o' n m):PR pp es XY kvs' (.tup [.str "map",.str o,.int n]) (.tup [.str "map",.str o',.int m])
 | rcd {ps us Zi us':ZZ} (h:FR (hB pp es) XY kvs' ps Zi):PR pp es XY kvs' (Y6 ps us) (Y6 Zi us')
 | cho {ps us Zi us':ZZ} {b b':Bool} (h:∀f∈ps,Ff pp es Zi b' f=true):PR pp es XY kvs' (V5 ps us b) (V5 Zi us' b')
section
variable{pp:List (Str×Str)}{es:ZG}{XY kvs':ZX}
theorem zj{t t':T}(h:PR pp es XY kvs' t t'):∃x:Kx,(∀k r,t=.tup (.str k::r)->Yq k=some (kz x))/\∀k r,t'=.tup (.str k::r)->Yq k=some (kz x):=by
 cases h with
 | num h h' _ _=>exact⟨.num,fun k r e=>D4 (ns:=[]) (.num h) e,fun k r e=>D4 (ns:=[]) (.num h') e⟩
 | text _=>exact⟨.text,fun k r e=>by cases e;exact Zb,fun k r e=>by cases e;exact Zb⟩
 | row _=>exact⟨.row,fun k r e=>by cases e;exact Zs,fun k r e=>by cases e;exact Zs⟩
 | map _=>exact⟨.map,fun k r e=>by cases e;exact Zh,fun k r e=>by cases e;exact Zh⟩
 | rcd _=>exact⟨.rcd,fun k r e=>by cases e;exact Yi,fun k r e=>by cases e;exact Yi⟩
 | cho _=>exact⟨.cho,fun k r e=>by cases e;exact Ye,fun k r e=>by cases e;exact Ye⟩
theorem Zxg{ns Y0:ZG}{t t':T}{x y:Kx}(h:Shp ns t)(h':Shp Y0 t')(kx:j9 ns t x)(ky:j9 Y0 t' y)(ne:x≠y):¬ PR pp es XY kvs' t t':=fun z=>by
 obtain⟨u,h1,h2⟩:=zj z;obtain⟨k,_,r,e,_⟩:=Gm h;obtain⟨k',_,r',e',_⟩:=Gm h';have a:=h1 k r e;have b:=h2 k' r' e';rw[D4 kx e]at a;rw[D4 ky e']at b;exact ne (Ah ((Nf a).trans (Nf b).symm))
theorem nq{t:T}{a b c d:Int}(h:Bn t a b)(h':Bn t c d):a=c/\b=d:=by
 cases h with
 | whole=>cases h';exact⟨rfl,rfl⟩
 | truth=>cases h';exact⟨rfl,rfl⟩
theorem Tj{t t':T}{a b c d:Int}{x y:Bool}(h:Bn t a b)(h':Bn t' c d)(hx:x=true↔c<=a)(hy:y=true↔b<=d):(x && y)=true↔PR pp es XY kvs' t t':=by
 rw[Jx,hx,hy];constructor
 .exact fun⟨l,u⟩=>.num h h' l u
 .intro z;cases z with
  | num g g' l u=>obtain⟨rfl,rfl⟩:=nq h g;obtain⟨rfl,rfl⟩:=nq h' g';exact⟨l,u⟩
  | text _=>cases h
  | row _=>cases h
  | map _=>cases h
  | rcd _=>cases h
  | cho _=>cases h
theorem zx{n m:Int}:PR pp es XY kvs' (.tup [.str "text",.int n]) (.tup [.str "text",.int m])↔n<=m:=by
 constructor
 .intro z;cases z with
  | num g _ _ _=>cases g
  | text l=>exact l
 .exact .text
theorem kc{o o':Str}{n m:Int}:PR pp es XY kvs' (.tup [.str "row",.str o,.int n]) (.tup [.str "row",.str o',.int m])↔j6 pp es o o' n m:=by
 constructor
 .intro z;cases z with
  | num g _ _ _=>cases g
  | row l=>exact l
 .exact .row
theorem pr_map{o o':Str}{n m:Int}:PR pp es XY kvs' (.tup [.str "map",.str o,.int n]) (.tup [.str "map",.str o',.int m])↔j6 pp es o o' n m:=by
 constructor
 .intro z;cases z with
  | num g _ _ _=>cases g
  | map l=>exact l
 .exact .map
theorem H0{ps us Zi us':ZZ}:PR pp es XY kvs' (Y6 ps us) (Y6 Zi us')↔FR (hB pp es) XY kvs' ps Zi:=by
 constructor
 .intro z;generalize e:Y6 ps us=t at z;generalize e':Y6 Zi us'=t' at z;cases z with
  | num g _ _ _=>cases g<;>cases e
  | text _=>cases e
  | row _=>cases e
  | map _=>cases e
  | rcd l=>cases e;cases e';exact l
  | cho _=>cases e
 .exact .rcd
theorem H7{ps us Zi us':ZZ}{b b':Bool}:PR pp es XY kvs' (V5 ps us b) (V5 Zi us' b')↔∀f∈ps,Ff pp es Zi b' f=true:=by
 constructor
 .intro z;generalize e:V5 ps us b=t at z;generalize e':V5 Zi us' b'=t' at z;cases z with
  | num g _ _ _=>cases g<;>cases e
  | text _=>cases e
  | row _=>cases e
  | map _=>cases e
  | rcd l=>cases e
  | cho l=>cases e;cases e';exact l
 .exact .cho
end
def PBo(C:Cs):Prop:=∀{t:T} {a b:Int},Bn t a b->O2 C "bounds_of" [.f t] (.f (.tup [.int a,.int b]),[])
theorem j4{w:W}{t:T}{a b:Int}(h:Bn t a b):wF Ju w [.f t] fun x=>x=(.f (.tup [.int a,.int b]),[]):=by
 refine Zu rfl fun D rt _=>?_;cases h<;>exact rt _ _ rfl
def PArm(C:Cs):Prop:=∀{ns Y0:ZG} {Zi us':ZZ} {b':Bool} {f:T} {lx:Bool} {pp:List (Str×Str)} {es:ZG},Ci ns false f->Ys Y0 false Zi->cN (C "is_right_arm" [.f (Zv lx pp es),.f f,.f (V5 Zi us' b')]) fun x=>x=(.f (.bl (Ff pp es Zi b' f)),[])
theorem arm_ok{w:W}(hM:n9 w.C)(hH:Je "holds" w.C){ns Y0:ZG}{Zi us':ZZ}{b':Bool}{f:T}{lx:Bool}{pp:List (Str×Str)}{es:ZG}(hf:Ci ns false f)(hp:Ys Y0 false Zi):wF V0 w [.f (Zv lx pp es),.f f,.f (V5 Zi us' b')] fun x=>x=(.f (.bl (Ff pp es Zi b' f)),[]):=by
 refine Zu rfl fun D rt _=>?_;obtain⟨n,x,o,rfl,_⟩:=hf.cho;refine Zz (hM (s:="choice") (r:=[.tup us',.bl b']) hp.p) fun y ey=>?_;subst ey;have ea:Ff pp es Zi b' (.tup [.int n,.str x,.str o])=match Z3 Zi n with | none=>Dr es o || b' | some g=>hB pp es o (S5 g):=rfl
 rw[ea]at rt;cases q:Z3 Zi n with
 | none =>
  rw[q]at rt;show wS w _ _ [.f (Zv lx pp es),.f (.tup [.int n,.str x,.str o]),.f (V5 Zi us' b'),.f .non] _;refine D5 ?_;refine Zq (b:=es.any fun y=>decide (y=o)) (fun z=>?_) fun z=>?_
  .refine rt _ _ ?_;unfold Dr;rw[z];rfl
  .refine rt _ _ ?_;unfold Dr;rw[z];rfl
 | some g =>
  rw[q]at rt;obtain⟨n',x',o',rfl,_⟩:=(hp.p g (List.mem_of_find?_eq_some q)).cho;show wS w _ _ [.f (Zv lx pp es),.f (.tup [.int n,.str x,.str o]),.f (V5 Zi us' b'),.f (.tup [.int n',.str x',.str o'])] _;refine Zz hH fun y ey=>?_;subst ey;exact rt _ _ rfl
structure Mk(ns:ZG)(XY:ZX):Prop where
 g:∀o∈ns,∃s,Zj XY (.inr o)=some s/\Shp ns s
 f:∀{ps us:ZZ} {x:Str},Zj XY (.inr x)=some (Y6 ps us)->Ys ns true ps->N5 ns XY ps
def dn(pp:List (Str×Str))(es:ZG)(XY kvs':ZX)(t t':T):Sl×ZZ->Prop:=Ld (PR pp es XY kvs' t t')
theorem not_lt{a b:Int}:(!decide (a<b))=true↔b<=a:=by
 by_cases h:a<b
 .rw[Jo h];exact⟨(fun z=>nomatch z),fun z=>absurd h (by omega)⟩
 .rw[Mr h];exact⟨fun _=>by omega,fun _=>rfl⟩
def PIRP(C:Cs):Prop:=∀{ns Y0:ZG} {root root' a r:Str} {XY kvs':ZX} {t t':T} {lx:Bool} {pp:List (Str×Str)} {es:ZG},Mk ns XY->Mk Y0 kvs'->Zj XY (.inr a)=some t->Zj kvs' (.inr r)=some t'->Shp ns t->Shp Y0 t'->cN (C "is_right_pair" [.f (.tup [.str root,.dct XY]),.f (.tup [.str root',.dct kvs']),.f (Zv lx pp es),.f (.tup [.str a,.str r])]) (dn pp es XY kvs' t t')
set_option maxHeartbeats 2000000 in
theorem irp_ok{w:W}(hF:Ll w.C)(hI:PIS w.C)(hBo:PBo w.C)(hR:PARF w.C)(hA:PArm w.C)(hH:Je "holds" w.C){ns Y0:ZG}{root root' a r:Str}{XY kvs':ZX}{t t':T}{lx:Bool}{pp:List (Str×Str)}{es:ZG}(m:Mk ns XY)(m':Mk Y0 kvs')(e:Zj XY (.inr a)=some t)(e':Zj kvs' (.inr r)=some t')(h:Shp ns t)(h':Shp Y0 t'):wF Vm w [.f (.tup [.str root,.dct XY]),.f (.tup [.str root',.dct kvs']),.f (Zv lx pp es),.f (.tup [.str a,.str r])] (dn pp es XY kvs' t t'):=by
 refine Zu rfl fun D rt _=>?_;refine Zz (hF e) fun y ey=>?_;subst ey;refine Zz (hF e') fun y ey=>?_;subst ey;obtain⟨k,x,r1,e1,w1,k1⟩:=Gm h;obtain⟨k',x',r2,e2,w2,k2⟩:=Gm h';have c1:cN (w.C "item_sort" [.f t]) fun y=>y=(.f (.str (kz x)),[]):=by rw[e1];exact hI w1
 have c2:cN (w.C "item_sort" [.f t']) fun y=>y=(.f (.str (kz x')),[]):=by rw[e2];exact hI w2
 refine Zz c1 fun y ey=>?_;subst ey;show wS w _ _ [.f (.tup [.str root,.dct XY]),.f (.tup [.str root',.dct kvs']),.f (Zv lx pp es),.f (.tup [.str a,.str r]),.f t,.f t',.f (.str (kz x)),.no,.no] _;refine Zz c2 fun y ey=>?_;subst ey;refine Zq (b:=!decide (kz x'=kz x)) (fun z=>?_) fun z=>?_
 .refine rt _ _ ⟨false,⟨(fun q=>nomatch q),fun q=>absurd q (Zxg h h' k1 k2 fun ex=>?_)⟩,rfl⟩;rw[ex,Jo rfl]at z;cases z
 have ex:x'=x:=Ah (Dk (Yp z));subst ex;cases k1 with
 | @num _ a1 a2 b1=>cases k2 with | @num _ c1 c2 b2 =>
  refine Zz (hBo b1) fun y ey=>?_;subst ey;refine Zz (hBo b2) fun y ey=>?_;subst ey;refine Zq (b:=!decide (a1<c1)) (fun z=>?_) fun z=>?_
  .exact rt _ _ ⟨_,⟨fun q=>(Tj b1 b2 not_lt not_lt).mp (by rw[z];exact q),fun q=>by have:=(Tj (pp:=pp) (es:=es) (XY:=XY) (kvs':=kvs') b1 b2 not_lt not_lt).mpr q;rw[z]at this;exact this⟩,rfl⟩
  .exact rt _ _ ⟨false,⟨(fun q=>nomatch q),fun q=>by have:=(Tj (pp:=pp) (es:=es) (XY:=XY) (kvs':=kvs') b1 b2 not_lt not_lt).mpr q;rw[z]at this;cases this⟩,rfl⟩
 | text=>cases k2 with | text=>exact rt _ _ ⟨_,not_lt.trans zx.symm,rfl⟩
 | @row o n ho=>cases k2 with | @row o' q wg =>
  have hr:=kc (pp:=pp) (es:=es) (XY:=XY) (kvs':=kvs') (o:=o) (n:=n) (o':=o') (m:=q);refine D5 ?_;refine Zq (b:=es.any fun y=>decide (y=o)) (fun z=>rt _ _ ⟨true,⟨fun _=>hr.mpr (.inl z),fun _=>rfl⟩,rfl⟩) fun z=>?_;refine Zq (b:=decide (n=0)) (fun z=>rt _ _ ⟨true,⟨fun _=>hr.mpr (.inr (.inl (Dk z))),fun _=>rfl⟩,rfl⟩) fun z2=>?_
  have hn:j6 pp es o o' n q->n<=q/\hB pp es o o'=true:=fun g=>by
   rcases g with g | g | g
   .rw[show Dr es o=false from z]at g;cases g
   .exact absurd g (of_decide_eq_false z2)
   .exact g
  refine Zq (b:=!decide (q<n)) (fun z3=>?_) fun z3=>?_
  .refine Zz hH fun y ey=>?_;subst ey;exact rt _ _ ⟨_,⟨fun g=>hr.mpr (.inr (.inr ⟨not_lt.mp z3,g⟩)),fun g=>(hn (hr.mp g)).2⟩,rfl⟩
  .refine rt _ _ ⟨false,⟨(fun q=>nomatch q),fun g=>?_⟩,rfl⟩;have:=not_lt.mpr (hn (hr.mp g)).1;rw[this]at z3;cases z3
 | @map o n ho=>cases k2 with | @map o' q wg =>
  have hr:=pr_map (pp:=pp) (es:=es) (XY:=XY) (kvs':=kvs') (o:=o) (n:=n) (o':=o') (m:=q);refine D5 ?_;refine Zq (b:=es.any fun y=>decide (y=o)) (fun z=>rt _ _ ⟨true,⟨fun _=>hr.mpr (.inl z),fun _=>rfl⟩,rfl⟩) fun z=>?_;refine Zq (b:=decide (n=0)) (fun z=>rt _ _ ⟨true,⟨fun _=>hr.mpr (.inr (.inl (Dk z))),fun _=>rfl⟩,rfl⟩) fun z2=>?_
  have hn:j6 pp es o o' n q->n<=q/\hB pp es o o'=true:=fun g=>by
   rcases g with g | g | g
   .rw[show Dr es o=false from z]at g;cases g
   .exact absurd g (of_decide_eq_false z2)
   .exact g
  refine Zq (b:=!decide (q<n)) (fun z3=>?_) fun z3=>?_
  .refine Zz hH fun y ey=>?_;subst ey;exact rt _ _ ⟨_,⟨fun g=>hr.mpr (.inr (.inr ⟨not_lt.mp z3,g⟩)),fun g=>(hn (hr.mp g)).2⟩,rfl⟩
  .refine rt _ _ ⟨false,⟨(fun q=>nomatch q),fun g=>?_⟩,rfl⟩;have:=not_lt.mpr (hn (hr.mp g)).1;rw[this]at z3;cases z3
 | rcd hp=>cases k2 with | rcd L3 =>
  refine Zz (hR (m.f e hp) (m'.f e' L3)) fun y hy=>?_;obtain⟨b,hb,rfl⟩:=hy;exact rt _ _ ⟨b,hb.trans H0.symm,rfl⟩
 | @cho ps us b hp=>cases k2 with | @cho Zi us' b' L3 =>
  refine Ze (fun f=>.bl (Ff pp es Zi b' f)) (fun p=>∃s0,p=[s0,.f (Zv lx pp es),.f (V5 Zi us' b')]) ⟨_,rfl⟩ (fun f mf p K hi hk=>?_) fun p hi=>?_
  .obtain⟨s0,rfl⟩:=hi;refine Zz (hA (hp.p f mf) L3) fun y ey=>?_;subst ey;exact hk _ ⟨_,rfl⟩
  obtain⟨s0,rfl⟩:=hi;refine Rg ?_;exact rt _ _ ⟨_,R5.trans H7.symm,rfl⟩
def fdP(f:T):Int×T:=(Z7 f,f)
theorem Uk{ps:ZZ}(d:(ps.map Z7).Nodup)(n:Int):Zj (Ad (ps.map fdP) []) (.inl n)=Z3 ps n:=by
 have ek:(ps.map fdP).map (·.1)=ps.map Z7:=by rw[List.map_map];rfl
 cases q:Z3 ps n with
 | none =>
  rw[Ru (by rw[ek];exact fun z=>by obtain⟨f,m,e⟩:=M4.mp z;exact find_none.mp q f m e)]
  rfl
 | some f =>
  obtain⟨m,e⟩:=(find_some d).mp q;exact Am (by rw[ek];exact d) (M4.mpr ⟨f,m,by unfold fdP;rw[e]⟩)
def PLFR(C:Cs):Prop:=∀{ns Y0:ZG} {root root':Str} {XY kvs':ZX} {ps Zi us us':ZZ} {lx:Bool} {pp:List (Str×Str)} {es:ZG},Mk ns XY->Mk Y0 kvs'->N5 ns XY ps->N5 Y0 kvs' Zi->cN (C "_law_fields_right" [.f (.tup [.str root,.dct XY]),.f (.tup [.str root',.dct kvs']),.f (Zv lx pp es),.f (Y6 ps us),.f (Y6 Zi us')]) (Ld (FR (hB pp es) XY kvs' ps Zi))
theorem N5.get{ns:ZG}{XY:ZX}{ps:ZZ}(h:N5 ns XY ps){f:T}(m:f∈ps):∃n x o ds,f=.tup [.int n,.str x,.str o,.tup ds]/\FdO ns XY o ds/\o∈ns:=by
 obtain⟨n,x,o,ds,rfl,fo⟩:=h.f f m;obtain⟨_,_,_,_,e,_,_,ho,_⟩:=(h.p.p _ m).asR;cases e;exact⟨n,x,o,ds,rfl,fo,ho⟩
set_option maxHeartbeats 4000000 in
theorem lfr_ok{w:W}(hH:Je "_law_holds" w.C)(hA:PLAl w.C){ns Y0:ZG}{root root':Str}{XY kvs':ZX}{ps Zi us us':ZZ}{lx:Bool}{pp:List (Str×Str)}{es:ZG}(m:Mk ns XY)(m':Mk Y0 kvs')(h:N5 ns XY ps)(h':N5 Y0 kvs' Zi):wF Yc w [.f (.tup [.str root,.dct XY]),.f (.tup [.str root',.dct kvs']),.f (Zv lx pp es),.f (Y6 ps us),.f (Y6 Zi us')] (Ld (FR (hB pp es) XY kvs' ps Zi)):=by
 refine Zu rfl fun D rt _=>?_;refine Ze (fun f=>.tup [.int (Z7 f),f]) (fun p=>∃s0,p=[s0]) ⟨_,rfl⟩ (fun f mf p K hi hk=>?_) fun p hi=>?_
 .obtain⟨s0,rfl⟩:=hi;obtain⟨n,x,o,ds,rfl,_⟩:=h.get mf;exact hk _ ⟨_,rfl⟩
 obtain⟨s0,rfl⟩:=hi;rw[show (ps.map fun f=>T.tup [.int (Z7 f),f])=(ps.map fdP).map fun p=>.tup [.int p.1,p.2] by rw[List.map_map];rfl];refine Iw ?_;refine Dh (fun rest p=>∃s6 s7 s8 s9 qc ya yu,p=[.f (.tup [.str root,.dct XY]),.f (.tup [.str root',.dct kvs']),.f (Zv lx pp es),.f (Y6 ps us),.f (Y6 Zi us'),.o (.dct (Ad (ps.map fdP) [])),s6,s7,s8,s9,qc,ya,yu]/\(∀x∈rest,x∈Zi)/\∀g∈Zi,g∈rest\/((dN g=true->∃f∈ps,Z7 f=Z7 g)/\∀f∈ps,Z7 f=Z7 g->wc (hB pp es) XY kvs' f g)) ⟨_,_,_,_,_,_,_,rfl,fun x m=>m,fun f m=>.inl m⟩ (fun g rest p D' hi nx Tq=>?_) fun p hi=>?_
 .obtain⟨s6,s7,s8,s9,qc,ya,yu,rfl,hr,hd⟩:=hi;have mg:=hr g Yb;have Wp:∀x∈rest,x∈Zi:=fun x m=>hr x (Y5 _ m);obtain⟨n',x',o',Un,rfl,fo',wg⟩:=h'.get mg
  have go:((Un.isEmpty=true->∃f∈ps,Z7 f=n')/\∀f∈ps,Z7 f=n'->wc (hB pp es) XY kvs' f (.tup [.int n',.str x',.str o',.tup Un]))->∀g∈Zi,g∈rest\/((dN g=true->∃f∈ps,Z7 f=Z7 g)/\∀f∈ps,Z7 f=Z7 g->wc (hB pp es) XY kvs' f g):=fun hg g1 m1=>by
   rcases hd g1 m1 with q | q
   .rcases Ya.mp q with rfl | q
    .exact .inr hg
    .exact .inl q
   .exact .inr q
  refine Zq (b:=!(Zj (Ad (ps.map fdP) []) (.inl n')).isSome) (fun z=>?_) fun z=>?_
  .rw[Uk h.p.d]at z
   have q:Z3 ps n'=none:=by
    cases q:Z3 ps n' with
    | none=>rfl
    | some f=>rw[q]at z;cases z
   refine Zq (b:=Un.isEmpty) (fun z2=>?_) fun z2=>?_
   .refine Tq _ _ (rt _ _ ⟨false,⟨(fun q=>nomatch q),fun q2=>?_⟩,rfl⟩);obtain⟨f,mf,ef⟩:=q2.1 _ mg z2;exact absurd ef (find_none.mp q f mf)
   .exact nx _ ⟨_,_,_,_,_,_,_,rfl,Wp,go ⟨(fun z3=>by rw[z2]at z3;cases z3),fun f mf ef=>absurd ef (find_none.mp q f mf)⟩⟩
  .rw[Uk h.p.d]at z;obtain⟨f,q⟩:=Option.isSome_iff_exists.mp (Yp z);obtain⟨mf,ef⟩:=(find_some h.p.d).mp q;obtain⟨n,x,o,ds,rfl,fo,ho⟩:=h.get mf;refine dv (by rw[Uk h.p.d];exact q) ?_;refine Zz hH fun y ey=>?_;subst ey
   have only:∀f∈ps,Z7 f=n'->f=.tup [.int n,.str x,.str o,.tup ds]:=fun f1 m1 e1=>by
    have:=(find_some h.p.d).mpr ⟨m1,e1⟩;rw[q]at this;cases this;rfl
   refine Zq (b:=!hB pp es o o') (fun z=>?_) fun z=>?_
   .refine Tq _ _ (rt _ _ ⟨false,⟨(fun q=>nomatch q),fun q2=>?_⟩,rfl⟩);have:=(q2.2 _ mf _ mg ef _ _ _ _ _ _ _ _ rfl rfl).1;rw[this]at z;cases z
   obtain⟨s,es,hs⟩:=m.g o ho;obtain⟨s',R0,Jz⟩:=m'.g o' wg;rcases fo.d with rfl | ⟨d,s1,rfl,e1,_,df⟩
   .refine Gj es ?_;refine Gj R0 ?_;exact nx _ ⟨_,_,_,_,_,_,_,rfl,Wp,go ⟨fun _=>⟨_,mf,ef⟩,fun f1 m1 g1=>by rw[only f1 m1 g1];exact .mk (Yp z) fun d z=>nomatch z⟩⟩
   .rw[es]at e1;cases e1;rcases fo'.d with rfl | ⟨d',Qp,rfl,Fx,_,df'⟩
    .refine Tq _ _ (rt _ _ ⟨false,⟨(fun q=>nomatch q),fun q2=>?_⟩,rfl⟩);obtain⟨_,_,_,z9,_⟩:=(q2.2 _ mf _ mg ef _ _ _ _ _ _ _ _ rfl rfl).2 d rfl;cases z9
    .rw[R0]at Fx;cases Fx;refine Gj es ?_;refine Gj R0 ?_;refine Zz (hA df.f df'.f) fun y hy=>?_;obtain⟨b,hb,rfl⟩:=hy;refine Zq (b:=!b) (fun z3=>?_) fun z3=>?_
     .refine Tq _ _ (rt _ _ ⟨false,⟨(fun q=>nomatch q),fun q2=>?_⟩,rfl⟩);obtain⟨d1,t1,t2,z9,g1,g2,al⟩:=(q2.2 _ mf _ mg ef _ _ _ _ _ _ _ _ rfl rfl).2 d rfl;cases z9;rw[es]at g1;rw[R0]at g2;cases g1;cases g2;rw[hb.mpr al]at z3;cases z3
     .exact nx _ ⟨_,_,_,_,_,_,_,rfl,Wp,go ⟨fun z3=>(nomatch z3),fun f1 m1 g1=>by rw[only f1 m1 g1];exact .mk (Yp z) fun d1 q1=>by cases q1;exact⟨d',s,s',rfl,es,R0,hb.mp (Yp z3)⟩⟩⟩
 .obtain⟨s6,s7,s8,s9,qc,ya,yu,rfl,_,hd⟩:=hi
  have all:∀g∈Zi,(dN g=true->∃f∈ps,Z7 f=Z7 g)/\∀f∈ps,Z7 f=Z7 g->wc (hB pp es) XY kvs' f g:=fun g mg=>by
   rcases hd g mg with q | q
   .cases q
   .exact q
  exact rt _ _ ⟨true,⟨fun _=>⟨fun g mg=>(all g mg).1,fun f mf g mg e=>(all g mg).2 f mf e⟩,fun _=>rfl⟩,rfl⟩
theorem O0{ns:ZG}{ps:ZZ}(h:Ys ns false ps)(n:Int):Zj (Ad (ps.map T7) []) (.inl n)=(Z3 ps n).map fun g=>.str (S5 g):=by
 have ek:(ps.map T7).map (·.1)=ps.map Z7:=xh h.p;cases q:Z3 ps n with
 | none =>
  rw[Ru (by rw[ek];exact fun z=>by obtain⟨f,m,e⟩:=M4.mp z;exact find_none.mp q f m e)]
  rfl
 | some f =>
  obtain⟨m,e⟩:=(find_some h.d).mp q;obtain⟨n',x,o,rfl,_⟩:=(h.p f m).cho;refine Am (by rw[ek];exact h.d) (M4.mpr ⟨_,m, ?_⟩);show (n',T.str o)=(n,T.str o);rw[show n'=n from e]
def thnS:S->S
 | .seq (.ite _ a _) _=>a
 | s=>s
def lpB:S->S
 | .seq (.loop _ _ b) _=>b
 | s=>s
theorem hB_em{pp:List (Str×Str)}{es:ZG}{o o':Str}(h:Dr es o=true):hB pp es o o'=true:=by
 unfold hB;rw[show (es.any fun y=>decide (y=o))=true from h,Bool.or_true]
def PLPR(C:Cs):Prop:=∀{ns Y0:ZG} {root root' a r:Str} {XY kvs':ZX} {t t':T} {lx:Bool} {pp:List (Str×Str)} {es:ZG},Mk ns XY->Mk Y0 kvs'->Zj XY (.inr a)=some t->Zj kvs' (.inr r)=some t'->Shp ns t->Shp Y0 t'->cN (C "_law_pair_right" [.f (.tup [.str root,.dct XY]),.f (.tup [.str root',.dct kvs']),.f (Zv lx pp es),.f (.str a),.f (.str r)]) (dn pp es XY kvs' t t')
theorem dq{ns:ZG}{t:T}{x:Kx}(k:j9 ns t x){C:Cs}(hB:lq C)(h:Shp ns t):∃ts,O2 C "_law_bounds" [.f t] (.f (.tup ts),[])/\((ts=[]/\x≠.num)\/∃a b,ts=[.int a,.int b]/\Bn t a b/\x=.num):=by
 obtain⟨k',x',r,rfl,w1,_⟩:=Gm h;have w2:=D4 k rfl;by_cases z:x=.num
 .subst z;cases k with | num b=>exact⟨_,hB.y b,.inr ⟨_,_,rfl,b,rfl⟩⟩
 .exact⟨_,hB.n w2 (fun e=>z (Ah (x:=x) (y:=.num) e)),.inl ⟨rfl,z⟩⟩
set_option maxHeartbeats 4000000 in
theorem Pw{w:W}(hR:PLFR w.C)(hH:Je "_law_holds" w.C){ns Y0:ZG}{root root' a r:Str}{XY kvs':ZX}{t t':T}{lx:Bool}{pp:List (Str×Str)}{es:ZG}(m:Mk ns XY)(m':Mk Y0 kvs')(e:Zj XY (.inr a)=some t)(e':Zj kvs' (.inr r)=some t')(h:Shp ns t)(h':Shp Y0 t'){x x':Kx}(k1:j9 ns t x)(k2:j9 Y0 t' x'){D:En}(rt:∀r1 p,on (fin [.f (.tup [.str root,.dct XY]),.f (.tup [.str root',.dct kvs']),.f (Zv lx pp es),.f (.str a),.f (.str r)] r1 p) (dn pp es XY kvs' t t')->D.rt r1 p)(ts Bz:ZZ)(hx:Ja (.tup []) [.tup ts,.tup Bz]=some true)(nn:x=.num->x'=.num->False):wS w (Yv [.f (.tup [.str root,.dct XY]),.f (.tup [.str root',.dct kvs']),.f (Zv lx pp es),.f (.str a),.f (.str r)]) (Yz 3 Za) [.f (.tup [.str root,.dct XY]),.f (.tup [.str root',.dct kvs']),.f (Zv lx pp es),.f (.str a),.f (.str r),.f t,.f t',.o (.lst [.tup ts,.tup Bz]),.no,.no,.no,.no,.no] D:=by
 have no:x≠x'->∀q:P,D.rt (.f (.bl false)) (.f (.tup [.str root,.dct XY])::.f (.tup [.str root',.dct kvs'])::.f (Zv lx pp es)::.f (.str a)::.f (.str r)::q):=fun ne q=>rt _ _ ⟨false,⟨(fun q=>nomatch q),fun q=>absurd q (Zxg h h' k1 k2 ne)⟩,rfl⟩;refine anyE (a:=.non) hx ?_;cases k1 with
 | num b1 =>
  cases b1 with
  | whole=>cases k2 with
   | num b2=>exact(nn rfl rfl).elim
   | _=>exact no (fun z=>nomatch z) _
  | truth=>cases k2 with
   | num b2=>exact(nn rfl rfl).elim
   | _=>exact no (fun z=>nomatch z) _
 | text=>cases k2 with
  | num b2=>cases b2<;>exact no (fun z=>nomatch z) _
  | text=>exact rt _ _ ⟨_,not_lt.trans zx.symm,rfl⟩
  | _=>exact no (fun z=>nomatch z) _
 | @row o n ho=>cases k2 with
  | num b2=>cases b2<;>exact no (fun z=>nomatch z) _
  | @row o' q wg =>
   have hr:=kc (pp:=pp) (es:=es) (XY:=XY) (kvs':=kvs') (o:=o) (n:=n) (o':=o') (m:=q)
   have fin:∀b:Bool,(b=true↔n<=q/\hB pp es o o'=true)->wS w (Yv [.f (.tup [.str root,.dct XY]),.f (.tup [.str root',.dct kvs']),.f (Zv lx pp es),.f (.str a),.f (.str r)]) (Yz 1 (thnS (Yz 6 Za))) [.f (.tup [.str root,.dct XY]),.f (.tup [.str root',.dct kvs']),.f (Zv lx pp es),.f (.str a),.f (.str r),.f (.tup [.str "row",.str o,.int n]),.f (.tup [.str "row",.str o',.int q]),.o (.lst [.tup ts,.tup Bz]),.f (.bl b),.no,.no,.no,.no] ⟨fun q=>wS w (Yv [.f (.tup [.str root,.dct XY]),.f (.tup [.str root',.dct kvs']),.f (Zv lx pp es),.f (.str a),.f (.str r)]) (Yz 7 Za) q D,D.rt,D.bk,D.ct⟩:=fun b hb=>by
    refine D5 ?_;refine Zq (b:=es.any fun y=>decide (y=o)) (fun z=>rt _ _ ⟨true,⟨fun _=>hr.mpr (.inl z),fun _=>rfl⟩,rfl⟩) fun z=>?_;refine Zq (b:=decide (n=0)) (fun z=>rt _ _ ⟨true,⟨fun _=>hr.mpr (.inr (.inl (Dk z))),fun _=>rfl⟩,rfl⟩) fun z2=>?_;refine rt _ _ ⟨b,⟨fun z3=>hr.mpr (.inr (.inr (hb.mp z3))),fun z3=>hb.mpr ?_⟩,rfl⟩;rcases hr.mp z3 with g | g | g
    .rw[show Dr es o=false from z]at g;cases g
    .exact absurd g (of_decide_eq_false z2)
    .exact g
   refine Zq (b:=!decide (q<n)) (fun z3=>?_) fun z3=>?_
   .refine Zz hH fun y ey=>?_;subst ey;exact fin _ ⟨fun g=>⟨not_lt.mp z3,g⟩,fun g=>g.2⟩
   .refine fin false ⟨(fun q=>nomatch q),fun g=>?_⟩;have:=not_lt.mpr g.1;rw[this]at z3;cases z3
  | _=>exact no (fun z=>nomatch z) _
 | @map o n ho=>cases k2 with
  | num b2=>cases b2<;>exact no (fun z=>nomatch z) _
  | @map o' q wg =>
   have hr:=pr_map (pp:=pp) (es:=es) (XY:=XY) (kvs':=kvs') (o:=o) (n:=n) (o':=o') (m:=q)
   have fin:∀b:Bool,(b=true↔n<=q/\hB pp es o o'=true)->wS w (Yv [.f (.tup [.str root,.dct XY]),.f (.tup [.str root',.dct kvs']),.f (Zv lx pp es),.f (.str a),.f (.str r)]) (Yz 1 (thnS (Yz 6 Za))) [.f (.tup [.str root,.dct XY]),.f (.tup [.str root',.dct kvs']),.f (Zv lx pp es),.f (.str a),.f (.str r),.f (.tup [.str "map",.str o,.int n]),.f (.tup [.str "map",.str o',.int q]),.o (.lst [.tup ts,.tup Bz]),.f (.bl b),.no,.no,.no,.no] ⟨fun q=>wS w (Yv [.f (.tup [.str root,.dct XY]),.f (.tup [.str root',.dct kvs']),.f (Zv lx pp es),.f (.str a),.f (.str r)]) (Yz 7 Za) q D,D.rt,D.bk,D.ct⟩:=fun b hb=>by
    refine D5 ?_;refine Zq (b:=es.any fun y=>decide (y=o)) (fun z=>rt _ _ ⟨true,⟨fun _=>hr.mpr (.inl z),fun _=>rfl⟩,rfl⟩) fun z=>?_;refine Zq (b:=decide (n=0)) (fun z=>rt _ _ ⟨true,⟨fun _=>hr.mpr (.inr (.inl (Dk z))),fun _=>rfl⟩,rfl⟩) fun z2=>?_;refine rt _ _ ⟨b,⟨fun z3=>hr.mpr (.inr (.inr (hb.mp z3))),fun z3=>hb.mpr ?_⟩,rfl⟩;rcases hr.mp z3 with g | g | g
    .rw[show Dr es o=false from z]at g;cases g
    .exact absurd g (of_decide_eq_false z2)
    .exact g
   refine Zq (b:=!decide (q<n)) (fun z3=>?_) fun z3=>?_
   .refine Zz hH fun y ey=>?_;subst ey;exact fin _ ⟨fun g=>⟨not_lt.mp z3,g⟩,fun g=>g.2⟩
   .refine fin false ⟨(fun q=>nomatch q),fun g=>?_⟩;have:=not_lt.mpr g.1;rw[this]at z3;cases z3
  | _=>exact no (fun z=>nomatch z) _
 | rcd hp=>cases k2 with
  | num b2=>cases b2<;>exact no (fun z=>nomatch z) _
  | rcd L3 =>
   refine Zz (hR m m' (m.f e hp) (m'.f e' L3)) fun y hy=>?_;obtain⟨b,hb,rfl⟩:=hy;exact rt _ _ ⟨b,hb.trans H0.symm,rfl⟩
  | _=>exact no (fun z=>nomatch z) _
 | @cho ps us b hp=>cases k2 with
  | num b2=>cases b2<;>exact no (fun z=>nomatch z) _
  | @cho Zi us' b' L3 =>
   refine j5 L3 fun s0=>?_;refine Iw ?_;refine Dh (fun rest p=>∃s8 qc ya yu,p=[.f (.tup [.str root,.dct XY]),.f (.tup [.str root',.dct kvs']),.f (Zv lx pp es),.f (.str a),.f (.str r),.f (V5 ps us b),.f (V5 Zi us' b'),.o (.lst [.tup ts,.tup Bz]),s8,.o (.dct (Ad (Zi.map T7) [])),qc,ya,yu]/\(∀x∈rest,x∈ps)/\∀f∈ps,f∈rest\/Ff pp es Zi b' f=true) ⟨_,_,_,_,rfl,fun x m=>m,fun f m=>.inl m⟩ (fun f rest p D' hi nx Tq=>?_) fun p hi=>?_
   .obtain⟨s8,qc,ya,yu,rfl,hr,hd⟩:=hi;have mf:=hr f Yb;have Wp:∀x∈rest,x∈ps:=fun x m=>hr x (Y5 _ m);obtain⟨n,x1,o,rfl,_⟩:=(hp.p f mf).cho;have ea:Ff pp es Zi b' (.tup [.int n,.str x1,.str o])=match Z3 Zi n with | none=>Dr es o || b' | some g=>hB pp es o (S5 g):=rfl
    have fin:∀good:Bool,(Dr es o || good)=Ff pp es Zi b' (.tup [.int n,.str x1,.str o])->wS w (Yv [.f (.tup [.str root,.dct XY]),.f (.tup [.str root',.dct kvs']),.f (Zv lx pp es),.f (.str a),.f (.str r)]) (Yz 1 (lpB (Yz 9 Za))) [.f (.tup [.str root,.dct XY]),.f (.tup [.str root',.dct kvs']),.f (Zv lx pp es),.f (.str a),.f (.str r),.f (V5 ps us b),.f (V5 Zi us' b'),.o (.lst [.tup ts,.tup Bz]),.f (.bl good),.o (.dct (Ad (Zi.map T7) [])),.f (.int n),.f (.str x1),.f (.str o)] D':=fun good hg=>by
     have yes:Ff pp es Zi b' (.tup [.int n,.str x1,.str o])=true->D'.nx [.f (.tup [.str root,.dct XY]),.f (.tup [.str root',.dct kvs']),.f (Zv lx pp es),.f (.str a),.f (.str r),.f (V5 ps us b),.f (V5 Zi us' b'),.o (.lst [.tup ts,.tup Bz]),.f (.bl good),.o (.dct (Ad (Zi.map T7) [])),.f (.int n),.f (.str x1),.f (.str o)]:=fun y=>nx _ ⟨_,_,_,_,rfl,Wp,fun f1 m1=>by
      rcases hd f1 m1 with q | q
      .rcases Ya.mp q with rfl | q
       .exact .inr y
       .exact .inl q
      .exact .inr q⟩
     refine Ag ?_;refine Zq (b:=!es.any fun y=>decide (y=o)) (fun z=>?_) fun z=>?_
     .refine Zq (b:=!good) (fun z2=>?_) fun z2=>?_
      .refine Tq _ _ (rt _ _ ⟨false,⟨(fun q=>nomatch q),fun q=>?_⟩,rfl⟩);have:=H7.mp q _ mf;rw[<-hg,show Dr es o=false from Bv z,Bv z2]at this;cases this
      .refine yes ?_;rw[<-hg,Yp z2,Bool.or_true]
     .refine yes ?_;rw[<-hg,show Dr es o=true from Yp z];rfl
    refine Zq (b:=(Zj (Ad (Zi.map T7) []) (.inl n)).isSome) (fun z=>?_) fun z=>?_
    .rw[O0 L3]at z;cases q:Z3 Zi n with
     | none=>rw[q]at z;cases z
     | some g =>
      refine dv (x:=.str (S5 g)) (by rw[O0 L3,q];rfl) ?_;refine Zz hH fun y ey=>?_;subst ey;refine fin _ ?_;rw[ea,q];show (Dr es o || hB pp es o (S5 g))=hB pp es o (S5 g);cases q3:Dr es o with
      | false=>rfl
      | true=>rw[hB_em q3];rfl
    .rw[O0 L3]at z;refine fin b' ?_;cases q:Z3 Zi n with
     | none=>rw[ea,q]
     | some g=>rw[q]at z;cases z
   .obtain⟨s8,qc,ya,yu,rfl,_,hd⟩:=hi;refine rt _ _ ⟨true,⟨fun _=>H7.mpr fun f mf=>?_,fun _=>rfl⟩,rfl⟩;rcases hd f mf with q | q
    .cases q
    .exact q
  | _=>exact no (fun z=>nomatch z) _
noncomputable def putS:Nat->S->S->S
 | n+1,.seq a b,r=>.seq a (putS n b r)
 | _,_,r=>r
theorem o8{w:W}{root root' a r:Str}{XY kvs':ZX}{t t' pp:T}{ts Bz:ZZ}(e:Zj XY (.inr a)=some t)(e':Zj kvs' (.inr r)=some t')(c1:O2 w.C "_law_bounds" [.f t] (.f (.tup ts),[]))(c2:O2 w.C "_law_bounds" [.f t'] (.f (.tup Bz),[])){D:En}{c:S}
  (k:wS w (Yv [.f (.tup [.str root,.dct XY]),.f (.tup [.str root',.dct kvs']),.f pp,.f (.str a),.f (.str r)]) c [.f (.tup [.str root,.dct XY]),.f (.tup [.str root',.dct kvs']),.f pp,.f (.str a),.f (.str r),.f t,.f t',.o (.lst [.tup ts,.tup Bz]),.no,.no,.no,.no,.no] D):wS w (Yv [.f (.tup [.str root,.dct XY]),.f (.tup [.str root',.dct kvs']),.f pp,.f (.str a),.f (.str r)]) (putS 3 Za c) [.f (.tup [.str root,.dct XY]),.f (.tup [.str root',.dct kvs']),.f pp,.f (.str a),.f (.str r),.no,.no,.no,.no,.no,.no,.no,.no] D:=by
 refine Gj e ?_;refine Gj e' ?_;refine Zz c1 fun y ey=>?_;subst ey;refine Zz c2 fun y ey=>?_;subst ey;exact k
set_option maxHeartbeats 4000000 in
theorem lpr_ok{w:W}(hBd:lq w.C)(hR:PLFR w.C)(hH:Je "_law_holds" w.C){ns Y0:ZG}{root root' a r:Str}{XY kvs':ZX}{t t':T}{lx:Bool}{pp:List (Str×Str)}{es:ZG}(m:Mk ns XY)(m':Mk Y0 kvs')(e:Zj XY (.inr a)=some t)(e':Zj kvs' (.inr r)=some t')(h:Shp ns t)(h':Shp Y0 t'):wF Vj w [.f (.tup [.str root,.dct XY]),.f (.tup [.str root',.dct kvs']),.f (Zv lx pp es),.f (.str a),.f (.str r)] (dn pp es XY kvs' t t'):=by
 refine Zu rfl fun D rt _=>?_;obtain⟨k,x,r1,e1,w1,k1⟩:=Gm h;obtain⟨k',x',r2,e2,w2,k2⟩:=Gm h';obtain⟨ts,c1,b1⟩:=dq k1 hBd h;obtain⟨Bz,c2,b2⟩:=dq k2 hBd h';refine o8 e e' c1 c2 (c:=Yz 3 Za) ?_;rcases b1 with ⟨rfl,n1⟩ | ⟨a1,a2,rfl,b1,rfl⟩
 .rcases b2 with ⟨rfl,n2⟩ | ⟨d1,d2,rfl,b2,rfl⟩
  .have key:=Pw hR hH m m' e e' h h' k1 k2 rt [] [] rfl fun z _=>n1 z;exact key
  .have key:=Pw hR hH m m' e e' h h' k1 k2 rt [] [.int d1,.int d2] rfl fun z _=>n1 z;exact key
 .rcases b2 with ⟨rfl,n2⟩ | ⟨d1,d2,rfl,b2,rfl⟩
  .have key:=Pw hR hH m m' e e' h h' k1 k2 rt [.int a1,.int a2] [] rfl fun _ z=>n2 z;exact key
  .refine Zq (b:=!decide (a1<d1)) (fun z=>?_) fun z=>?_
   .exact rt _ _ ⟨_,⟨fun q=>(Tj b1 b2 not_lt not_lt).mp (by rw[z];exact q),fun q=>by have:=(Tj (pp:=pp) (es:=es) (XY:=XY) (kvs':=kvs') b1 b2 not_lt not_lt).mpr q;rw[z]at this;exact this⟩,rfl⟩
   .exact rt _ _ ⟨false,⟨(fun q=>nomatch q),fun q=>by have:=(Tj (pp:=pp) (es:=es) (XY:=XY) (kvs':=kvs') b1 b2 not_lt not_lt).mpr q;rw[z]at this;cases this⟩,rfl⟩
theorem Dw.toMk{root:Str}{XY:ZX}{ss:ZG}(h:Dw root XY ss):Mk ss XY:=by
 refine⟨fun o mo=>h.f.get mo,fun {ps us x} e hp=>⟨hp,fun f mf=>?_⟩⟩;obtain⟨n,y,o,ds,rfl,_,_,ho,hd⟩:=(hp.p f mf).asR;refine⟨n,y,o,ds,rfl,⟨?_⟩⟩;cases hd with
 | no=>exact .inl rfl
 | is dx =>
  obtain⟨s,es,fx⟩:=h.fit x _ e ps us rfl _ mf n y o _ rfl;exact .inr ⟨_,s,rfl,es,h.f.at es,⟨fx,dx⟩⟩
def mkT(root:Str)(XY:ZX):T:=.tup [.str root,.dct XY]
def nf:T->Prop
 | .fn _=>False
 | .exn _ _=>False
 | _=>True
noncomputable def PZ:ZG:=["zz","a","ab","abc","form","row","text","must","none","b","map"]
structure G1(t:T):Prop where
 n:nf t
 s:∀x,t=.str x->x∈PZ
structure G2(t:T):Prop where
 n:nf t
 s:∀a b,t=.tup [a,b]->G1 a/\G1 b
structure rz(t:T):Prop where
 n:nf t
 s:∀a b,t=.tup [a,b]->nf a/\nf b/\(∀ps,a=.tup ps->∀p∈ps,G2 p)/\∀es,b=.tup es->∀e∈es,G1 e
noncomputable def Fi(ks:ZX):T->Bool
 | .str x=>(Zj ks (.inr x)).isSome
 | _=>false
noncomputable def x7:T->Bool
 | .tup [_,_]=>true
 | _=>false
noncomputable def u4:T->Bool
 | .tup ps=>ps.all x7
 | _=>false
noncomputable def Hw(ks Zr:ZX):T->Bool
 | .tup [a,b]=>Fi ks a && Fi Zr b
 | _=>false
noncomputable def papP(ks Zr:ZX):T->Bool
 | .tup ps=>ps.all (Hw ks Zr)
 | _=>false
noncomputable def papE(ks:ZX):T->Bool
 | .tup es=>es.all (Fi ks)
 | _=>false
noncomputable def Nn(ks Zr:ZX):T->Bool
 | .tup [a,b]=>papP ks Zr a && papE ks b
 | _=>false
theorem zg{ks Zr:ZX}{a:T}(h:papP ks Zr a=true):∃ps,a=.tup ps/\ps.all (Hw ks Zr)=true:=by
 cases a<;>first | exact⟨_,rfl,h⟩ | cases h
theorem u6{ks:ZX}{a:T}(h:papE ks a=true):∃es,a=.tup es/\es.all (Fi ks)=true:=by
 cases a<;>first | exact⟨_,rfl,h⟩ | cases h
theorem Ak{ks:ZX}{t:T}(h:Fi ks t=true):∃x,(Zj ks (.inr x)).isSome=true/\t=.str x:=by
 cases t with
 | str x=>exact⟨x,h,rfl⟩
 | _=>cases h
theorem Xs{t:T}(h:x7 t=true):∃a b,t=.tup [a,b]:=by
 unfold x7 at h
 split at h
 .exact⟨_,_,rfl⟩
 .cases h
theorem zk{ks Zr:ZX}{t:T}(h:Hw ks Zr t=true):x7 t=true:=by
 unfold Hw at h
 split at h
 .rfl
 .cases h
theorem prB_ex{ks Zr:ZX}{t:T}(h:Hw ks Zr t=true):∃q:Str×Str,((Zj ks (.inr q.1)).isSome=true/\(Zj Zr (.inr q.2)).isSome=true)/\t=pr2 q:=by
 obtain⟨a,b,rfl⟩:=Xs (zk h);obtain⟨h1,h2⟩:=Hq.mp (show (Fi ks a && Fi Zr b)=true from h);obtain⟨x,e,rfl⟩:=Ak h1;obtain⟨y,e',rfl⟩:=Ak h2;exact⟨(x,y),⟨e,e'⟩,rfl⟩
theorem I8{l:Type}{f:T->Bool}{g:l->T}{P:l->Prop}:∀{ts:ZZ},ts.all f=true->(∀t,f t=true->∃a,P a/\t=g a)->∃as:List l,ts=as.map g/\∀a∈as,P a
 | [],_,_=>⟨[],rfl,fun _ m=>nomatch m⟩
 | t::ts,h,q=>by
  obtain⟨h1,h2⟩:=Hq.mp (show (f t && ts.all f)=true from h);obtain⟨a,pa,rfl⟩:=q t h1;obtain⟨as,rfl,hp⟩:=I8 h2 q;exact⟨a::as,rfl,fun b m=>by rcases Ya.mp m with rfl | m;exact pa;exact hp b m⟩
theorem Qe{ks Zr:ZX}{t:T}(h:Nn ks Zr t=true):∃pp es,t=Zv false pp es/\(∀q∈pp,(Zj ks (.inr q.1)).isSome=true/\(Zj Zr (.inr q.2)).isSome=true)/\∀x∈es,(Zj ks (.inr x)).isSome=true:=by
 unfold Nn at h
 split at h
 .obtain⟨h1,h2⟩:=Hq.mp h;obtain⟨ps,rfl,h1⟩:=zg h1;obtain⟨es,rfl,h2⟩:=u6 h2;obtain⟨pp,rfl,hp⟩:=I8 h1 fun t ht=>prB_ex ht;obtain⟨es,rfl,he⟩:=I8 h2 fun t ht=>Ak ht;exact⟨pp,es,rfl,hp,he⟩
 .cases h
theorem u5{ks Zr:ZX}{a b:T}(h:Nn ks Zr (.tup [a,b])=true):u4 a=true:=by
 obtain⟨h1,h2⟩:=Hq.mp (show (papP ks Zr a && papE ks b)=true from h);obtain⟨ps,rfl,h1⟩:=zg h1;exact R5.mpr fun p m=>zk (R5.mp h1 p m)
structure GL(g:Str->Option T):Prop where
 ln:g "LONGEST_NAME" = some (.int 8)
 le:g "LETTERS" = some (.str "abcdefghijklmnopqrstuvwxyz")
noncomputable def inA(a:Str):T->Bool
 | .str x=>!(Builtin.Str.occurrences a x 0 a.length 1).isEmpty
 | _=>false
theorem zz_let:∀x∈PZ,(1<=x.length/\x.length<=8)/\(x.cps.toList.map fun c=>T.str ⟨#[c]⟩).all (inA "abcdefghijklmnopqrstuvwxyz")=true:=by decide +kernel
def Zqk(C:Cs):Prop:=∀{x:Str},x∈PZ->cN (C "is_name" [.f (.str x)]) fun z=>z=(.f (.bl true),[])
theorem Aa{w:W}(G:GL w.gl){x:Str}(h:x∈PZ):wF Ui w [.f (.str x)] fun z=>z=(.f (.bl true),[]):=by
 have sl:=sizeLine_eq;obtain⟨⟨l1,l2⟩,l3⟩:=zz_let x h;have hx:x.length<=sizeLine:=by omega
 refine Zu rfl fun D rt _=>?_;refine ij hx ?_;refine glP G.ln ?_;refine c2P ?_;refine Zq (b:=!(decide (1<=(x.length:Int)) && decide ((x.length:Int)<=8))) (fun h1=>?_) fun _=>?_
 .rw[Jo (show 1<=(x.length:Int) by omega),Jo (show (x.length:Int)<=8 by omega)]at h1;cases h1
 refine Zz9 hx ?_;refine Ze (fun t=>.bl (inA "abcdefghijklmnopqrstuvwxyz" t)) (fun p=>∃s0,p=[s0]) ⟨_,rfl⟩ (fun u mu p K hp hk=>?_) fun p hp=>?_
 .obtain⟨s0,rfl⟩:=hp;obtain⟨c,_,rfl⟩:=M4.mp mu;refine glP G.le ?_;exact hk _ ⟨_,rfl⟩
 obtain⟨s0,rfl⟩:=hp;refine Rg ?_;rw[l3];exact rt _ _ rfl
def PNon(C:Cs):Prop:=∀{t:T},nf t->(∀x,t≠.str x)->cN (C "is_name" [.f t]) fun z=>z=(.f (.bl false),[])
theorem jw{w:W}{t:T}(n:nf t)(h:∀x,t≠.str x):wF Ui w [.f t] fun z=>z=(.f (.bl false),[]):=by
 refine Zu rfl fun D rt _=>?_;cases t<;>first | exact absurd rfl (h _) | exact n.elim | exact rt _ _ rfl
def PFo(C:Cs):Prop:=∀{root:Str} {ks:ZX} {t:T},G1 t->cN (C "is_form" [.f (mkT root ks),.f t]) fun z=>z=(.f (.bl (Fi ks t)),[])
theorem Ao{w:W}(hN:Zqk w.C)(hO:PNon w.C){root:Str}{ks:ZX}{t:T}(h:G1 t):wF Mm w [.f (mkT root ks),.f t] fun z=>z=(.f (.bl (Fi ks t)),[]):=by
 refine Zu rfl fun D rt _=>?_;by_cases q:∃x,t=.str x
 .obtain⟨x,rfl⟩:=q;refine Zz (hN (h.s x rfl)) fun y ey=>?_;subst ey;exact rt _ _ rfl
 .refine Zz (hO h.n fun x e=>q ⟨x,e⟩) fun y ey=>?_;subst ey;have:Fi ks t=false:=by cases t<;>first | rfl | exact absurd ⟨_,rfl⟩ q
  rw[this]at rt;exact rt _ _ rfl
def PPrs(C:Cs):Prop:=∀{t:T},nf t->(∀ps,t=.tup ps->∀p∈ps,nf p)->cN (C "are_pairs" [.f t]) fun z=>z=(.f (.bl (u4 t)),[])
theorem prs_ok{w:W}{t:T}(n:nf t)(h:∀ps,t=.tup ps->∀p∈ps,nf p):wF Vd w [.f t] fun z=>z=(.f (.bl (u4 t)),[]):=by
 refine Zu rfl fun D rt _=>?_;cases t with
 | fn=>exact n.elim
 | exn=>exact n.elim
 | tup ps =>
  refine Ze (fun p=>.bl (x7 p)) (fun p=>∃s0,p=[s0]) ⟨_,rfl⟩ (fun u mu p K hp hk=>?_) fun p hp=>?_
  .obtain⟨s0,rfl⟩:=hp;have nu:=h ps rfl u mu;cases u with
   | fn=>exact nu.elim
   | exn=>exact nu.elim
   | tup ab =>
    rcases ab with _ | ⟨a,_ | ⟨b,_ | ⟨c,r⟩⟩⟩
    .exact hk _ ⟨_,rfl⟩
    .exact hk _ ⟨_,rfl⟩
    .exact hk _ ⟨_,rfl⟩
    .have e:decide (((r.length+1+1+1:Nat):Int)=2)=false:=Mr (by omega);have hk:=hk [.f (.tup (a::b::c::r))] ⟨_,rfl⟩;rw[show x7 (.tup (a::b::c::r))=decide (((r.length+1+1+1:Nat):Int)=2) from e.symm]at hk;exact hk
   | _=>exact hk _ ⟨_,rfl⟩
  obtain⟨s0,rfl⟩:=hp;refine Rg ?_;exact rt _ _ rfl
 | _=>exact rt _ _ rfl
def Zz8(f:Str)(C:Cs):Prop:=∀{root root':Str} {ks Zr:ZX} {t:T},rz t->cN (C f [.f (mkT root ks),.f (mkT root' Zr),.f t]) fun z=>z=(.f (.bl (Nn ks Zr t)),[])
set_option maxHeartbeats 2000000 in
theorem Em{w:W}(hP:PPrs w.C)(hF:PFo w.C){root root':Str}{ks Zr:ZX}{t:T}(h:rz t):wF G9 w [.f (mkT root ks),.f (mkT root' Zr),.f t] fun z=>z=(.f (.bl (Nn ks Zr t)),[]):=by
 refine Zu rfl fun D rt _=>?_;cases t with
 | fn=>exact h.n.elim
 | exn=>exact h.n.elim
 | tup ts =>
  rcases ts with _ | ⟨a,_ | ⟨b,_ | ⟨c,r⟩⟩⟩
  .exact rt _ _ rfl
  .exact rt _ _ rfl
  .obtain⟨na,nb,ga,gb⟩:=h.s a b rfl;have no:Nn ks Zr (.tup [a,b])=false->D.rt (.f (.bl false)) [.f (mkT root ks),.f (mkT root' Zr),.f (.tup [a,b])]:=fun e=>rt _ _ (by rw[e];rfl);refine Zz (hP na fun ps e p m=>(ga ps e p m).n) fun y ey=>?_;subst ey;refine Zq (b:=!u4 a) (fun z=>no ?_) fun z=>?_
   .cases q:Nn ks Zr (.tup [a,b]) with
    | false=>rfl
    | true=>rw[u5 q]at z;cases z
   have hps:=Yp z;cases b with
   | fn=>exact nb.elim
   | exn=>exact nb.elim
   | tup es =>
    cases a with
    | tup ps =>
     refine Ze (fun p=>.bl (Hw ks Zr p)) (fun p=>∃s0 s1,p=[s0,s1,.f (mkT root ks),.f (mkT root' Zr)]) ⟨_,_,rfl⟩ (fun u mu p K hp hk=>?_) fun p hp=>?_
     .obtain⟨s0,s1,rfl⟩:=hp;obtain⟨x,y,rfl⟩:=Xs (R5.mp hps u mu);obtain⟨gx,gy⟩:=(ga ps rfl _ mu).s _ _ rfl;have hk:=hk [.f x,.f y,.f (mkT root ks),.f (mkT root' Zr)] ⟨_,_,rfl⟩;refine Zz (hF gx) fun z ez=>?_;subst ez;refine Zq (b:=Fi ks x) (fun q=>?_) fun q=>?_
      .rw[show Hw ks Zr (.tup [x,y])=Fi Zr y by show (Fi ks x && Fi Zr y)=_;rw[q];rfl]at hk;refine Zz (hF gy) fun z ez=>?_;subst ez;exact hk
      .rw[show Hw ks Zr (.tup [x,y])=false by show (Fi ks x && Fi Zr y)=_;rw[q];rfl]at hk;exact hk
     obtain⟨s0,s1,rfl⟩:=hp;refine Rg ?_;have ep:Nn ks Zr (.tup [.tup ps,.tup es])=(ps.all (Hw ks Zr) && es.all (Fi ks)):=rfl;refine Zq (b:=!ps.all (Hw ks Zr)) (fun q=>no (by rw[ep,Bv q];rfl)) fun q=>?_;refine Ze (fun p=>.bl (Fi ks p)) (fun p=>∃s0,p=[s0,.f (mkT root ks)]) ⟨_,rfl⟩ (fun u mu p K hp hk=>?_) fun p hp=>?_
     .obtain⟨s0,rfl⟩:=hp;refine Zz (hF (gb es rfl u mu)) fun z ez=>?_;subst ez;exact hk _ ⟨_,rfl⟩
     obtain⟨s0,rfl⟩:=hp;refine Rg ?_;exact rt _ _ (by rw[ep,Yp q];rfl)
    | _=>cases hps
   | _=>exact no (Bool.and_false _)
  .exact rt _ _ rfl
 | _=>exact rt _ _ rfl
theorem O1(b:Bool)(f:T->Bool):∀xs:ZZ,Ja (.bl b) (xs.map fun x=>.bl (f x))=some (xs.any fun x=>decide (f x=b))
 | []=>rfl
 | x::xs=>by
  show (Hy (.bl (f x)) (.bl b)).bind _=_;rw[show Hy (.bl (f x)) (.bl b)=some (decide (f x=b)) from rfl];show (Ja (.bl b) (xs.map fun x=>.bl (f x))).map _=_;rw[O1 b f xs];rfl
theorem inBP{b:Bool}{f:T->Bool}{xs:ZZ}{Q:Sl->Prop}(h:Q (.f (.bl (xs.any fun x=>decide (f x=b))))):on ((Dn .isin (.bl b) (.lst (xs.map fun x=>.bl (f x)))).map fun r=>Sl.f (.bl r)) Q:=Z1 (congrArg (Option.map fun r=>Sl.f (.bl r)) (O1 b f xs)) h
theorem bz{b:Bool}{f:T->Bool}{xs:ZZ}{Q:Sl->Prop}(h:Q (.f (.bl (!(xs.any fun x=>decide (f x=b)))))):on ((Dn .notin (.bl b) (.lst (xs.map fun x=>.bl (f x)))).map fun r=>Sl.f (.bl r)) Q:=Z1 (congrArg (fun o=>(Option.map not o).map fun r=>Sl.f (.bl r)) (O1 b f xs)) h
theorem xp{f:T->Bool}:∀{xs:ZZ},(!(xs.any fun x=>decide (f x=false)))=xs.all f
 | []=>rfl
 | x::xs=>by
  rw[List.any_cons,List.all_cons, <-xp (xs:=xs),Bool.not_or];cases f x<;>rfl
set_option maxHeartbeats 4000000 in
theorem C5{w:W}{root root':Str}{ks Zr:ZX}{t:T}(h:rz t):wF Vi w [.f (mkT root ks),.f (mkT root' Zr),.f t] fun z=>z=(.f (.bl (Nn ks Zr t)),[]):=by
 refine Zu rfl fun D rt _=>?_;cases t with
 | fn=>exact h.n.elim
 | exn=>exact h.n.elim
 | tup ts =>
  rcases ts with _ | ⟨a,_ | ⟨b,_ | ⟨c,r⟩⟩⟩
  .exact rt _ _ rfl
  .exact rt _ _ rfl
  .obtain⟨na,nb,ga,gb⟩:=h.s a b rfl;have no:Nn ks Zr (.tup [a,b])=false->∀s,D.rt (.f (.bl false)) [.f (mkT root ks),.f (mkT root' Zr),.f (.tup [a,b]),s]:=fun e s=>rt _ _ (by rw[e];rfl);cases a with
   | fn=>exact na.elim
   | exn=>exact na.elim
   | tup ps =>
    cases b with
    | fn=>exact nb.elim
    | exn=>exact nb.elim
    | tup es =>
     have ep:Nn ks Zr (.tup [.tup ps,.tup es])=(ps.all (Hw ks Zr) && es.all (Fi ks)):=rfl;refine Dh (fun rest p=>∃s,p=[.f (mkT root ks),.f (mkT root' Zr),.f (.tup [.tup ps,.tup es]),s]/\(∀x∈rest,x∈ps)/\ps.all (Hw ks Zr)=rest.all (Hw ks Zr)) ⟨_,rfl,fun x m=>m,rfl⟩ (fun u rest p D' hi nx Tq=>?_) fun p hi=>?_
     .obtain⟨s,rfl,hr,he⟩:=hi;have no':Hw ks Zr u=false->D'.rt (.f (.bl false)) [.f (mkT root ks),.f (mkT root' Zr),.f (.tup [.tup ps,.tup es]),.f u]:=fun e=>Tq _ _ (no (by rw[ep,he,List.all_cons,e];rfl) _);have yes:Hw ks Zr u=true->D'.nx [.f (mkT root ks),.f (mkT root' Zr),.f (.tup [.tup ps,.tup es]),.f u]:=fun e=>nx _ ⟨_,rfl,fun x m=>hr x (Y5 _ m),by rw[he,List.all_cons,e];rfl⟩;have gu:=ga ps rfl u (hr u Yb);cases u with
      | fn=>exact gu.n.elim
      | exn=>exact gu.n.elim
      | tup xs =>
       rcases xs with _ | ⟨x,_ | ⟨y,_ | ⟨c,r⟩⟩⟩
       .exact no' rfl
       .exact no' rfl
       .obtain⟨gx,gy⟩:=gu.s x y rfl;cases x with
        | fn=>exact gx.n.elim
        | exn=>exact gx.n.elim
        | str x =>
         cases y with
         | fn=>exact gy.n.elim
         | exn=>exact gy.n.elim
         | str y =>
          have eu:Hw ks Zr (.tup [.str x,.str y])=((Zj ks (.inr x)).isSome && (Zj Zr (.inr y)).isSome):=rfl;refine Zq (b:=!(Zj ks (.inr x)).isSome) (fun q=>no' (by rw[eu,Bv q];rfl)) fun q=>?_;refine Zq (b:=!(Zj Zr (.inr y)).isSome) (fun q2=>no' (by rw[eu,Bv q2,Bool.and_false])) fun q2=>?_;exact yes (by rw[eu,Yp q,Yp q2];rfl)
         | _=>exact no' (Bool.and_false _)
        | _=>cases y<;>first | exact gy.n.elim | exact no' rfl
       .exact no' rfl
      | _=>exact no' rfl
     .obtain⟨s,rfl,_,he⟩:=hi;refine Ze (fun p=>.bl (Fi ks p)) (fun p=>∃s0,p=[s0,.f (mkT root ks)]) ⟨_,rfl⟩ (fun u mu p K hp hk=>?_) fun p hp=>?_
      .obtain⟨s0,rfl⟩:=hp;have gu:=gb es rfl u mu;cases u<;>first | exact gu.n.elim | exact hk _ ⟨_,rfl⟩
      obtain⟨s0,rfl⟩:=hp;refine bz ?_;rw[xp];exact rt _ _ (by rw[ep,he];rfl)
    | _=>exact no (Bool.and_false _) _
   | _=>cases b<;>first | exact nb.elim | exact no rfl _
  .exact rt _ _ rfl
 | _=>exact rt _ _ rfl
noncomputable def O7(es:ZG):T->Bool
 | .tup (.str s::.tup ps::_)=>if s = "record" then ps.any fun f=>Dr es (S5 f) && dN f else if s = "choice" then ps.all fun f=>Dr es (S5 f) else false
 | _=>false
def PEmp(C:Cs):Prop:=∀{ns:ZG} {root x:Str} {XY:ZX} {t:T} {lx:Bool} {pp:List (Str×Str)} {es:ZG},Zj XY (.inr x)=some t->Shp ns t->cN (C "is_right_empty" [.f (mkT root XY),.f (Zv lx pp es),.f (.str x)]) fun z=>z=(.f (.bl (O7 es t)),[])
set_option maxHeartbeats 2000000 in
theorem cj{w:W}(hF:Ll w.C)(hL:K9 w.C){ns:ZG}{root x:Str}{XY:ZX}{t:T}{lx:Bool}{pp:List (Str×Str)}{es:ZG}(e:Zj XY (.inr x)=some t)(h:Shp ns t):wF Vw w [.f (mkT root XY),.f (Zv lx pp es),.f (.str x)] fun z=>z=(.f (.bl (O7 es t)),[]):=by
 refine Zu rfl fun D rt _=>?_;refine Zz (hF e) fun y ey=>?_;subst ey;cases h with
 | @record ps ss hp hs =>
  refine Ze (fun f=>.bl (Dr es (S5 f) && dN f)) (fun p=>∃s0,p=[s0,.f (Zv lx pp es)]) ⟨_,rfl⟩ (fun f mf p K hi hk=>?_) fun p hi=>?_
  .obtain⟨s0,rfl⟩:=hi;obtain⟨n,x,o,ds,rfl,_⟩:=(hp.p f mf).asR;have hk:=hk [.f (.tup [.int n,.str x,.str o,.tup ds]),.f (Zv lx pp es)] ⟨_,rfl⟩
   replace hk:K (some (.bl (Dr es o && ds.isEmpty))) _:=hk
   refine D5 ?_;refine Zq (b:=es.any fun y=>decide (y=o)) (fun z=>?_) fun z=>?_
   .rw[show Dr es o=true from z]at hk;refine Zz hL fun y ey=>?_;subst ey
    replace hk:=hk
    have:(!(!ds.isEmpty))=(true && ds.isEmpty):=by cases ds.isEmpty<;>rfl
    rw[<-this]at hk;exact hk
   .rw[show Dr es o=false from z]at hk;exact hk
  obtain⟨s0,rfl⟩:=hi;refine anyP ?_;exact rt _ _ rfl
 | @choice ps ss b hp hs =>
  refine Ze (fun f=>.bl (Dr es (S5 f))) (fun p=>∃s0,p=[s0,.f (Zv lx pp es)]) ⟨_,rfl⟩ (fun f mf p K hi hk=>?_) fun p hi=>?_
  .obtain⟨s0,rfl⟩:=hi;obtain⟨n,x,o,rfl,_⟩:=(hp.p f mf).cho;refine D5 ?_;exact hk _ ⟨_,rfl⟩
  obtain⟨s0,rfl⟩:=hi;refine Rg ?_;exact rt _ _ rfl
 | _=>exact rt _ _ rfl
theorem Zx9{f:T->Bool}:∀{xs:ZZ},(xs.any fun x=>decide (f x=true))=xs.any f
 | []=>rfl
 | x::xs=>by rw[List.any_cons,List.any_cons,Zx9 (xs:=xs)];cases f x<;>rfl
def n6(C:Cs):Prop:=∀{ns:ZG} {t:T} {l:Bool} {es:ZG},Shp ns t->cN (C "_law_is_void" [.f t,.f (sq l (es.map .str))]) fun z=>z=(.f (.bl (O7 es t)),[])
set_option maxHeartbeats 2000000 in
theorem rj{w:W}{ns:ZG}{t:T}{l:Bool}{es:ZG}(h:Shp ns t):wF Uv w [.f t,.f (sq l (es.map .str))] fun z=>z=(.f (.bl (O7 es t)),[]):=by
 refine Zu rfl fun D rt _=>?_;cases h with
 | @record ps ss hp hs =>
  refine Ze (fun f=>.bl (Dr es (S5 f) && dN f)) (fun p=>∃s0,p=[s0,.f (sq l (es.map .str))]) ⟨_,rfl⟩ (fun f mf p K hi hk=>?_) fun p hi=>?_
  .obtain⟨s0,rfl⟩:=hi;obtain⟨n,x,o,ds,rfl,_⟩:=(hp.p f mf).asR;have hk:=hk [.f (.tup [.int n,.str x,.str o,.tup ds]),.f (sq l (es.map .str))] ⟨_,rfl⟩
   replace hk:K (some (.bl (Dr es o && ds.isEmpty))) _:=hk
   refine Zq (b:=ds.isEmpty) (fun z=>?_) fun z=>?_
   .refine D5 ?_;rw[z,Bool.and_true]at hk;exact hk
   .rw[z,Bool.and_false]at hk;exact hk
  obtain⟨s0,rfl⟩:=hi;refine inBP ?_;rw[Zx9];exact rt _ _ rfl
 | @choice ps ss b hp hs =>
  refine Ze (fun f=>.bl (Dr es (S5 f))) (fun p=>∃s0,p=[s0,.f (sq l (es.map .str))]) ⟨_,rfl⟩ (fun f mf p K hi hk=>?_) fun p hi=>?_
  .obtain⟨s0,rfl⟩:=hi;obtain⟨n,x,o,rfl,_⟩:=(hp.p f mf).cho;refine D5 ?_;exact hk _ ⟨_,rfl⟩
  obtain⟨s0,rfl⟩:=hi;refine bz ?_;rw[xp];exact rt _ _ rfl
 | _=>exact rt _ _ rfl
structure LR(root root':Str)(ks Zr:ZX)(t:T):Prop where
 p:Nn ks Zr t=true
 h:∀pp es,t=Zv false pp es->hB pp es root root'=true/\(∀x∈es,∀s,Zj ks (.inr x)=some s->O7 es s=true)/\∀q∈pp,∀s s',Zj ks (.inr q.1)=some s->Zj Zr (.inr q.2)=some s'->PR pp es ks Zr s s'
theorem Gr{pp pp':List (Str×Str)}{es R0:ZG}(h:Zv false pp es=Zv false pp' R0):pp=pp'/\es=R0:=by
 injection h with h
 injection h with h1 h
 injection h with h2 _
 injection h1 with h1
 injection h2 with h2
 refine⟨?_, ?_⟩
 .exact(List.map_inj_right fun a b e=>by injection e with e;injection e with e1 e;injection e with e2 _;injection e1 with e1;injection e2 with e2;exact Prod.ext e1 e2).mp h1
 .exact(List.map_inj_right fun a b e=>by injection e).mp h2
structure Mt(ns:ZG)(ks:ZX):Prop where
 m:Mk ns ks
 s:∀{x t},Zj ks (.inr x)=some t->Shp ns t
def PLet(f:Str)(C:Cs):Prop:=∀{ns Y0:ZG} {root root':Str} {ks Zr:ZX} {t:T},Mt ns ks->Mt Y0 Zr->rz t->cN (C f [.f (mkT root ks),.f (mkT root' Zr),.f t]) (Ld (LR root root' ks Zr t))
theorem Zxn{root root':Str}{ks Zr:ZX}{t:T}(h:Nn ks Zr t=false):¬ LR root root' ks Zr t:=fun q=>by rw[q.p]at h;cases h
set_option maxHeartbeats 4000000 in
theorem iz{w:W}(hP:Zz8 "is_paper" w.C)(hH:Je "holds" w.C)(hE:PEmp w.C)(hI:PIRP w.C){ns Y0:ZG}{root root':Str}{ks Zr:ZX}{t:T}(m:Mt ns ks)(m':Mt Y0 Zr)(g:rz t):wF Jv w [.f (mkT root ks),.f (mkT root' Zr),.f t] (Ld (LR root root' ks Zr t)):=by
 refine Zu rfl fun D rt _=>?_;refine Zz (hP g) fun y ey=>?_;subst ey;refine Zq (b:=!Nn ks Zr t) (fun z=>rt _ _ ⟨false,⟨(fun q=>nomatch q),fun q=>absurd q (Zxn (Bv z))⟩,rfl⟩) fun z=>?_;have hb:=Yp z;obtain⟨pp,es,rfl,jf,hes⟩:=Qe hb;have no:∀p,¬ LR root root' ks Zr (Zv false pp es)->D.rt (.f (.bl false)) p->D.rt (.f (.bl false)) p:=fun _ _ h=>h;refine Zz hH fun y ey=>?_;subst ey;refine Zq (b:=!hB pp es root root') (fun z=>rt _ _ ⟨false,⟨(fun q=>nomatch q),fun q=>?_⟩,rfl⟩) fun z1=>?_
 .have:=(q.h _ _ rfl).1;rw[this]at z;cases z
 refine Ze (fun x=>.bl (match x with | .str x=>O7 es ((Zj ks (.inr x)).getD .non) | _=>false)) (fun p=>∃s0,p=[s0,.f (mkT root ks),.f (Zv false pp es)]) ⟨_,rfl⟩ (fun u mu p K hi hk=>?_) fun p hi=>?_
 .obtain⟨s0,rfl⟩:=hi;obtain⟨x,mx,rfl⟩:=M4.mp mu;obtain⟨s,e⟩:=Option.isSome_iff_exists.mp (hes x mx);have hk:=hk [.f (.str x),.f (mkT root ks),.f (Zv false pp es)] ⟨_,rfl⟩
  replace hk:K (some (.bl (O7 es ((Zj ks (.inr x)).getD .non)))) _:=hk
  rw[e]at hk;refine Zz (hE e (m.s e)) fun y ey=>?_;subst ey;exact hk
 obtain⟨s0,rfl⟩:=hi;refine Rg ?_
 have ev:((es.map T.str).all fun x=>match x with | .str x=>O7 es ((Zj ks (.inr x)).getD .non) | _=>false)=true↔∀x∈es,∀s,Zj ks (.inr x)=some s->O7 es s=true:=by
  rw[List.all_map,R5];refine forall_congr' fun x=>forall_congr' fun mx=>?_;obtain⟨s,e⟩:=Option.isSome_iff_exists.mp (hes x mx);show O7 es ((Zj ks (.inr x)).getD .non)=true↔_;rw[e];exact⟨fun h s' e'=>by cases e';exact h,fun h=>h s rfl⟩
 refine Zq (b:=!((es.map T.str).all fun x=>match x with | .str x=>O7 es ((Zj ks (.inr x)).getD .non) | _=>false)) (fun z=>rt _ _ ⟨false,⟨(fun q=>nomatch q),fun q=>?_⟩,rfl⟩) fun z2=>?_
 .rw[ev.mpr (q.h _ _ rfl).2.1]at z;cases z
 let P:T->Prop:=fun u=>∀q,u=pr2 q->∀s s',Zj ks (.inr q.1)=some s->Zj Zr (.inr q.2)=some s'->PR pp es ks Zr s s'
 haveI dP:∀u,Decidable (P u):=fun _=>Classical.propDecidable _
 refine Ze (fun u=>.bl (decide (P u))) (fun p=>∃s0,p=[s0,.f (mkT root ks),.f (mkT root' Zr),.f (Zv false pp es)]) ⟨_,rfl⟩ (fun u mu p K hi hk=>?_) fun p hi=>?_
 .obtain⟨s0,rfl⟩:=hi;obtain⟨q,mq,rfl⟩:=M4.mp mu;obtain⟨i1,i2⟩:=jf q mq;obtain⟨s,e⟩:=Option.isSome_iff_exists.mp i1;obtain⟨s',e'⟩:=Option.isSome_iff_exists.mp i2;have hk:=hk [.f (pr2 q),.f (mkT root ks),.f (mkT root' Zr),.f (Zv false pp es)] ⟨_,rfl⟩;refine Zz (hI (lx:=false) (pp:=pp) (es:=es) m.m m'.m e e' (m.s e) (m'.s e')) fun y hy=>?_;obtain⟨b,hb,rfl⟩:=hy
  have:decide (P (pr2 q))=b:=by
   have iff:b=true↔P (pr2 q):=hb.trans ⟨fun h q' eq s1 Qp e1 Fx=>by
    injection eq with eq;injection eq with q1 eq;injection eq with q2 _;injection q1 with q1;injection q2 with q2
    rw[<-q1,e]at e1;rw[<-q2,e']at Fx;cases e1;cases Fx;exact h,fun h=>h q rfl s s' e e'⟩
   cases b with
   | true=>exact Jo (iff.mp rfl)
   | false=>exact Mr fun h=>Qv (iff.mpr h)
  rw[this]at hk;exact hk
 obtain⟨s0,rfl⟩:=hi;refine Rg ?_;refine rt _ _ ⟨_,⟨fun h=>⟨hb,fun pp' R0 e=>?_⟩,fun h=>?_⟩,rfl⟩
 .obtain⟨rfl,rfl⟩:=Gr e;refine⟨Yp z1,ev.mp (Yp z2),fun q mq=>?_⟩;exact Dk (R5.mp h _ (List.mem_map_of_mem mq)) q rfl
 .refine R5.mpr fun u mu=>Jo ?_;intro q eq;obtain⟨q',mq,rfl⟩:=M4.mp mu
  injection eq with eq;injection eq with q1 eq;injection eq with q2 _;injection q1 with q1;injection q2 with q2
  have:q'=q:=Prod.ext q1 q2;subst this;exact(h.h _ _ rfl).2.2 q' mq
noncomputable def Ba(s d:T):Bool:=match s with
 | .tup [.str _]=>(match wn d with
  | some i=>decide (0<=i) && decide (i<=1)
  | none=>false)
 | .tup [.str _,.int n]=>(match d with
  | .str x=>decide ((x.length:Int)<=n)
  | _=>false)
 | .tup [.str _,.int a,.int b]=>(match wn d with
  | some i=>decide (a<=i) && decide (i<=b)
  | none=>false)
 | .tup [.str _,.str _,.int _]=>(match d with
  | .tup []=>true
  | _=>false)
 | _=>false
theorem ck{s d:T}{a b i:Int}(h:Bn s a b)(e:wn d=some i):Ba s d=(decide (a<=i) && decide (i<=b)):=by
 cases h with
 | whole=>show (match wn d with | some i=>_ | none=>_)=_;rw[e]
 | truth=>show (match wn d with | some i=>_ | none=>_)=_;rw[e]
def K6(s s':T):Prop:=∃x:Kx,(∀k r,s=.tup (.str k::r)->Yq k=some (kz x))/\∀k r,s'=.tup (.str k::r)->Yq k=some (kz x)
theorem yh{k k' z z':Str}{r r':ZZ}(h:K6 (.tup (.str k::r)) (.tup (.str k'::r')))(e:Yq k=some z)(e':Yq k'=some z'):z=z':=by
 obtain⟨x,h1,h2⟩:=h;have a:=h1 k r rfl;have b:=h2 k' r' rfl;rw[e]at a;rw[e']at b;exact(Nf a).trans (Nf b).symm
theorem Z4{k k' z z':Str}{r r':ZZ}{P:Prop}(h:K6 (.tup (.str k::r)) (.tup (.str k'::r')))(e:Yq k=some z)(e':Yq k'=some z')(ne:z≠z'):P:=absurd (yh h e e') ne
def PVa(C:Cs):Prop:=∀{ns:ZG} {s s' d:T},Shp ns s->Y8 s' d->Dx d->K6 s s'->cN (C "value_as" [.f s,.f d]) fun x=>∃t,x=(.f t,[])/\ie t .non=some (!Ba s d)
set_option maxHeartbeats 2000000 in
theorem O8{w:W}(hI:PIS w.C)(hB:PBo w.C){ns:ZG}{s s' d:T}(h:Shp ns s)(f:Y8 s' d)(dx:Dx d)(sm:K6 s s'):wF Gi w [.f s,.f d] fun x=>∃t,x=(.f t,[])/\ie t .non=some (!Ba s d):=by
 refine Zu rfl fun D rt _=>?_
 have num:∀{k:Str} {r:ZZ} {a b:Int},s=.tup (.str k::r)->Yq k=some "whole" -> Bn s a b->wS w (Yv [.f s,.f d]) W8 [.f s,.f d,.no,.no,.no] D:=fun {k r a b} es ek hb=>by
  have fh:∃i,wn d=some i/\(d=.int i\/∃c:Bool,d=.bl c/\i=if c=true then 1 else 0):=by
   rcases A5 f with ⟨_,_,i,_,h1,h2⟩ | ⟨k',z,r',e',h1,h2,_⟩
   .exact⟨i,h1,h2⟩
   .rw[es,e']at sm;exact absurd (yh sm ek h1).symm h2
  obtain⟨i,ei,hd⟩:=fh;have cb:=ck hb ei;have c1:cN (w.C "item_sort" [.f s]) fun y=>y=(.f (.str "whole"),[]):=by rw[es];exact hI ek
  refine Zz c1 fun y ey=>?_;subst ey;refine Zz (hB hb) fun y ey=>?_;subst ey;refine i8 hd ?_;refine c2P ?_;refine Zq (b:=!(decide (a<=i) && decide (i<=b))) (fun z=>?_) fun z=>?_
  .exact rt _ _ ⟨.non,rfl,by rw[cb,z];rfl⟩
  .rw[<-cb]at z;cases hb with
   | whole=>exact rt _ _ ⟨.int i,rfl,by rw[z];rfl⟩
   | truth=>exact rt _ _ ⟨.bl (decide (i=1)),rfl,by rw[z];rfl⟩
 cases h with
 | whole ha hb le=>exact num rfl Zm .whole
 | truth=>exact num rfl Zd .truth
 | @text n h0 h1=>cases f with
  | whole=>exact Z4 sm Zb Zm (by decide +kernel)
  | truth=>exact Z4 sm Zb Zd (by decide +kernel)
  | row=>exact Z4 sm Zb Zs (by decide +kernel)
  | map=>exact Z4 sm Zb Zh (by decide +kernel)
  | @text m x g =>
   have sl:=sizeLine_eq;have hl:x.length<=sizeLine:=by cases dx with | str h=>have:=h.1;omega
   refine Zz (hI Zb) fun y ey=>?_;subst ey;refine ij hl ?_;refine Zq (b:=decide (n<((x.length:Nat):Int))) (fun z=>?_) fun z=>?_
   .exact rt _ _ ⟨.non,rfl,by show some true=some (!decide ((x.length:Int)<=n));rw[Mr (fun q=>by have:=Dk z;omega)];rfl⟩
   .exact rt _ _ ⟨.str x,rfl,by show some false=some (!decide ((x.length:Int)<=n));rw[Jo (by have:=of_decide_eq_false z;omega)];rfl⟩
 | row ho h0 h1=>cases f with
  | whole=>exact Z4 sm Zs Zm (by decide +kernel)
  | truth=>exact Z4 sm Zs Zd (by decide +kernel)
  | text=>exact Z4 sm Zs Zb (by decide +kernel)
  | map=>exact Z4 sm Zs Zh (by decide +kernel)
  | row =>
   refine Zz (hI Zs) fun y ey=>?_;subst ey;exact rt _ _ ⟨.tup [],rfl,rfl⟩
 | map ho h0 h1=>cases f with
  | whole=>exact Z4 sm Zh Zm (by decide +kernel)
  | truth=>exact Z4 sm Zh Zd (by decide +kernel)
  | text=>exact Z4 sm Zh Zb (by decide +kernel)
  | row=>exact Z4 sm Zh Zs (by decide +kernel)
  | map =>
   refine Zz (hI Zh) fun y ey=>?_;subst ey;exact rt _ _ ⟨.tup [],rfl,rfl⟩
 | record hp hs=>cases f with
  | whole=>exact Z4 sm Yi Zm (by decide +kernel)
  | truth=>exact Z4 sm Yi Zd (by decide +kernel)
  | text=>exact Z4 sm Yi Zb (by decide +kernel)
  | row=>exact Z4 sm Yi Zs (by decide +kernel)
  | map=>exact Z4 sm Yi Zh (by decide +kernel)
 | choice hp hs=>cases f with
  | whole=>exact Z4 sm Ye Zm (by decide +kernel)
  | truth=>exact Z4 sm Ye Zd (by decide +kernel)
  | text=>exact Z4 sm Ye Zb (by decide +kernel)
  | row=>exact Z4 sm Ye Zs (by decide +kernel)
  | map=>exact Z4 sm Ye Zh (by decide +kernel)
def PCom(C:Cs):Prop:=∀{ns:ZG} {s d:T},Shp ns s->Dx d->cN (C "_law_comes" [.f s,.f d]) fun x=>x=(.f (.bl (Ba s d)),[])
theorem dx_wn{d:T}(h:Dx d):(∃i,wn d=some i/\(d=.int i\/∃c:Bool,d=.bl c/\i=if c=true then 1 else 0))\/(wn d=none/\Ap .int d=some false):=by
 cases h with
 | int _=>exact .inl ⟨_,rfl,.inl rfl⟩
 | bl=>exact .inl ⟨_,rfl,.inr ⟨_,rfl,rfl⟩⟩
 | str _=>exact .inr ⟨rfl,rfl⟩
 | nil=>exact .inr ⟨rfl,rfl⟩
theorem com_no{s d:T}{a b:Int}(h:Bn s a b)(e:wn d=none):Ba s d=false:=by
 cases h with
 | whole=>show (match wn d with | some i=>_ | none=>_)=_;rw[e]
 | truth=>show (match wn d with | some i=>_ | none=>_)=_;rw[e]
set_option maxHeartbeats 2000000 in
theorem cy{w:W}(hB:lq w.C){ns:ZG}{s d:T}(h:Shp ns s)(dx:Dx d):wF Jr w [.f s,.f d] fun x=>x=(.f (.bl (Ba s d)),[]):=by
 refine Zu rfl fun D rt _=>?_
 have num:∀{a b:Int},Bn s a b->wS w (Yv [.f s,.f d]) Cd [.f s,.f d,.no,.no] D:=fun {a b} hb=>by
  refine Zz (hB.y hb) fun y ey=>?_;subst ey;refine Zz (hB.y hb) fun y ey=>?_;subst ey;show wS w _ _ [.f s,.f d,.f (.int a),.f (.int b)] _;rcases dx_wn dx with ⟨i,ei,hd⟩ | ⟨en,hi⟩
  .have ii:Ap .int d=some true:=by rcases hd with rfl | ⟨c,rfl,_⟩<;>rfl
   refine Z1 (a:=.f (.bl true)) (by show (Ap .int d).map _=_;rw[ii];rfl) ?_;refine i8 hd ?_;refine c2P ?_;exact rt _ _ (by rw[ck hb ei];rfl)
  .refine Z1 (a:=.f (.bl false)) (by show (Ap .int d).map _=_;rw[hi];rfl) ?_;exact rt _ _ (by rw[com_no hb en];rfl)
 cases h with
 | whole ha hb le=>exact num .whole
 | truth=>exact num .truth
 | @text n h0 h1 =>
  refine Zz (hB.n Zb (by decide +kernel)) fun y ey=>?_;subst ey;cases dx with
  | @str x hx =>
   have sl:=sizeLine_eq;have hl:x.length<=sizeLine:=by have:=hx.1;omega
   refine ij hl ?_;exact rt _ _ (by rw[show (!decide (n<((x.length:Nat):Int)))=decide ((x.length:Int)<=n) by rw[<-decide_not];exact decide_eq_decide.mpr Int.not_lt];rfl)
  | int _=>exact rt _ _ rfl
  | bl=>exact rt _ _ rfl
  | nil=>exact rt _ _ rfl
 | row ho h0 h1 =>
  refine Zz (hB.n Zs (by decide +kernel)) fun y ey=>?_;subst ey;cases dx<;>exact rt _ _ rfl
 | map ho h0 h1 =>
  refine Zz (hB.n Zh (by decide +kernel)) fun y ey=>?_;subst ey;cases dx<;>exact rt _ _ rfl
 | record hp hs =>
  refine Zz (hB.n Yi (by decide +kernel)) fun y ey=>?_;subst ey;exact rt _ _ rfl
 | choice hp hs =>
  refine Zz (hB.n Ye (by decide +kernel)) fun y ey=>?_;subst ey;exact rt _ _ rfl
noncomputable def dsN:T->ZZ
 | .tup [_,_,_,.tup ds]=>ds
 | _=>[]
noncomputable def dj(es:ZG)(XY:ZX)(f g:T):Bool:=!(dsN f).isEmpty || ((dsN g).isEmpty || (Dr es (S5 f) || !Ba ((Zj XY (.inr (S5 f))).getD .non) ((dsN g).headD .non)))
def KF(es:ZG)(XY:ZX)(ps Zi:ZZ):Prop:=∀f∈ps,∀g∈Zi,Z7 f=Z7 g->dj es XY f g=true
def KPr(es:ZG)(XY:ZX)(s s':T):Prop:=∀ps us Zi us',s=Y6 ps us->s'=Y6 Zi us'->KF es XY ps Zi
def PPk(C:Cs):Prop:=∀{ns Y0:ZG} {root root' a r:Str} {XY kvs':ZX} {t t':T} {lx:Bool} {pp:List (Str×Str)} {es:ZG},Mk ns XY->Mk Y0 kvs'->Zj XY (.inr a)=some t->Zj kvs' (.inr r)=some t'->Shp ns t->Shp Y0 t'->cN (C "_law_pair_kept" [.f (.tup [.str root,.dct XY]),.f (.tup [.str root',.dct kvs']),.f (Zv lx pp es),.f (.str a),.f (.str r)]) (Ld (KPr es XY t t'))
set_option maxHeartbeats 4000000 in
theorem Q0{w:W}(hC:PCom w.C){ns Y0:ZG}{root root' a r:Str}{XY kvs':ZX}{t t':T}{lx:Bool}{pp:List (Str×Str)}{es:ZG}(m:Mk ns XY)(m':Mk Y0 kvs')(e:Zj XY (.inr a)=some t)(e':Zj kvs' (.inr r)=some t')(h:Shp ns t)(h':Shp Y0 t'):wF Vb w [.f (.tup [.str root,.dct XY]),.f (.tup [.str root',.dct kvs']),.f (Zv lx pp es),.f (.str a),.f (.str r)] (Ld (KPr es XY t t')):=by
 refine Zu rfl fun D rt _=>?_;refine Gj e ?_;refine Gj e' ?_;cases h with
 | @record ps us hp hs=>cases h' with
  | @record Zi us' L3 Jz =>
   have hf:=m.f e hp;have hf':=m'.f e' L3;refine Ze (fun f=>.tup [.int (Z7 f),f]) (fun p=>∃s0,p=[s0]) ⟨_,rfl⟩ (fun f mf p K hi hk=>?_) fun p hi=>?_
   .obtain⟨s0,rfl⟩:=hi;obtain⟨n,x,o,ds,rfl,_⟩:=hf.get mf;exact hk _ ⟨_,rfl⟩
   obtain⟨s0,rfl⟩:=hi;rw[show (ps.map fun f=>T.tup [.int (Z7 f),f])=(ps.map fdP).map fun p=>.tup [.int p.1,p.2] by rw[List.map_map];rfl];refine Iw ?_;refine Dh (fun rest p=>∃s8 s9 qc ya yu,p=[.f (.tup [.str root,.dct XY]),.f (.tup [.str root',.dct kvs']),.f (Zv lx pp es),.f (.str a),.f (.str r),.f (Y6 ps us),.f (Y6 Zi us'),.o (.dct (Ad (ps.map fdP) [])),s8,s9,qc,ya,yu]/\(∀x∈rest,x∈Zi)/\∀g∈Zi,g∈rest\/∀f∈ps,Z7 f=Z7 g->dj es XY f g=true) ⟨_,_,_,_,_,rfl,fun x m=>m,fun f m=>.inl m⟩ (fun g rest p D' hi nx Tq=>?_) fun p hi=>?_
   .obtain⟨s8,s9,qc,ya,yu,rfl,hr,hd⟩:=hi;have mg:=hr g Yb;have Wp:∀x∈rest,x∈Zi:=fun x m=>hr x (Y5 _ m);obtain⟨n',x',o',Un,rfl,fo',wg⟩:=hf'.get mg
    have go:(∀f∈ps,Z7 f=n'->dj es XY f (.tup [.int n',.str x',.str o',.tup Un])=true)->∀g∈Zi,g∈rest\/∀f∈ps,Z7 f=Z7 g->dj es XY f g=true:=fun hg g1 m1=>by
     rcases hd g1 m1 with q | q
     .rcases Ya.mp q with rfl | q
      .exact .inr hg
      .exact .inl q
     .exact .inr q
    refine Zq (b:=(Zj (Ad (ps.map fdP) []) (.inl n')).isSome) (fun z=>?_) fun z=>?_
    .rw[Uk hf.p.d]at z;obtain⟨f,q⟩:=Option.isSome_iff_exists.mp z;obtain⟨mf,ef⟩:=(find_some hf.p.d).mp q;obtain⟨n,x,o,ds,rfl,fo,ho⟩:=hf.get mf
     have only:∀f∈ps,Z7 f=n'->f=.tup [.int n,.str x,.str o,.tup ds]:=fun f1 m1 e1=>by
      have:=(find_some hf.p.d).mpr ⟨m1,e1⟩;rw[q]at this;cases this;rfl
     have ek:dj es XY (.tup [.int n,.str x,.str o,.tup ds]) (.tup [.int n',.str x',.str o',.tup Un])=(!ds.isEmpty || (Un.isEmpty || (Dr es o || !Ba ((Zj XY (.inr o)).getD .non) (Un.headD .non)))):=rfl;have yes:(!ds.isEmpty || (Un.isEmpty || (Dr es o || !Ba ((Zj XY (.inr o)).getD .non) (Un.headD .non))))=true->∀g∈Zi,g∈rest\/∀f∈ps,Z7 f=Z7 g->dj es XY f g=true:=fun y=>go fun f1 m1 g1=>by rw[only f1 m1 g1,ek];exact y
     refine dv (by rw[Uk hf.p.d];exact q) ?_;refine Zq (b:=ds.isEmpty) (fun z1=>?_) fun z1=>?_
     rotate_left
     .exact nx _ ⟨_,_,_,_,_,rfl,Wp,yes (by rw[z1];rfl)⟩
     refine Zq (b:=!Un.isEmpty) (fun z2=>?_) fun z2=>?_
     rotate_left
     .exact nx _ ⟨_,_,_,_,_,rfl,Wp,yes (by rw[Yp z2];simp)⟩
     refine dv (by rw[Uk hf.p.d];exact q) ?_;refine Ag ?_;refine Zq (b:=!es.any fun y=>decide (y=o)) (fun z3=>?_) fun z3=>?_
     rotate_left
     .exact nx _ ⟨_,_,_,_,_,rfl,Wp,yes (by rw[show Dr es o=true from Yp z3];simp)⟩
     refine dv (by rw[Uk hf.p.d];exact q) ?_;obtain⟨s,es1,wk⟩:=m.g o ho;refine Gj es1 ?_;rcases fo'.d with rfl | ⟨d',Qp,rfl,Fx,_,df'⟩
     .cases z2
     refine Zz (hC wk df'.x) fun y ey=>?_;subst ey;rw[es1]at ek yes;refine Zq (b:=Ba s d') (fun z4=>?_) fun z4=>?_
     .refine Tq _ _ (rt _ _ ⟨false,⟨(fun q=>nomatch q),fun q2=>?_⟩,rfl⟩);have k:=q2 ps us Zi us' rfl rfl _ mf _ mg ef;rw[ek,z1,show Dr es o=false from Bv z3]at k;have k:(!Ba s d')=true:=k;rw[z4]at k;cases k
     .exact nx _ ⟨_,_,_,_,_,rfl,Wp,yes (by show (_ || (_ || (_ || !Ba s d')))=true;rw[z4];simp)⟩
    .rw[Uk hf.p.d]at z
     have q:Z3 ps n'=none:=by
      cases q:Z3 ps n' with
      | none=>rfl
      | some f=>rw[q]at z;cases z
     exact nx _ ⟨_,_,_,_,_,rfl,Wp,go fun f mf ef=>absurd ef (find_none.mp q f mf)⟩
   .obtain⟨s8,s9,qc,ya,yu,rfl,_,hd⟩:=hi;refine rt _ _ ⟨true,⟨fun _ ps1 B4 ps2 Gf e1 e2 f mf g mg eg=>?_,fun _=>rfl⟩,rfl⟩;cases e1;cases e2;rcases hd g mg with q | q
    .cases q
    .exact q f mf eg
  | _=>exact rt _ _ ⟨true,⟨fun _ ps us Zi us' e e'=>(by cases e'),fun _=>rfl⟩,rfl⟩
 | _=>exact rt _ _ ⟨true,⟨fun _ ps us Zi us' e=>(by cases e),fun _=>rfl⟩,rfl⟩
theorem isNP{t:T}{b:Bool}{Q:Sl->Prop}(e:ie t .non=some b)(q:Q (.f (.bl b))):on ((Dn .is t .non).map fun r=>Sl.f (.bl r)) Q:=Z1 (by show (ie t .non).map _=_;rw[e];rfl) q
def PMg(C:Cs):Prop:=∀{n n':Int} {x o x' o':Str} {ds Un:ZZ},cN (C "may_go" [.f (.tup [.int n,.str x,.str o,.tup ds]),.f (.tup [.int n',.str x',.str o',.tup Un])]) fun y=>y=(.f (.bl (!Un.isEmpty && ds.isEmpty)),[])
theorem qu{w:W}(hL:K9 w.C){n n':Int}{x o x' o':Str}{ds Un:ZZ}:wF Bu w [.f (.tup [.int n,.str x,.str o,.tup ds]),.f (.tup [.int n',.str x',.str o',.tup Un])] fun y=>y=(.f (.bl (!Un.isEmpty && ds.isEmpty)),[]):=by
 refine Zu rfl fun D rt _=>?_;refine Zz hL fun y ey=>?_;subst ey;refine Zq (b:=!Un.isEmpty) (fun z=>?_) fun z=>?_
 .refine Zz hL fun y ey=>?_;subst ey;exact rt _ _ (by rw[z,Bool.not_not];rfl)
 .exact rt _ _ (by rw[z];rfl)
theorem keB_c{es:ZG}{XY:ZX}{n n':Int}{x o x' o':Str}{ds Un:ZZ}:dj es XY (.tup [.int n,.str x,.str o,.tup ds]) (.tup [.int n',.str x',.str o',.tup Un])=(!ds.isEmpty || (Un.isEmpty || (Dr es o || !Ba ((Zj XY (.inr o)).getD .non) (Un.headD .non)))):=rfl
def HS(pp:List (Str×Str))(es:ZG)(XY kvs':ZX):Prop:=∀o o',hB pp es o o'=true->Dr es o=false->∀s s',Zj XY (.inr o)=some s->Zj kvs' (.inr o')=some s'->K6 s s'
def PKf(C:Cs):Prop:=∀{ns Y0:ZG} {root:Str} {XY kvs':ZX} {ps Zi:ZZ} {pp:List (Str×Str)} {es:ZG} {f:T},Mk ns XY->N5 ns XY ps->N5 Y0 kvs' Zi->HS pp es XY kvs'->(∀g∈Zi,Z7 f=Z7 g->wc (hB pp es) XY kvs' f g)->f∈ps ->
 cN (C "is_kept_field" [.f (.tup [.str root,.dct XY]),.f (Zv false pp es),.f f,.f ((Z3 Zi (Z7 f)).getD .non)]) fun x=>x=(.f (.bl (match Z3 Zi (Z7 f) with | none=>true | some g=>dj es XY f g)),[])
set_option maxHeartbeats 2000000 in
theorem L1{w:W}(hG:PMg w.C)(hF:Ll w.C)(hV:PVa w.C){ns Y0:ZG}{root:Str}{XY kvs':ZX}{ps Zi:ZZ}{pp:List (Str×Str)}{es:ZG}{f:T}(m:Mk ns XY)(h:N5 ns XY ps)(h':N5 Y0 kvs' Zi)(hs:HS pp es XY kvs')(hp:∀g∈Zi,Z7 f=Z7 g->wc (hB pp es) XY kvs' f g)(mf:f∈ps) :
  wF Yu w [.f (.tup [.str root,.dct XY]),.f (Zv false pp es),.f f,.f ((Z3 Zi (Z7 f)).getD .non)] fun x=>x=(.f (.bl (match Z3 Zi (Z7 f) with | none=>true | some g=>dj es XY f g)),[]):=by
 obtain⟨n,x,o,ds,rfl,fo,ho⟩:=h.get mf;cases q:Z3 Zi (Z7 (.tup [.int n,.str x,.str o,.tup ds])) with
 | none =>
  refine Zu rfl fun D rt _=>?_;exact rt _ _ rfl
 | some g =>
  obtain⟨mg,eg⟩:=(find_some h'.p.d).mp q;obtain⟨n',x',o',Un,rfl,fo',wg⟩:=h'.get mg;have fp:=(hp _ mg eg.symm _ _ _ _ _ _ _ _ rfl rfl).1;show wF Yu w [.f (.tup [.str root,.dct XY]),.f (Zv false pp es),.f (.tup [.int n,.str x,.str o,.tup ds]),.f (.tup [.int n',.str x',.str o',.tup Un])] fun y=>y=(.f (.bl (dj es XY (.tup [.int n,.str x,.str o,.tup ds]) (.tup [.int n',.str x',.str o',.tup Un]))),[]);rw[keB_c];refine Zu rfl fun D rt _=>?_;refine Zz hG fun y ey=>?_;subst ey;refine Zq (b:=!(!Un.isEmpty && ds.isEmpty)) (fun z=>?_) fun z=>?_
  .refine rt _ _ ?_
   have:(!ds.isEmpty || (Un.isEmpty || (Dr es o || !Ba ((Zj XY (.inr o)).getD .non) (Un.headD .non))))=true:=by
    cases a:ds.isEmpty with
    | false=>rfl
    | true =>
     cases b:Un.isEmpty with
     | true=>rfl
     | false=>rw[a,b]at z;cases z
   rw[this];rfl
  .have z:=Yp z;rw[Jx]at z;refine D5 ?_;refine Zq (b:=es.any fun y=>decide (y=o)) (fun z1=>?_) fun z1=>?_
   .refine rt _ _ ?_;rw[show Dr es o=true from z1,Bool.true_or,Bool.or_true,Bool.or_true];rfl
   .obtain⟨s,es1,wk⟩:=m.g o ho;refine Zz (hF es1) fun y ey=>?_;subst ey;rcases fo'.d with rfl | ⟨d',s',rfl,Fx,_,df'⟩
    .cases z.1
    refine Zz (hV wk df'.f df'.x (hs o o' fp z1 s s' es1 Fx)) fun y hy=>?_;obtain⟨t,rfl,et⟩:=hy;refine isNP et ?_;refine rt _ _ ?_;rw[z.2,show Dr es o=false from z1,es1];rfl
def PKp(C:Cs):Prop:=∀{ns Y0:ZG} {root root' a r:Str} {XY kvs':ZX} {t t':T} {pp:List (Str×Str)} {es:ZG},Mk ns XY->Mk Y0 kvs'->Zj XY (.inr a)=some t->Zj kvs' (.inr r)=some t'->Shp ns t->Shp Y0 t'->HS pp es XY kvs'->PR pp es XY kvs' t t' ->
 cN (C "is_kept_pair" [.f (.tup [.str root,.dct XY]),.f (.tup [.str root',.dct kvs']),.f (Zv false pp es),.f (.tup [.str a,.str r])]) (Ld (KPr es XY t t'))
set_option maxHeartbeats 2000000 in
theorem Pt{w:W}(hF:Ll w.C)(hK:PKf w.C)(hM:n9 w.C){ns Y0:ZG}{root root' a r:Str}{XY kvs':ZX}{t t':T}{pp:List (Str×Str)}{es:ZG}(m:Mk ns XY)(m':Mk Y0 kvs')(e:Zj XY (.inr a)=some t)(e':Zj kvs' (.inr r)=some t')(h:Shp ns t)(h':Shp Y0 t')(hs:HS pp es XY kvs')(pr:PR pp es XY kvs' t t') :
  wF V1 w [.f (.tup [.str root,.dct XY]),.f (.tup [.str root',.dct kvs']),.f (Zv false pp es),.f (.tup [.str a,.str r])] (Ld (KPr es XY t t')):=by
 refine Zu rfl fun D rt _=>?_;refine Zz (hF e) fun y ey=>?_;subst ey;refine Zz (hF e') fun y ey=>?_;subst ey;cases h with
 | @record ps us hp hss =>
  obtain⟨Zi,us',rfl⟩:∃Zi us',t'=Y6 Zi us':=by
   generalize eq:T.tup [.str "record",.tup ps,.tup us]=t0 at pr;cases pr with
   | num g _ _ _=>cases g<;>cases eq
   | text _=>cases eq
   | row _=>cases eq
   | map _=>cases eq
   | rcd _=>exact⟨_,_,rfl⟩
   | cho _=>cases eq
  have L3:Ys Y0 true Zi:=by
   generalize eq:Y6 Zi us'=t0 at h';cases h' with
   | record g _=>cases eq;exact g
   | _=>cases eq
  have hf:=m.f e hp;have hf':=m'.f e' L3;have fr:=H0.mp pr;refine Ze (fun f=>.bl (match Z3 Zi (Z7 f) with | none=>true | some g=>dj es XY f g)) (fun p=>∃s0,p=[s0,.f (.tup [.str root,.dct XY]),.f (Zv false pp es),.f (Y6 Zi us')]) ⟨_,rfl⟩ (fun f mf p K hi hk=>?_) fun p hi=>?_
  .obtain⟨s0,rfl⟩:=hi;have hk:=hk [.f f,.f (.tup [.str root,.dct XY]),.f (Zv false pp es),.f (Y6 Zi us')] ⟨_,rfl⟩;have hc:=hK (root:=root) m hf hf' hs (fun g mg eg=>fr.2 f mf g mg eg) mf;obtain⟨n,x,o,ds,rfl,fo,ho⟩:=hf.get mf;refine Zz (hM (s:="record") (r:=[.tup us']) L3.p) fun y ey=>?_;subst ey;refine Zz hc fun y ey=>?_;subst ey;exact hk
  obtain⟨s0,rfl⟩:=hi;refine Rg ?_;refine rt _ _ ⟨_,⟨fun q ps1 B4 ps2 Gf e1 e2 f mf g mg eg=>?_,fun q=>R5.mpr fun f mf=>?_⟩,rfl⟩
  .cases e1;cases e2;have:=R5.mp q f mf;rw[(find_some L3.d).mpr ⟨mg,eg.symm⟩]at this;exact this
  .cases z:Z3 Zi (Z7 f) with
   | none=>rfl
   | some g =>
    obtain⟨mg,eg⟩:=(find_some L3.d).mp z;exact q ps us Zi us' rfl rfl f mf g mg eg.symm
 | _=>exact rt _ _ ⟨true,⟨fun _ ps us Zi us' e=>(by cases e),fun _=>rfl⟩,rfl⟩
structure LK(root root':Str)(ks Zr:ZX)(t:T):Prop where
 l:LR root root' ks Zr t
 k:∀pp es,t=Zv false pp es->∀q∈pp,∀s s',Zj ks (.inr q.1)=some s->Zj Zr (.inr q.2)=some s'->KPr es ks s s'
theorem hs_of{root root':Str}{ks Zr:ZX}{pp:List (Str×Str)}{es:ZG}(h:LR root root' ks Zr (Zv false pp es)):HS pp es ks Zr:=fun o o' hb he s s' e e'=>by
 have:(pp.any fun q=>decide (q=(o,o')))=true:=by
  unfold hB at hb;rw[show (es.any fun y=>decide (y=o))=false from he,Bool.or_false]at hb;exact hb
 obtain⟨q,mq,eq⟩:=ZO.mp this;cases Dk eq;exact zj ((h.h _ _ rfl).2.2 _ mq s s' e e')
def Zqb(C:Cs):Prop:=∀{ns Y0:ZG} {root root':Str} {ks Zr:ZX} {t:T},Mt ns ks->Mt Y0 Zr->rz t->cN (C "lets_keep" [.f (mkT root ks),.f (mkT root' Zr),.f t]) (Ld (LK root root' ks Zr t))
set_option maxHeartbeats 2000000 in
theorem ic{w:W}(hL:PLet "lets_read" w.C)(hK:PKp w.C){ns Y0:ZG}{root root':Str}{ks Zr:ZX}{t:T}(m:Mt ns ks)(m':Mt Y0 Zr)(g:rz t):wF Jy w [.f (mkT root ks),.f (mkT root' Zr),.f t] (Ld (LK root root' ks Zr t)):=by
 refine Zu rfl fun D rt _=>?_;refine Zz (hL m m' g) fun y hy=>?_;obtain⟨b,hb,rfl⟩:=hy;refine Zq (b:=b) (fun z=>?_) fun z=>?_
 rotate_left
 .exact rt _ _ ⟨false,⟨(fun q=>nomatch q),fun q=>by rw[hb.mpr q.l]at z;cases z⟩,rfl⟩
 have lr:=hb.mp z;obtain⟨pp,es,rfl,jf,hes⟩:=Qe lr.p;have hs:=hs_of lr
 let P:T->Prop:=fun u=>∀q,u=pr2 q->∀s s',Zj ks (.inr q.1)=some s->Zj Zr (.inr q.2)=some s'->KPr es ks s s'
 haveI dP:∀u,Decidable (P u):=fun _=>Classical.propDecidable _
 refine Ze (fun u=>.bl (decide (P u))) (fun p=>∃s0,p=[s0,.f (mkT root ks),.f (mkT root' Zr),.f (Zv false pp es)]) ⟨_,rfl⟩ (fun u mu p K hi hk=>?_) fun p hi=>?_
 .obtain⟨s0,rfl⟩:=hi;obtain⟨q,mq,rfl⟩:=M4.mp mu;obtain⟨i1,i2⟩:=jf q mq;obtain⟨s,e⟩:=Option.isSome_iff_exists.mp i1;obtain⟨s',e'⟩:=Option.isSome_iff_exists.mp i2;have hk:=hk [.f (pr2 q),.f (mkT root ks),.f (mkT root' Zr),.f (Zv false pp es)] ⟨_,rfl⟩;refine Zz (hK m.m m'.m e e' (m.s e) (m'.s e') hs ((lr.h _ _ rfl).2.2 q mq s s' e e')) fun y hy=>?_;obtain⟨b,hb,rfl⟩:=hy
  have:decide (P (pr2 q))=b:=by
   have iff:b=true↔P (pr2 q):=hb.trans ⟨fun h q' eq s1 Qp e1 Fx=>by
    injection eq with eq;injection eq with q1 eq;injection eq with q2 _;injection q1 with q1;injection q2 with q2
    rw[<-q1,e]at e1;rw[<-q2,e']at Fx;cases e1;cases Fx;exact h,fun h=>h q rfl s s' e e'⟩
   cases b with
   | true=>exact Jo (iff.mp rfl)
   | false=>exact Mr fun h=>Qv (iff.mpr h)
  rw[this]at hk;exact hk
 obtain⟨s0,rfl⟩:=hi;refine Rg ?_;refine rt _ _ ⟨_,⟨fun h=>⟨lr,fun pp' R0 e q mq=>?_⟩,fun h=>?_⟩,rfl⟩
 .obtain⟨rfl,rfl⟩:=Gr e;exact Dk (R5.mp h _ (List.mem_map_of_mem mq)) q rfl
 .refine R5.mpr fun u mu=>Jo ?_;intro q eq;obtain⟨q',mq,rfl⟩:=M4.mp mu
  injection eq with eq;injection eq with q1 eq;injection eq with q2 _;injection q1 with q1;injection q2 with q2
  have:q'=q:=Prod.ext q1 q2;subst this;exact h.k _ _ rfl q' mq
def PLby(C:Cs):Prop:=∀{ns Y0:ZG} {root root':Str} {ks Zr:ZX} {t:T},Mt ns ks->Mt Y0 Zr->rz t->cN (C "_law_let_by" [.f (mkT root ks),.f (mkT root' Zr),.f t,.f (.bl true)]) (Ld (LK root root' ks Zr t))
set_option maxHeartbeats 4000000 in
theorem qo{w:W}(hP:Zz8 "_law_is_paper" w.C)(hH:Je "_law_holds" w.C)(hE:n6 w.C)(hI:PLPR w.C)(hK:PPk w.C){ns Y0:ZG}{root root':Str}{ks Zr:ZX}{t:T}(m:Mt ns ks)(m':Mt Y0 Zr)(g:rz t):wF Ua w [.f (mkT root ks),.f (mkT root' Zr),.f t,.f (.bl true)] (Ld (LK root root' ks Zr t)):=by
 refine Zu rfl fun D rt _=>?_;refine Zz (hP g) fun y ey=>?_;subst ey;refine Zq (b:=!Nn ks Zr t) (fun z=>rt _ _ ⟨false,⟨(fun q=>nomatch q),fun q=>absurd q.l (Zxn (Bv z))⟩,rfl⟩) fun z=>?_;have hb:=Yp z;obtain⟨pp,es,rfl,jf,hes⟩:=Qe hb;refine Zz hH fun y ey=>?_;subst ey;refine Zq (b:=!hB pp es root root') (fun z=>rt _ _ ⟨false,⟨(fun q=>nomatch q),fun q=>?_⟩,rfl⟩) fun z1=>?_
 .have:=(q.l.h _ _ rfl).1;rw[this]at z;cases z
 refine Dh (fun rest p=>∃s3 s4 rs,p=[.f (mkT root ks),.f (mkT root' Zr),.f (Zv false pp es),.f (.bl true),s3,s4]/\rest=rs.map pr2/\(∀x∈rs,x∈pp)/\∀q∈pp,q∈rs\/∀s s',Zj ks (.inr q.1)=some s->Zj Zr (.inr q.2)=some s'->PR pp es ks Zr s s'/\KPr es ks s s') ⟨_,_,pp,rfl,rfl,fun x m=>m,fun q m=>.inl m⟩ (fun u rest p D' hi nx Tq=>?_) fun p hi=>?_
 .obtain⟨s3,s4,rs,rfl,er,hr,hd⟩:=hi;cases rs with
  | nil=>cases er
  | cons q rs =>
   cases er;have mq:=hr q Yb;obtain⟨i1,i2⟩:=jf q mq;obtain⟨s,e⟩:=Option.isSome_iff_exists.mp i1;obtain⟨s',e'⟩:=Option.isSome_iff_exists.mp i2;show wS w _ _ [.f (mkT root ks),.f (mkT root' Zr),.f (Zv false pp es),.f (.bl true),.f (.str q.1),.f (.str q.2)] _;refine Zz (hI (lx:=false) (pp:=pp) (es:=es) m.m m'.m e e' (m.s e) (m'.s e')) fun y hy=>?_;obtain⟨b,hb,rfl⟩:=hy;refine Zq (b:=!b) (fun z=>Tq _ _ (rt _ _ ⟨false,⟨(fun q=>nomatch q),fun h=>?_⟩,rfl⟩)) fun z=>?_
   .rw[hb.mpr ((h.l.h _ _ rfl).2.2 q mq s s' e e')]at z;cases z
   refine Zz (hK (lx:=false) (pp:=pp) (es:=es) m.m m'.m e e' (m.s e) (m'.s e')) fun y hy=>?_;obtain⟨c,hc,rfl⟩:=hy;refine Zq (b:=!c) (fun z'=>Tq _ _ (rt _ _ ⟨false,⟨(fun q=>nomatch q),fun h=>?_⟩,rfl⟩)) fun z'=>?_
   .rw[hc.mpr (h.k _ _ rfl q mq s s' e e')]at z';cases z'
   .refine nx _ ⟨_,_,rs,rfl,rfl,fun x m=>hr x (Y5 _ m),fun q1 m1=>?_⟩;rcases hd q1 m1 with h | h
    .rcases Ya.mp h with rfl | h
     .exact .inr fun s1 Qp e1 Fx=>by
       rw[e]at e1;rw[e']at Fx;cases e1;cases Fx;exact⟨hb.mp (Yp z),hc.mp (Yp z')⟩
     .exact .inl h
    .exact .inr h
 obtain⟨s3,s4,rs,rfl,er,hr,hd⟩:=hi
 have hpr:∀q∈pp,∀s s',Zj ks (.inr q.1)=some s->Zj Zr (.inr q.2)=some s'->PR pp es ks Zr s s'/\KPr es ks s s':=fun q mq=>by
  rcases hd q mq with h | h
  .cases rs with
   | nil=>cases h
   | cons=>cases er
  .exact h
 refine Ze (fun x=>.bl (match x with | .str x=>O7 es ((Zj ks (.inr x)).getD .non) | _=>false)) (fun p=>∃s0,p=[s0,.f (Zv false pp es),.f (mkT root ks)]) ⟨_,rfl⟩ (fun u mu p K hi hk=>?_) fun p hi=>?_
 .obtain⟨s0,rfl⟩:=hi;obtain⟨x,mx,rfl⟩:=M4.mp mu;obtain⟨s,e⟩:=Option.isSome_iff_exists.mp (hes x mx);have hk:=hk [.f (.str x),.f (Zv false pp es),.f (mkT root ks)] ⟨_,rfl⟩
  replace hk:K (some (.bl (O7 es ((Zj ks (.inr x)).getD .non)))) _:=hk
  rw[e]at hk;refine Gj e ?_;refine Zz (hE (l:=false) (m.s e)) fun y ey=>?_;subst ey;exact hk
 obtain⟨s0,rfl⟩:=hi;refine bz ?_;rw[xp]
 have ev:((es.map T.str).all fun x=>match x with | .str x=>O7 es ((Zj ks (.inr x)).getD .non) | _=>false)=true↔∀x∈es,∀s,Zj ks (.inr x)=some s->O7 es s=true:=by
  rw[List.all_map,R5];refine forall_congr' fun x=>forall_congr' fun mx=>?_;obtain⟨s,e⟩:=Option.isSome_iff_exists.mp (hes x mx);show O7 es ((Zj ks (.inr x)).getD .non)=true↔_;rw[e];exact⟨fun h s' e'=>by cases e';exact h,fun h=>h s rfl⟩
 refine rt _ _ ⟨_,⟨fun h=>⟨⟨hb,fun pp' R0 e=>?_⟩,fun pp' R0 e q mq s s' e1 e2=>?_⟩,fun h=>ev.mpr (h.l.h _ _ rfl).2.1⟩,rfl⟩
 .obtain⟨rfl,rfl⟩:=Gr e;exact⟨Yp z1,ev.mp h,fun q mq s s' e1 e2=>(hpr q mq s s' e1 e2).1⟩
 .obtain⟨rfl,rfl⟩:=Gr e;exact(hpr q mq s s' e1 e2).2
structure Sh(d w:Nat)(t:T):Prop where
 o:lh 100 t
 w:Hc t<=w
 d:dpT t<=d
theorem Sh.mono{d w d' w':Nat}{t:T}(h:Sh d w t)(hd:d<=d')(hw:w<=w'):Sh d' w' t:=⟨h.o,U8 h.w hw,U8 h.d hd⟩
theorem X4{d w:Nat}:∀{ts:ZZ},(∀t∈ts,Sh d w t)->Wb 100 ts/\Ht ts<=ts.length * (w+1)/\jr ts<=d
 | [],_=>⟨trivial,Mj _,Mj _⟩
 | t::r,h=>by
  have a:=h t Yb;obtain⟨b,c,e⟩:=X4 (ts:=r) fun x m=>h x (Y5 _ m);refine⟨⟨a.o,b⟩, ?_,Nat.max_le.mpr ⟨a.d,e⟩⟩;show Hc t+1+Ht r<=(r.length+1) * (w+1);have:=a.w;rw[Nat.add_mul];omega
theorem Sh.seq{d w n:Nat}{ts:ZZ}(l:ts.length<=n)(l':n<=100)(h:∀t∈ts,Sh d w t):Sh (d+1) (n * (w+1)) (.tup ts)/\Sh (d+1) (n * (w+1)) (.lst ts):=by
 obtain⟨a,b,c⟩:=X4 h;have e:=U8 b (Nat.mul_le_mul_right _ l);exact⟨⟨⟨U8 l l',a⟩,e,Nat.add_le_add_right c 1⟩,⟨U8 l l',a⟩,e,Nat.add_le_add_right c 1⟩
theorem Sh.two{d w w':Nat}{a b:T}(ha:Sh d w a)(hb:Sh d w' b):Sh (d+1) (w+w'+2) (.tup [a,b]):=⟨⟨by simp,ha.o,hb.o,trivial⟩,by have:=ha.w;have:=hb.w;show Hc a+1+(Hc b+1+0)<=_;omega,Nat.succ_le_succ (Nat.max_le.mpr ⟨ha.d,Nat.max_le.mpr ⟨hb.d,Mj _⟩⟩)⟩
theorem yc{d w:Nat}:∀{XY:ZX},(∀p∈XY,(∃x,(x.length<=9/\∀c∈x.cps.toList,c<16 ^ 8)/\p.1=.inr x)/\Sh d w p.2)->Q6 100 XY/\x4 XY<=XY.length * (w+11)/\cv XY<=d
 | [],_=>⟨trivial,Mj _,Mj _⟩
 | (k,t)::r,h=>by
  obtain⟨⟨x,hx,e⟩,a⟩:=h (k,t) Yb;cases(show k=.inr x from e);obtain⟨b,c,e⟩:=yc (XY:=r) fun x m=>h x (Y5 _ m);refine⟨⟨hx.2,a.o,b⟩, ?_,Nat.max_le.mpr ⟨a.d,e⟩⟩;show x.length+Hc t+2+x4 r<=(r.length+1) * (w+11);have:=(show Hc t<=w from a.w);have:=hx.1;rw[Nat.add_mul];omega
theorem Qh{i:Int}(h:Fg i):Sh 1 70 (.int i):=⟨(show i.natAbs<=10 ^ 19 by have:=h.1;have:=h.2;omega),N4 _,Mj _⟩
theorem sm_c{x:Str}(h:Sm x):∀c∈x.cps.toList,c<16 ^ 8:=fun c m=>N0o (h.2 c m).2 (by decide)
theorem Tz{x:Str}(h:Sm x):Sh 1 70 (.str x):=⟨sm_c h,U8 h.1 (by omega),Mj _⟩
theorem fj{n:Int}(h:n∈Dj):Fg n:=by
 have:∀n∈Dj, -1000000000000000000<=n/\n<=1000000000000000000:=by decide
 exact this n h
theorem sh_dx{t:T}(h:Dx t):Sh 1 70 t:=by
 cases h with
 | int h=>exact Qh h
 | bl=>exact⟨trivial,Mj _,Mj _⟩
 | str h=>exact Tz h
 | nil=>exact⟨⟨Mj _,trivial⟩,Mj _,N4 _⟩
theorem shN{d w:Nat}{ts:ZZ}(l:ts.length<=4)(h:∀t∈ts,Sh d w t):Sh (d+1) (4 * (w+1)) (.tup ts):=(Sh.seq l (by omega) h).1
theorem sh_prt{ns:ZG}{k:Bool}{t:T}(hs:∀x∈ns,Sm x)(h:Ci ns k t):Sh 3 288 t:=by
 have i:∀{n:Int},n∈Dj->Sh 2 71 (.int n):=fun h=>(Qh (fj h)).mono (by omega) (by omega);have s:∀{x:Str},Sm x->Sh 2 71 (.str x):=fun h=>(Tz h).mono (by omega) (by omega);cases k with
 | false =>
  obtain⟨n,x,o,rfl,hn,hx,ho⟩:=h.cho;have a:=i hn;have b:=s hx;have c:=s (hs o ho);exact shN (d:=2) (w:=71) (ts:=[.int n,.str x,.str o]) (by simp) (by simp[a,b,c])
 | true =>
  obtain⟨n,x,o,ds,rfl,hn,hx,ho,hd⟩:=h.asR;have a:=i hn;have b:=s hx;have c:=s (hs o ho)
  have e:Sh 2 71 (.tup ds):=by
   have:=(Sh.seq (n:=1) (w:=70) (d:=1) (ts:=ds) (by cases hd<;>simp) (by omega) fun t m=>by
    cases hd with
    | no=>cases m
    | is dx=>cases Dl.mp m;exact sh_dx dx).1
   exact this
  exact shN (d:=2) (w:=71) (ts:=[.int n,.str x,.str o,.tup ds]) (by simp) (by simp[a,b,c,e])
theorem sm_w:∀x∈(["whole","truth","text","row","map","record","choice"]:ZG),Sm x:=(show ∀x∈(["whole","truth","text","row","map","record","choice"]:ZG),x.length<=9/\∀c∈x.cps.toList,97<=c/\c<=122 by decide +kernel)
theorem yd{ns:ZG}{s:T}(hs:∀x∈ns,Sm x)(h:Shp ns s):Sh 5 9252 s:=by
 have tg:∀{x},x∈(["whole","truth","text","row","map","record","choice"]:ZG)->Sh 4 2312 (.str x):=fun h=>(Tz (sm_w _ h)).mono (by omega) (by omega);have i:∀{n:Int},Fg n->Sh 4 2312 (.int n):=fun h=>(Qh h).mono (by omega) (by omega);have hb:∀b,Sh 4 2312 (.bl b):=fun b=>⟨trivial,Mj _,Mj _⟩;have ho:∀{o},o∈ns->Sh 4 2312 (.str o):=fun m=>(Tz (hs _ m)).mono (by omega) (by omega);have hp:∀{k ps},Ys ns k ps->Sh 4 2312 (.tup ps):=fun h=>(Sh.seq (n:=8) h.l (by omega) fun t m=>sh_prt hs (h.p t m)).1
 have hz:∀{ss},Stk ss->Sh 4 2312 (.tup ss):=fun⟨zs,e,l,b⟩=>(Sh.seq (n:=8) (by rw[e,Y9];exact l) (by omega) fun t m=>by
  rw[e]at m;obtain⟨z,mz,rfl⟩:=M4.mp m;exact Qh (b z mz)).1.mono (by omega) (by omega)
 have n200:∀{n m:Int},0<=n->n<=m->m<=200->Fg n:=fun a b c=>⟨by omega,by omega⟩;have l1:∀{a:T},Sh 4 2312 a->Sh 5 9252 (.tup [a]):=fun h=>shN (d:=4) (w:=2312) (ts:=[_]) (by simp) (by simp[h]);have l2:∀{a b:T},Sh 4 2312 a->Sh 4 2312 b->Sh 5 9252 (.tup [a,b]):=fun h h1=>shN (d:=4) (w:=2312) (ts:=[_,_]) (by simp) (by simp[h,h1]);have l3:∀{a b c:T},Sh 4 2312 a->Sh 4 2312 b->Sh 4 2312 c->Sh 5 9252 (.tup [a,b,c]):=fun h h1 h2=>shN (d:=4) (w:=2312) (ts:=[_,_,_]) (by simp) (by simp[h,h1,h2]);have l4:∀{a b c e:T},Sh 4 2312 a->Sh 4 2312 b->Sh 4 2312 c->Sh 4 2312 e->Sh 5 9252 (.tup [a,b,c,e]):=fun h h1 h2 h3=>shN (d:=4) (w:=2312) (ts:=[_,_,_,_]) (by simp) (by simp[h,h1,h2,h3]);cases h with
 | whole a b _=>exact l3 (tg (by decide)) (i a) (i b)
 | truth=>exact l1 (tg (by decide))
 | text h0 h1=>exact l2 (tg (by decide)) (i (n200 h0 h1 (by omega)))
 | row m h0 h1=>exact l3 (tg (by decide)) (ho m) (i (n200 h0 h1 (by omega)))
 | map m h0 h1=>exact l3 (tg (by decide)) (ho m) (i (n200 h0 h1 (by omega)))
 | record a b=>exact l3 (tg (by decide)) (hp a) (hz b)
 | choice a b=>exact l4 (tg (by decide)) (hp a) (hz b) (hb _)
theorem Rr:∀x∈V2,Sm x:=(show ∀x∈V2,x.length<=9/\∀c∈x.cps.toList,97<=c/\c<=122 by decide +kernel)
theorem Dw.sh{root:Str}{XY:ZX}{ss:ZG}(h:Dw root XY ss):Sh 7 74200 (mkT root XY):=by
 have hs:∀x∈ss,Sm x:=fun x m=>Rr x (h.po x m)
 obtain⟨a,b,c⟩:=yc (d:=5) (w:=9252) (XY:=XY) fun p m=>⟨by
  have:p.1∈ss.map Sum.inr:=by rw[<-h.f.k];exact List.mem_map_of_mem m
  obtain⟨x,mx,e⟩:=M4.mp this;exact⟨x,⟨(hs x mx).1,sm_c (hs x mx)⟩,e.symm⟩,yd hs (h.f.p p m)⟩
 have l8:=h.l8;have ln:=h.f.len;have k:Sh 6 74104 (.dct XY):=⟨a,U8 b (by rw[ln];omega),Nat.succ_le_succ c⟩;exact(Sh.two (w:=70) ((Tz (hs root h.r)).mono (by omega) (by omega)) k).mono (by omega) (by omega)
structure Thx(t:T):Prop where
 g:rz t
 s:Sh 7 100000 t
theorem Dw.mt{root:Str}{XY:ZX}{ss:ZG}(h:Dw root XY ss):Mt ss XY:=⟨h.toMk,fun e=>h.f.at e⟩
def PRt(C:Cs):Prop:=∀{root root':Str} {ks Zr:ZX} {ss U9:ZG} {t:T},Dw root ks ss->Dw root' Zr U9->Thx t->cN (C "_law_right" [.f (mkT root ks),.f (mkT root' Zr),.f t]) fun x=>x=(.f (.bl true),[])
set_option maxHeartbeats 2000000 in
theorem y2{w:W}(hL:Zqb w.C)(hB:PLby w.C){root root':Str}{ks Zr:ZX}{ss U9:ZG}{t:T}(h:Dw root ks ss)(h':Dw root' Zr U9)(g:Thx t):wF Jk w [.f (mkT root ks),.f (mkT root' Zr),.f t] fun x=>x=(.f (.bl true),[]):=by
 refine Zu rfl fun D rt _=>?_
 obtain⟨z,ez⟩:∃z,rpT (.tup [mkT root ks,mkT root' Zr,t])=some z:=by
  have a:=h.sh;have b:=h'.sh;refine rpT_ok (n:=100) ⟨by simp,a.o,b.o,g.s.o,trivial⟩ ?_ ?_
  .have:=a.w;have:=b.w;have:=g.s.w;show Hc (mkT root ks)+1+(Hc (mkT root' Zr)+1+(Hc t+1+0))<=_;omega
  .refine U8 (Nat.succ_le_succ (Nat.max_le.mpr ⟨a.d,Nat.max_le.mpr ⟨b.d,Nat.max_le.mpr ⟨g.s.d,Mj _⟩⟩⟩)) (by omega)
 have rp:∀{Q:Sl->Prop},Q (.f (.str z))->on ((rpT (.tup [mkT root ks,mkT root' Zr,t])).map fun z=>Sl.f (.str z)) Q:=fun q=>Z1 (by rw[ez];rfl) q;refine rp ?_;refine Zz (hL h.mt h'.mt g.g) fun y hy=>?_;obtain⟨b,hb,rfl⟩:=hy;show wS w _ _ [.f (mkT root ks),.f (mkT root' Zr),.f t,.f (.str z),.f (.bl b),.no] _;refine Zz (hB h.mt h'.mt g.g) fun y hy=>?_;obtain⟨c,hc,rfl⟩:=hy
 have:b=c:=by
  cases b<;>cases c<;>first | rfl | exact absurd (hc.mpr (hb.mp rfl)) Qv | exact absurd (hb.mpr (hc.mp rfl)) Qv
 subst this;have e:(b == b)=true:=B0s b;show wS w _ _ [.f (mkT root ks),.f (mkT root' Zr),.f t,.f (.str z),.f (.bl b),.f (.bl (b == b))] _;refine Zq (b:=b == b) (fun _=>?_) fun q=>by rw[e]at q;cases q
 refine rp ?_;exact rt _ _ (by rw[Jo rfl];rfl)
structure PapN(n:Nat)(pp:List (Str×Str))(es:ZG):Prop where
 l:pp.length<=64
 k:es.length<=n
 p:∀q∈pp,q.1∈V2/\q.2∈V2
 e:∀x∈es,x∈V2
def Qw(n:Nat)(t:T):Prop:=∃pp es,t=Zv false pp es/\PapN n pp es
def Ln(C:Cs):Prop:=∀{root root':Str} {ks Zr:ZX} {ss U9:ZG} {kp:Bool},Dw root ks ss->Dw root' Zr U9->cN (C "_law_great" [.f (mkT root ks),.f (mkT root' Zr),.f (.bl kp)]) fun x=>∃t,Qw 8 t/\x=(.f t,[])
set_option maxHeartbeats 4000000 in
theorem tm{w:W}(hE:n6 w.C)(hI:PLPR w.C)(hK:PPk w.C){kp:Bool}{root root':Str}{ks Zr:ZX}{ss U9:ZG}(h:Dw root ks ss)(h':Dw root' Zr U9):wF Jn w [.f (mkT root ks),.f (mkT root' Zr),.f (.bl kp)] fun x=>∃t,Qw 8 t/\x=(.f t,[]):=by
 have sl:=sizeLine_eq;have l8:=h.l8;have l8':=h'.l8;have s1:=h.f.srt (show ss.length<64 by omega);have s2:=h'.f.srt (show U9.length<64 by omega);have n1:(SRT.Vr ss).length=ss.length:=(SRT.Z2 ss).length_eq;have n2:(SRT.Vr U9).length=U9.length:=(SRT.Z2 U9).length_eq;have lk:=h.f.len;refine Zu rfl fun D rt _=>?_;refine Du s1 ?_;refine rngP (m:=((ks.length:Nat):Int)) (by omega) (by omega) ?_;refine Dp (fun rest p=>∃es s3,p=[.f (mkT root ks),.f (mkT root' Zr),.f (.bl kp),.o (.lst (es.map .str)),s3,.no,.no,.no,.no]/\(∀x∈es,x∈ss)/\es.length<=8) ⟨SRT.Vr ss,_,rfl,fun y m=>(SRT.Z2 ss).mem_iff.mp m,by omega⟩ (fun x rest p D' hi nx _=>?_) fun p hi=>?_
 .obtain⟨es,s3,rfl,he,hl⟩:=hi;refine Vl (fun rest acc p=>∃s0 us qs,p=[s0,.f (.lst (es.map .str)),.f (mkT root ks)]/\rest=us.map T.str/\acc=qs.map T.str/\(∀x∈us,x∈ss)/\(∀x∈qs,x∈ss)/\qs.length+us.length<=8) ⟨_,es,[],rfl,rfl,rfl,he,(fun _ m=>nomatch m),by show 0+_<=_;omega⟩ (fun x r acc p K hi ky kn=>?_) fun acc p hi=>?_
  .obtain⟨s0,us,qs,rfl,hr,rfl,hu,hq,hl⟩:=hi;cases us with
   | nil=>cases hr
   | cons a us =>
    cases hr;rw[M5]at hl;obtain⟨t,e,ht⟩:=h.f.get (hu a Yb);have Cf:∀x∈us,x∈ss:=fun x m=>hu x (Y5 _ m);refine Gj e ?_;refine Zz (hE (l:=true) ht) fun y ey=>?_;subst ey;refine Zq (b:=O7 es t) (fun _=>?_) fun _=>?_
    .exact ky _ _ ⟨_,us,qs++[a],rfl,rfl,by rw[O3];rfl,Cf,fun x m=>by rcases Xj.mp m with m | m;exact hq x m;cases Dl.mp m;exact hu a Yb,by rw[Nb];show _+1+_<=_;omega⟩
    .exact kn _ ⟨_,us,qs,rfl,rfl,rfl,Cf,hq,by omega⟩
  obtain⟨s0,us,qs,rfl,hr,rfl,hu,hq,hl⟩:=hi;exact nx _ ⟨qs,_,rfl,hq,by omega⟩
 obtain⟨es,s3,rfl,he,he8⟩:=hi;refine Du s1 ?_;refine Dp (fun rest p=>∃(pp:List (Str×Str)) (s5:Sl) (rs:ZG),p=[.f (mkT root ks),.f (mkT root' Zr),.f (.bl kp),.o (.lst (es.map .str)),s3,.o (.lst (pp.map pr2)),s5,.no,.no]/\rest=rs.map T.str/\(∀x∈rs,x∈ss)/\(∀q∈pp,q.1∈ss/\q.2∈U9)/\pp.length+8 * rs.length<=64) ⟨[],_,SRT.Vr ss,rfl,rfl,fun y m=>(SRT.Z2 ss).mem_iff.mp m,(fun _ m=>nomatch m),by show 0+_<=_;omega⟩ (fun x rest p D' hi nx _=>?_) fun p hi=>?_
 .obtain⟨pp,s5,rs,rfl,hr,hrs,jf,hl⟩:=hi;cases rs with
  | nil=>cases hr
  | cons a rs =>
   cases hr;rw[M5]at hl;have ma:=hrs a Yb;refine Du s2 ?_;refine Vl (fun rest acc p=>∃(qs:List (Str×Str)) (s0:Sl) (us:ZG),p=[s0,.f (.str a),.o (.lst (es.map .str))]/\rest=us.map T.str/\acc=qs.map pr2/\(∀x∈us,x∈U9)/\(∀q∈qs,q.1∈ss/\q.2∈U9)/\qs.length+us.length<=8) ⟨[],_,SRT.Vr U9,rfl,rfl,rfl,fun y m=>(SRT.Z2 U9).mem_iff.mp m,(fun _ m=>nomatch m),by show 0+_<=_;omega⟩ (fun x r acc p K hi ky kn=>?_) fun acc p hi=>?_
   .obtain⟨qs,s0,us,rfl,hr,rfl,hu,hq,hl⟩:=hi;cases us with
    | nil=>cases hr
    | cons b us =>
     cases hr;rw[M5]at hl;have Cf:∀x∈us,x∈U9:=fun x m=>hu x (Y5 _ m);refine Ag (l:=true) ?_;refine Zq (b:=!es.any fun z=>decide (z=a)) (fun _=>?_) fun _=>?_
     .exact ky _ _ ⟨qs++[(a,b)],_,us,rfl,rfl,by rw[O3];rfl,Cf,fun q m=>by rcases Xj.mp m with m | m;exact hq q m;cases Dl.mp m;exact⟨ma,hu b Yb⟩,by rw[Nb];show _+1+_<=_;omega⟩
     .exact kn _ ⟨qs,_,us,rfl,rfl,rfl,Cf,hq,by omega⟩
   obtain⟨qs,s0,us,rfl,hr,rfl,hu,hq,hq8⟩:=hi;refine Q4 (by rw[Y9,Y9];omega) ?_;exact nx _ ⟨pp++qs,_,rs,by rw[O3];rfl,rfl,fun x m=>hrs x (Y5 _ m),fun q m=>by rcases Xj.mp m with m | m;exact jf q m;exact hq q m,by rw[Nb];omega⟩
 obtain⟨pp,s5,rs,rfl,hr,hrs,jf,hl⟩:=hi;refine whS ?_;refine rq (fun n p=>∃(pp:List (Str×Str)) (m:Int) (s2 s4 s7:Sl),p=[.f (mkT root ks),.f (mkT root' Zr),.f (.bl kp),s2,s3,s4,s5,.f (.int m),s7]/\(s2=.o (.lst (es.map .str))\/s2=.f (.lst (es.map .str)))/\s4=.o (.lst (pp.map pr2))/\(∀q∈pp,q.1∈ss/\q.2∈U9)/\pp.length<=64/\n=if m=(pp.length:Nat) then 0 else pp.length+1) (fun n p K hi kt kf=>?_) _ 1000000 _ (by split<;>omega) ⟨pp, -1,_,_,_,rfl,.inl rfl,rfl,jf,by omega,rfl⟩;obtain⟨pp,m,X6,s4,s7,rfl,e2,rfl,jf,hl,hn⟩:=hi;refine c9 (b:=!decide (m=((pp.map pr2).length:Nat))) (K:=fun b=>K b _) (fun z=>?_) fun z=>?_
 .have z:=of_decide_eq_false (Bv z);rw[Y9]at z;rw[if_neg z]at hn;refine kt _ fun D' nx _ _ _=>?_
  have body:wS w (Yv [.f (mkT root ks),.f (mkT root' Zr),.f (.bl kp)]) (.seq (.set 8 (.tup (Zw (.v 5) (.v 3)))) (.seq (.set 5 (.comp (.v 0) (.v 5) (.call "_law_pair_right" (.cons (.v 1) (.cons (.v 2) (.cons (.v 3) (.cons (Zx (.v 0) (ki 0)) (.cons (Zx (.v 0) (ki 1)) .nil)))))) (.v 0) [none,some 0,some 1,some 8] ["_law_pair","_law_one","_law_other","_law_paper"])) (.seq (.set 5 (.comp (.v 0) (.v 5) (.or (.not (.v 1)) (.call "_law_pair_kept" (.cons (.v 2) (.cons (.v 3) (.cons (.v 4) (.cons (Zx (.v 0) (ki 0)) (.cons (Zx (.v 0) (ki 1)) .nil))))))) (.v 0) [none,some 2,some 0,some 1,some 8] ["_law_pair","_law_keeping","_law_one","_law_other","_law_paper"])) .nil))) [.f (mkT root ks),.f (mkT root' Zr),.f (.bl kp),.f (.lst (es.map .str)),s3,.o (.lst (pp.map pr2)),s5,.f (.int ((pp.map pr2).length:Nat)),s7] D':=by
   refine Vl (fun rest acc p=>∃(qs us:List (Str×Str)) (s0:Sl),p=[s0,.f (mkT root ks),.f (mkT root' Zr),.f (Zv true pp es)]/\rest=us.map pr2/\acc=qs.map pr2/\(∀q∈us,q.1∈ss/\q.2∈U9)/\(∀q∈qs,q.1∈ss/\q.2∈U9)/\qs.length+us.length<=pp.length) ⟨[],pp,_,rfl,rfl,rfl,jf,(fun _ m=>nomatch m),by show 0+_<=_;omega⟩ (fun x r acc p K hi ky kn=>?_) fun acc p hi=>?_
   .obtain⟨qs,us,s0,rfl,hr,rfl,hu,hq,hl⟩:=hi;cases us with
    | nil=>cases hr
    | cons q us =>
     cases hr;rw[M5]at hl;obtain⟨m1,m2⟩:=hu q Yb;obtain⟨t,e,ht⟩:=h.f.get m1;obtain⟨t',e',ht'⟩:=h'.f.get m2;have Cf:∀q∈us,q.1∈ss/\q.2∈U9:=fun x m=>hu x (Y5 _ m);refine Zz (hI (lx:=true) (pp:=pp) (es:=es) h.toMk h'.toMk e e' ht ht') fun y hy=>?_;obtain⟨b,hb,rfl⟩:=hy;refine Zq (b:=b) (fun _=>?_) fun _=>?_
     .exact ky _ _ ⟨qs++[q],us,_,rfl,rfl,by rw[O3];rfl,Cf,fun x m=>by rcases Xj.mp m with m | m;exact hq x m;cases Dl.mp m;exact⟨m1,m2⟩,by rw[Nb];show _+1+_<=_;omega⟩
     .exact kn _ ⟨qs,us,_,rfl,rfl,rfl,Cf,hq,by omega⟩
   obtain⟨qs0,us,s0,rfl,hr,rfl,hu,hq0,hl0⟩:=hi;refine Vl (fun rest acc p=>∃(qs us:List (Str×Str)) (s0:Sl),p=[s0,.f (.bl kp),.f (mkT root ks),.f (mkT root' Zr),.f (Zv true pp es)]/\rest=us.map pr2/\acc=qs.map pr2/\(∀q∈us,q.1∈ss/\q.2∈U9)/\(∀q∈qs,q.1∈ss/\q.2∈U9)/\qs.length+us.length<=qs0.length) ⟨[],qs0,_,rfl,rfl,rfl,hq0,(fun _ m=>nomatch m),by show 0+_<=_;omega⟩ (fun x r acc p K hi ky kn=>?_) fun acc p hi=>?_
   .obtain⟨qs,us,s0,rfl,hr,rfl,hu,hq,hl⟩:=hi;cases us with
    | nil=>cases hr
    | cons q us =>
     cases hr;rw[M5]at hl;obtain⟨m1,m2⟩:=hu q Yb;obtain⟨t,e,ht⟩:=h.f.get m1;obtain⟨t',e',ht'⟩:=h'.f.get m2;have Cf:∀q∈us,q.1∈ss/\q.2∈U9:=fun x m=>hu x (Y5 _ m);have yes:=ky (pr2 q) [.f (pr2 q),.f (.bl kp),.f (mkT root ks),.f (mkT root' Zr),.f (Zv true pp es)] ⟨qs++[q],us,_,rfl,rfl,by rw[O3];rfl,Cf,fun x m=>by rcases Xj.mp m with m | m;exact hq x m;cases Dl.mp m;exact⟨m1,m2⟩,by rw[Nb];show _+1+_<=_;omega⟩;refine Zq (b:=!kp) (fun _=>yes) fun _=>?_;refine Zz (hK (lx:=true) (pp:=pp) (es:=es) h.toMk h'.toMk e e' ht ht') fun y hy=>?_;obtain⟨b,hb,rfl⟩:=hy;refine Zq (b:=b) (fun _=>yes) fun _=>?_;exact kn _ ⟨qs,us,_,rfl,rfl,rfl,Cf,hq,by omega⟩
   obtain⟨qs,us,s0,rfl,hr,rfl,hu,hq,hl⟩:=hi;refine nx _ _ ?_ ⟨qs,_,_,_,_,rfl,.inr rfl,rfl,hq,by omega,rfl⟩;rw[hn,Y9];split<;>omega
  rcases e2 with rfl | rfl<;>exact body
 .refine kf _ ?_;have e1:((pp.map pr2).length:Nat)<=64:=by rw[Y9];exact hl
  rcases e2 with rfl | rfl<;>exact rt _ _ ⟨_,⟨pp,es,rfl,⟨hl,he8,fun q m=>⟨h.po _ (jf q m).1,h'.po _ (jf q m).2⟩,fun x m=>h.po _ (he x m)⟩⟩,rfl⟩
def Lc(C:Cs):Prop:=∀{root:Str} {ks ps:ZX} {ss:ZG},Dw root ks ss->cN (C "_law_mates" [.f (mkT root ks),.f (.dct ps)]) fun x=>∃t,Qw 8 t/\x=(.f t,[])
set_option maxHeartbeats 2000000 in
theorem b7{w:W}{root:Str}{ks ps:ZX}{ss:ZG}(h:Dw root ks ss):wF Jd w [.f (mkT root ks),.f (.dct ps)] fun x=>∃t,Qw 8 t/\x=(.f t,[]):=by
 have l8:=h.l8;have s1:=h.f.srt (show ss.length<64 by omega);have n1:(SRT.Vr ss).length=ss.length:=(SRT.Z2 ss).length_eq;have po:∀x∈SRT.Vr ss,x∈V2:=fun x m=>h.po x ((SRT.Z2 ss).mem_iff.mp m);refine Zu rfl fun D rt _=>?_;refine Du s1 ?_;refine Vl (fun rest acc p=>∃(us:ZG) (qs:List (Str×Str)) (s0:Sl),p=[s0,.f (.dct ps)]/\rest=us.map T.str/\acc=qs.map pr2/\(∀x∈us,x∈V2)/\(∀q∈qs,q.1∈V2/\q.2∈V2)/\qs.length+us.length<=8) ⟨SRT.Vr ss,[],_,rfl,rfl,rfl,po,(fun _ m=>nomatch m),by show 0+_<=_;omega⟩ (fun x r acc p K hi ky kn=>?_) fun acc p hi=>?_
 .obtain⟨us,qs,s0,rfl,hr,rfl,hu,hq,hl⟩:=hi;cases us with
  | nil=>cases hr
  | cons a us =>
   cases hr;rw[M5]at hl;have ma:=hu a Yb;have Cf:∀x∈us,x∈V2:=fun x m=>hu x (Y5 _ m);refine Zq (b:=(Zj ps (.inr a)).isSome) (fun _=>?_) fun _=>?_
   .exact ky _ _ ⟨us,qs++[(a,a)],_,rfl,rfl,by rw[O3];rfl,Cf,fun x m=>by rcases Xj.mp m with m | m;exact hq x m;cases Dl.mp m;exact⟨ma,ma⟩,by rw[Nb];show _+1+_<=_;omega⟩
   .exact kn _ ⟨us,qs,_,rfl,rfl,rfl,Cf,hq,by omega⟩
 obtain⟨us,qs,s0,rfl,hr,rfl,hu,hq,hl⟩:=hi;refine Du s1 ?_;refine Vl (fun rest acc p=>∃(us vs:ZG) (s0:Sl),p=[s0,.f (.dct ps)]/\rest=us.map T.str/\acc=vs.map T.str/\(∀x∈us,x∈V2)/\(∀x∈vs,x∈V2)/\vs.length+us.length<=8) ⟨SRT.Vr ss,[],_,rfl,rfl,rfl,po,(fun _ m=>nomatch m),by show 0+_<=_;omega⟩ (fun x r acc p K hi ky kn=>?_) fun acc p hi=>?_
 .obtain⟨us,vs,s0,rfl,hr,rfl,hu,hv,hl⟩:=hi;cases us with
  | nil=>cases hr
  | cons a us =>
   cases hr;rw[M5]at hl;have ma:=hu a Yb;have Cf:∀x∈us,x∈V2:=fun x m=>hu x (Y5 _ m);refine Zq (b:=!(Zj ps (.inr a)).isSome) (fun _=>?_) fun _=>?_
   .exact ky _ _ ⟨us,vs++[a],_,rfl,rfl,by rw[O3];rfl,Cf,fun x m=>by rcases Xj.mp m with m | m;exact hv x m;cases Dl.mp m;exact ma,by rw[Nb];show _+1+_<=_;omega⟩
   .exact kn _ ⟨us,vs,_,rfl,rfl,rfl,Cf,hv,by omega⟩
 obtain⟨us',vs,s0,rfl,Wp,rfl,_,hv,hl'⟩:=hi;exact rt _ _ ⟨_,⟨qs,vs,rfl,⟨by omega,by omega,hq,hv⟩⟩,rfl⟩
theorem pz{x:Str}(h:x∈V2):x∈PZ:=(show ∀x∈V2,x∈PZ by decide +kernel) x h
theorem G1.st{x:Str}(h:x∈PZ):G1 (.str x):=⟨trivial,fun y e=>by cases e;exact h⟩
theorem G1.no{t:T}(n:nf t)(h:∀x,t≠.str x):G1 t:=⟨n,fun x e=>absurd e (h x)⟩
theorem G2.pr{q:Str×Str}(h:q.1∈V2/\q.2∈V2):G2 (pr2 q):=⟨trivial,fun a b e=>by
 injection e with e;injection e with e1 e;injection e with e2 _
 exact⟨e1 ▸ G1.st (pz h.1),e2 ▸ G1.st (pz h.2)⟩⟩
structure OkP(ps es:ZZ):Prop where
 p:∀t∈ps,G2 t/\Sh 3 80 t
 e:∀t∈es,G1 t/\Sh 3 80 t
 l:ps.length<=70
 k:es.length<=30
theorem OkP.thx{ps es:ZZ}(h:OkP ps es):Thx (.tup [.tup ps,.tup es]):=by
 have a:=(Sh.seq (n:=70) h.l (by omega) fun t m=>(h.p t m).2).1;have b:=(Sh.seq (n:=30) h.k (by omega) fun t m=>(h.e t m).2).1
 exact⟨⟨trivial,fun x y e=>by
  injection e with e;injection e with e1 e;injection e with e2 _
  subst e1 e2;exact⟨trivial,trivial,fun ps e t m=>by cases e;exact(h.p t m).1,fun es e t m=>by cases e;exact(h.e t m).1⟩⟩,(Sh.two a b).mono (by omega) (by omega)⟩
theorem PapN.ok{n:Nat}{pp:List (Str×Str)}{es:ZG}(h:PapN n pp es)(hn:n<=29):OkP (pp.map pr2) (es.map .str):=by
 have s:∀{x},x∈V2->Sh 2 70 (.str x):=fun m=>(Tz (Rr _ m)).mono (by omega) (by omega);refine⟨fun t m=>?_,fun t m=>?_,by rw[Y9];have:=h.l;omega,by rw[Y9];have:=h.k;omega⟩
 .obtain⟨q,mq,rfl⟩:=M4.mp m;obtain⟨a,b⟩:=h.p q mq;have l9:=(Rr _ a).1;have r9:=(Rr _ b).1;exact⟨G2.pr ⟨a,b⟩,(Sh.two (d:=2) (w:=9) (w':=9) ⟨(s a).o,l9,Mj _⟩ ⟨(s b).o,r9,Mj _⟩).mono (by omega) (by omega)⟩
 .obtain⟨x,mx,rfl⟩:=M4.mp m;exact⟨G1.st (pz (h.e x mx)),(s (h.e x mx)).mono (by omega) (by omega)⟩
theorem Qw.thx{n:Nat}{t:T}(h:Qw n t)(hn:n<=29):Thx t:=by
 obtain⟨pp,es,rfl,g⟩:=h;exact(g.ok hn).thx
theorem Ie{l:Type}{g:l->T}{P:l->Prop}:∀{ts:ZZ},(∀t∈ts,∃a,P a/\t=g a)->∃as:List l,ts=as.map g/\∀a∈as,P a
 | [],_=>⟨[],rfl,fun _ m=>nomatch m⟩
 | t::ts,h=>by
  obtain⟨a,pa,rfl⟩:=h t Yb;obtain⟨as,rfl,hp⟩:=Ie (ts:=ts) fun t m=>h t (Y5 _ m);exact⟨a::as,rfl,fun b m=>by rcases Ya.mp m with rfl | m;exact pa;exact hp b m⟩
abbrev isP(t:T):Prop:=∃q:Str×Str,(q.1∈V2/\q.2∈V2)/\t=pr2 q
abbrev isE(t:T):Prop:=∃x:Str,x∈V2/\t=.str x
theorem pap_of{n:Nat}{P E:ZZ}(hp:∀t∈P,isP t)(he:∀t∈E,isE t)(l:P.length<=64)(k:E.length<=n):Qw n (.tup [.tup P,.tup E]):=by
 obtain⟨pp,rfl,h1⟩:=Ie hp;obtain⟨es,rfl,h2⟩:=Ie he;exact⟨pp,es,rfl,by rw[Y9]at l;exact l,by rw[Y9]at k;exact k,h1,h2⟩
theorem T3{ts:ZZ}{n:Nat}:(Yx ts none (some (n:Int))).length<=n:=by rw[W3,j7];omega
theorem C4{R:T->Prop}{a b:ZZ}(ha:∀t∈a,R t)(hb:∀t∈b,R t):∀t∈a++b,R t:=fun t m=>by
 rcases Xj.mp m with m | m
 .exact ha t m
 .exact hb t m
theorem mem1{R:T->Prop}{x:T}(h:R x):∀t∈[x],R t:=fun t m=>by cases Dl.mp m;exact h
theorem cT{ts:ZZ}{lo hi:ZC}:(Yx ts lo hi).length<=ts.length:=Ig
theorem Dc{R:T->Prop}{a:ZZ}{lo hi:ZC}(h:∀t∈a,R t):∀t∈Yx a lo hi,R t:=fun t m=>h t (Zzd m)
theorem va{ts:ZZ}{i:Int}{n:Nat}(h0:0<=i)(h1:i<=ts.length)(l:ts.length<=n):(Yx ts none (some i)).length+(Yx ts (some i) none).length<=n:=by
 rw[Iy h0 h1,Kw h0 h1,j7,List.length_drop];omega
theorem Xr{ts:ZZ}{i:Int}{n:Nat}(h0:0<=i)(h1:i<=ts.length)(l:ts.length<=n):(Yx ts none (some i)).length+(Yx ts (some (i+1)) none).length<=n:=by
 rw[Iy h0 h1];by_cases z:i+1<=ts.length
 .rw[Kw (by omega) z,j7,List.length_drop];omega
 .have e:Yx ts (some (i+1)) none=[]:=by
   unfold Yx;rw[List.drop_eq_nil_of_le (by obtain⟨k,rfl⟩:=Int.eq_ofNat_of_zero_le h0;rw[show ((k:Int)+1)=((k+1:Nat):Int) from rfl,HT.Rl];omega),List.take_nil]
  rw[e,j7];show _+0<=n;omega
set_option maxHeartbeats 4000000 in
theorem Zzh{w:W}(hD:Ug w.C){root root':Str}{ks Zr:ZX}{ss U9:ZG}{n:Nat}{t:T}(h:Dw root ks ss)(h':Dw root' Zr U9)(ht:Qw n t)(hn:16<=n)(hn':n<=20):Td G6 w [.f (mkT root ks),.f (mkT root' Zr),.f t] (wj (Qw (n+1))):=by
 intro z0 i0 j0 k0 tp;have sl:=sizeLine_eq;obtain⟨pp,es,rfl,g⟩:=ht;have l8:=h.l8;have l8':=h'.l8;have l0:=h.l0;have l0':=h'.l0;have s1:=h.f.srt (show ss.length<64 by omega);have s2:=h'.f.srt (show U9.length<64 by omega);have n1:(SRT.Vr ss).length=ss.length:=(SRT.Z2 ss).length_eq;have n2:(SRT.Vr U9).length=U9.length:=(SRT.Z2 U9).length_eq;have po:∀x∈SRT.Vr ss,x∈V2:=fun x m=>h.po x ((SRT.Z2 ss).mem_iff.mp m);have po':∀x∈SRT.Vr U9,x∈V2:=fun x m=>h'.po x ((SRT.Z2 U9).mem_iff.mp m);have lk':=h'.f.len;have hP:∀t∈pp.map pr2,isP t:=fun t m=>by obtain⟨q,mq,rfl⟩:=M4.mp m;exact⟨q,g.p q mq,rfl⟩
 have hE:∀t∈es.map T.str,isE t:=fun t m=>by obtain⟨x,mx,rfl⟩:=M4.mp m;exact⟨x,g.e x mx,rfl⟩
 have lp:(pp.map pr2).length<=64:=by rw[Y9];exact g.l
 have le:(es.map T.str).length<=n:=by rw[Y9];exact g.k
 have eP:Zv false pp es=.tup [.tup (pp.map pr2),.tup (es.map .str)]:=rfl;rw[eP];generalize pp.map pr2=P at *;generalize es.map T.str=E at *;refine Zu rfl fun D rt _=>?_;refine Zn hD tp (by omega) (by omega) fun at_ z0 i0 j0 k0 a0 a1 tp=>?_;refine Zn hD tp (by omega) (by omega) fun to_ z0 i0 j0 k0 b0 b1 tp=>?_;refine Du s1 ?_;refine Zn hD tp (by rw[Y9];omega) (by rw[Y9];omega) fun r z0 i0 j0 k0 r0 r1 tp=>?_;refine Vp r0 r1 fun x hx=>?_;have hx:=po x hx;refine Du s2 ?_;refine Zn hD tp (m:=((Zr.length:Nat):Int)) (by omega) (by omega) fun r z0 i0 j0 k0 r0 r1 tp=>?_;refine Vp r0 (by rw[Y9];omega) fun y hy=>?_;have hy:=po' y hy;refine Zn hD tp (by omega) (by omega) fun c z0 i0 j0 k0 c0 c1 tp=>?_;have fin:∀{P' E':ZZ} {q:List Sl},(∀t∈P',isP t)->(∀t∈E',isE t)->P'.length<=64->E'.length<=n+1->D.rt (.f (.tup [.tup P',.tup E'])) (.o (Zg z0 i0 j0 k0)::.f (mkT root ks)::.f (mkT root' Zr)::.f (.tup [.tup P,.tup E])::q):=fun hp he l k=>rt _ _ ⟨_,_,⟨_,rfl,pap_of hp he l k⟩,tp,rfl⟩;show wS w _ _ [.o (Zg z0 i0 j0 k0),.f (mkT root ks),.f (mkT root' Zr),.f (.tup [.tup P,.tup E]),.f (.tup P),.f (.tup E),.f (.int at_),.f (.int to_),.o (.lst ((SRT.Vr ss).map .str)),.f (.str x),.f (.str y),.f (.int c)] _;refine Zq (b:=decide (c=0)) (fun _=>?_) fun _=>?_
 .refine Mq (a:=Yx P none (some at_)) (b:=Yx P (some (at_+1)) none) (by have:=cT (ts:=P) (lo:=none) (hi:=some at_);have:=cT (ts:=P) (lo:=some (at_+1)) (hi:=none);omega) ?_;exact fin (C4 (Dc hP) (Dc hP)) hE (by rw[Nb];exact Xr a0 (by omega) lp) (by omega)
 refine Zq (b:=decide (c=1)) (fun _=>?_) fun _=>?_
 .refine Mq (a:=Yx P none (some at_)) (b:=[pr2 (x,y)]) (by have:=cT (ts:=P) (lo:=none) (hi:=some at_);show _+1<=_;omega) ?_;refine Mq (a:=Yx P none (some at_)++[pr2 (x,y)]) (b:=Yx P (some at_) none) (by rw[Nb];have:=cT (ts:=P) (lo:=none) (hi:=some at_);have:=cT (ts:=P) (lo:=some at_) (hi:=none);show _+1+_<=_;omega) ?_;exact fin (Dc (C4 (C4 (Dc hP) (mem1 ⟨(x,y),⟨hx,hy⟩,rfl⟩)) (Dc hP))) hE (T3 (n:=64)) (by omega)
 refine Zq (b:=decide (c=2)) (fun _=>?_) fun _=>?_
 .refine Mq (a:=Yx E none (some to_)) (b:=Yx E (some (to_+1)) none) (by have:=cT (ts:=E) (lo:=none) (hi:=some to_);have:=cT (ts:=E) (lo:=some (to_+1)) (hi:=none);omega) ?_;exact fin hP (C4 (Dc hE) (Dc hE)) lp (U8 (by rw[Nb];exact Xr b0 (by omega) le) (by omega))
 refine Zq (b:=decide (c=3)) (fun _=>?_) fun _=>?_
 .refine Mq (a:=Yx E none (some to_)) (b:=[.str x]) (by have:=cT (ts:=E) (lo:=none) (hi:=some to_);show _+1<=_;omega) ?_;refine Mq (a:=Yx E none (some to_)++[.str x]) (b:=Yx E (some to_) none) (by rw[Nb];have:=cT (ts:=E) (lo:=none) (hi:=some to_);have:=cT (ts:=E) (lo:=some to_) (hi:=none);show _+1+_<=_;omega) ?_;exact fin hP (Dc (C4 (C4 (Dc hE) (mem1 ⟨x,hx,rfl⟩)) (Dc hE))) lp (U8 (T3 (n:=16)) (by omega))
 refine Zq (b:=decide (c=4)) (fun _=>?_) fun _=>?_
 .refine Mq (a:=P.reverse) (b:=Yx P none (some at_)) (by rw[List.length_reverse];have:=cT (ts:=P) (lo:=none) (hi:=some at_);omega) ?_;refine Mq (a:=E.reverse) (b:=E) (by rw[List.length_reverse];omega) ?_;exact fin (Dc (C4 (fun t m=>hP t (List.mem_reverse.mp m)) (Dc hP))) (Dc (C4 (fun t m=>hE t (List.mem_reverse.mp m)) hE)) (T3 (n:=64)) (U8 (T3 (n:=16)) (by omega))
 refine Zq (b:=decide (c=5)) (fun _=>?_) fun _=>?_
 .refine Mq (a:=Yx P (some at_) none) (b:=Yx P none (some at_)) (by have:=cT (ts:=P) (lo:=none) (hi:=some at_);have:=cT (ts:=P) (lo:=some at_) (hi:=none);omega) ?_;exact fin (C4 (Dc hP) (Dc hP)) hE (by rw[Nb,Nat.add_comm];exact va a0 (by omega) lp) (by omega)
 refine Zq (b:=decide (c=6)) (fun _=>?_) fun _=>?_
 .have mul:∀{t:T} {m:Int} {Q:Sl->Prop},0<=m->m<=1000->Q (.f (.tup (List.replicate m.toNat t)))->on (ao .mul (.tup [t]) (.int m)) Q:=fun h0 h1 q=>ifS ⟨h0,h1⟩ q;have rep:∀{k:Nat} {t:T} {R:T->Prop},R t->∀u∈List.replicate k t,R u:=fun h u m=>by rw[List.eq_of_mem_replicate m];exact h
  refine mul (t:=pr2 (x,x)) (m:=if (Zj Zr (.inr x)).isSome=true then 1 else 0) (by split<;>omega) (by split<;>omega) ?_;refine Mq (a:=Yx P none (some at_)) (by rw[List.length_replicate];have:=cT (ts:=P) (lo:=none) (hi:=some at_);split<;>omega) ?_;refine mul (t:=.str x) (m:=1+to_) (by omega) (by omega) ?_;exact fin (Dc (C4 (Dc hP) (rep ⟨(x,x),⟨hx,hx⟩,rfl⟩))) (rep ⟨x,hx,rfl⟩) (T3 (n:=64)) (by rw[List.length_replicate];omega)
 refine Du s2 ?_;refine Vl (fun rest acc p=>∃(s0:Sl) (us:ZG),p=[s0,.f (.str x)]/\rest=us.map T.str/\(∀x∈us,x∈V2)/\(∀t∈acc,isP t)/\acc.length+us.length<=8) ⟨_,SRT.Vr U9,rfl,rfl,po',(fun _ m=>nomatch m),by show 0+_<=_;omega⟩ (fun u r acc p K hi ky kn=>?_) fun acc p hi=>?_
 .obtain⟨s0,us,rfl,hr,hu,ha,hl⟩:=hi;cases us with
  | nil=>cases hr
  | cons a us =>
   cases hr;rw[M5]at hl;exact ky _ _ ⟨_,us,rfl,rfl,fun x m=>hu x (Y5 _ m),C4 ha (mem1 ⟨(x,a),⟨hx,hu a Yb⟩,rfl⟩),by rw[Nb];show _+1+_<=_;omega⟩
 obtain⟨s0,us,rfl,hr,hu,ha,hl⟩:=hi;refine Mq (a:=P) (b:=acc) (by omega) ?_;exact fin (Dc (C4 hP ha)) hE (T3 (n:=64)) (by omega)
noncomputable def Aj(ds:ZZ)(F:T):ZX:=[(.inr "a",Y6 [.tup [.int 1,.str "fb",.str "ab",.tup ds]] []),(.inr "ab",F)]
theorem Mg{F:T}{ds:ZZ}(hF:Shp ["a","ab"] F)(hn:xi F)(hd:ds=[]\/∃d,ds=[d]/\Y8 F d/\Dx d):Dw "a" (Aj ds F) ["a","ab"]:=by
 have hD:lb (.tup ds):=by
  rcases hd with rfl | ⟨d,rfl,_,x⟩
  .exact .no
  .exact .is x
 refine⟨⟨rfl,by decide,fun x m=>m,fun p m=>?_⟩,by decide,by decide,by decide,by decide,fun x t e ps us et p mp=>?_⟩
 .rcases Ya.mp m with rfl | m
  .exact .record ⟨by show 1<=8;omega,by show ([1]:ZT).Nodup;decide,fun p m=>by cases Dl.mp m;exact .mk (by decide) (by show _/\_;decide +kernel) (by decide) hD⟩ ⟨[],rfl,Mj _,fun _ m=>nomatch m⟩
  .cases Dl.mp m;exact hF
 .subst et
  have:(x = "a" /\ ps=[.tup [.int 1,.str "fb",.str "ab",.tup ds]]):=by
   obtain⟨q,mq,eq,e2⟩:=D6 e;rcases Ya.mp mq with rfl | mq
   .cases e2;cases eq;exact⟨rfl,rfl⟩
   .cases Dl.mp mq;exact absurd eq (hn ps us)
  obtain⟨_,rfl⟩:=this;cases Dl.mp mp;intro n y o d ep;cases ep;rcases hd with h | ⟨d',h,fx,_⟩
  .cases h
  .cases h;exact⟨F,rfl,fx⟩
def Ra(r:Sl):Prop:=∃ks Zr,r=.f (.tup [mkT "a" ks,mkT "a" Zr])/\Dw "a" ks ["a","ab"]/\Dw "a" Zr ["a","ab"]
set_option maxHeartbeats 2000000 in
theorem cf{w:W}(hD:Ug w.C):Td Js w [] Ra:=by
 intro z0 i0 j0 k0 tp;refine Zu rfl fun D rt _=>?_;refine Zn hD tp (by omega) (by omega) fun m z0 i0 j0 k0 m0 m1 tp=>?_;refine Zn hD tp (by omega) (by omega) fun r z0 i0 j0 k0 r0 r1 tp=>?_;refine ixP r0 (by show r<3;omega) fun x _ mx=>?_;refine Zn hD tp (by omega) (by omega) fun v z0 i0 j0 k0 v0 v1 tp=>?_;have bn:∀{i:Int},0<=i->i<=20->Fg i:=fun a b=>⟨by omega,by omega⟩;have nine:Y8 (.tup [.str "whole",.int 0,.int 9]) (.int v)/\Dx (.int v):=⟨.whole v0 (by omega),.int (bn v0 (by omega))⟩;have w9:Shp ["a","ab"] (.tup [.str "whole",.int 0,.int 9]):=.whole (bn (by omega) (by omega)) (bn (by omega) (by omega)) (by omega);have no9:xi (.tup [.str "whole",.int 0,.int 9]):=fun _ _ e=>by cases e
 rcases Ya.mp mx with rfl | mx
 .refine Zn hD tp (m:=m+4) (by omega) (by omega) fun l z0 i0 j0 k0 l0 l1 tp=>?_;refine Q4 (a:=Sl.f (.str (repS "a" l.toNat))) ⟨by omega,by omega,by decide⟩ ?_;refine rt _ _ ⟨_,_,⟨Aj [] (.tup [.str "text",.int m]),Aj [.str (repS "a" l.toNat)] (.tup [.str "text",.int (m+3)]),rfl,Mg (.text m0 (by omega)) (fun _ _ e=>by cases e) (.inl rfl),Mg (.text (by omega) (by omega)) (fun _ _ e=>by cases e) (.inr ⟨_,rfl,.text ?_,.str (Qu ?_ ?_)⟩)⟩,tp,rfl⟩
  .rw[Bj];show ((l.toNat * 1:Nat):Int)<=_;omega
  .show l.toNat * 1<=9;omega
  .decide +kernel
 .rcases Ya.mp mx with rfl | mx
  .exact rt _ _ ⟨_,_,⟨Aj [] (.tup [.str "truth"]),Aj [.int v] (.tup [.str "whole",.int 0,.int 9]),rfl,Mg .truth (fun _ _ e=>by cases e) (.inl rfl),Mg w9 no9 (.inr ⟨_,rfl,nine⟩)⟩,tp,rfl⟩
  .cases Dl.mp mx;exact rt _ _ ⟨_,_,⟨Aj [] (.tup [.str "whole",.int m,.int 6]),Aj [.int v] (.tup [.str "whole",.int 0,.int 9]),rfl,Mg (.whole (bn m0 (by omega)) (bn (by omega) (by omega)) (by omega)) (fun _ _ e=>by cases e) (.inl rfl),Mg w9 no9 (.inr ⟨_,rfl,nine⟩)⟩,tp,rfl⟩
theorem Qw.mono{n m:Nat}{t:T}(h:Qw n t)(l:n<=m):Qw m t:=by
 obtain⟨pp,es,e,g⟩:=h;exact⟨pp,es,e,g.l,U8 g.k l,g.p,g.e⟩
def lj(C:Cs):Prop:=∀{root root':Str} {ks Zr:ZX} {ss U9:ZG} {n:Nat} {t:T},Dw root ks ss->Dw root' Zr U9->Qw n t->16<=n->n<=20->Tp C "_law_bent" [.f (mkT root ks),.f (mkT root' Zr),.f t] (wj (Qw (n+1)))
theorem Qc{t:T}(n:nf t)(h:∀a b,t≠.tup [a,b])(s:Sh 7 100000 t):Thx t:=⟨⟨n,fun a b e=>absurd e (h a b)⟩,s⟩
noncomputable def odd5(ps es:ZZ):ZZ:=[.non,.tup [],.lst [.tup ps,.tup es],.tup [.tup ps,.tup es,.tup []],.tup [.tup ps,.lst []]]
theorem odd_ok{ps es:ZZ}(h:OkP ps es):∀t∈odd5 ps es,Thx t:=by
 obtain⟨a,a'⟩:=Sh.seq (n:=70) h.l (by omega) fun t m=>(h.p t m).2;obtain⟨b,b'⟩:=Sh.seq (n:=30) h.k (by omega) fun t m=>(h.e t m).2;have e0:Sh 4 5670 (.tup []):=⟨⟨Mj _,trivial⟩,Mj _,by decide⟩;have e1:Sh 4 5670 (.lst []):=⟨⟨Mj _,trivial⟩,Mj _,by decide⟩;have b1:Sh 4 5670 (.tup es):=b.mono (by omega) (by omega);intro t m;simp only[odd5,Ya,J5,or_false]at m;rcases m with rfl | rfl | rfl | rfl | rfl
 .exact Qc trivial (fun _ _ e=>nomatch e) ⟨trivial,Mj _,Mj _⟩
 .exact Qc trivial (fun _ _ e=>nomatch e) (e0.mono (by omega) (by omega))
 .exact Qc trivial (fun _ _ e=>nomatch e) ((Sh.seq (n:=3) (d:=4) (w:=5670) (ts:=[.tup ps,.tup es]) (by simp) (by omega) (by simp[a,b1])).2.mono (by omega) (by omega))
 .exact Qc trivial (fun _ _ e=>nomatch e) ((Sh.seq (n:=3) (d:=4) (w:=5670) (ts:=[.tup ps,.tup es,.tup []]) (by simp) (by omega) (by simp[a,b1,e0])).1.mono (by omega) (by omega))
 .exact⟨⟨trivial,fun c d e=>by
   injection e with e;injection e with e2 e;injection e with e3 _
   subst e2 e3;exact⟨trivial,trivial,(fun q e t m=>by cases e;exact(h.p t m).1),fun q e=>nomatch e⟩⟩,(Sh.two a e1).mono (by omega) (by omega)⟩
theorem it_ok{w:W}(hG:Ln w.C)(hP:Mn w.C)(hA:Lc w.C){root root':Str}{ks Zr:ZX}{ss U9:ZG}(hm:Dw root ks ss)(Gu:Dw root' Zr U9){K:Sl->P->Prop}{s0 s1 s5 s6 s7:Sl}{gt:T}
  (k:∀g2 mt,Qw 8 g2->Qw 8 mt->K (.o (.lst [gt,g2,mt])) [s0,s1,.f (mkT root ks),.f (mkT root' Zr),.f gt,s5,s6,s7]) :
  wE w (.lst (Vv (.v 4) (.call "_law_great" (Vv (.v 2) (.v 3) (.k (.bl false)))) (.call "_law_mates" (Zw (.v 2) (.call "_law_prices" (Zt (.v 2))))))) [s0,s1,.f (mkT root ks),.f (mkT root' Zr),.f gt,s5,s6,s7] K:=by
 refine Zz (hG (kp:=false) hm Gu) fun y hy=>?_;obtain⟨gt2,hg2,rfl⟩:=hy;refine Zz (hP (root:=root) hm.f hm.l8) fun y hy=>?_;obtain⟨ps,_,_,rfl⟩:=hy;refine Zz (hA (ps:=ps) hm) fun y hy=>?_;obtain⟨mt,hmt,rfl⟩:=hy;exact k _ _ hg2 hmt
theorem it6_ok{w:W}{K:Sl->P->Prop}{s0 s1 s2 s3 s5 s6 s7:Sl}{a b:ZZ}
  (k:K (.o (.lst (odd5 a b))) [s0,s1,s2,s3,.f (.tup [.tup a,.tup b]),s5,s6,s7]) :
  wE w (.lst (.cons (.k .non) (.cons (.tup .nil) (.cons (.pr .list (Zt (.v 4))) (.cons (U5 (.v 4) (.tup (Zt (.tup .nil)))) (.cons (.tup (Zw (Zx (.v 4) (ki 0)) (.lst .nil))) .nil)))))) [s0,s1,s2,s3,.f (.tup [.tup a,.tup b]),s5,s6,s7] K:=by
 exact k
theorem Zxl{w:W}{pt:Nat->Bool}{tg it:E}{b c:S}{p:P}{D:En}(h1:Ji pt tg=true)(h:wE w it p fun r q=>Cy r fun t=>on (Fc t) fun xs=>Nt (fun x s D=>on (asg tg x s) fun s1=>wS w pt b s1 D) xs q ⟨fun q=>wS w pt c q D,D.rt,D.bk,D.ct⟩):wS w pt (.seq (.loop tg it b) c) p D:=by
 show if Ji pt tg=true then _ else False
 rw[if_pos h1];exact h
noncomputable def stS:Nat->S->S
 | 0,.seq a _=>a
 | n+1,.seq _ r=>stS n r
 | _,s=>s
section
variable{w:W}{root root':Str}{ks Zr:ZX}{ss U9:ZG}{D:En}{c:S}{zs z:ZT}{i j k:Int}
theorem law_4(hG:Ln w.C)(hm:Dw root ks ss)(Gu:Dw root' Zr U9)(q:∀gt,Qw 8 gt->wS w (Yv [.f (.lst (zs.map .int))]) c [.f (.lst (zs.map .int)),.o (Zg z i j k),.f (mkT root ks),.f (mkT root' Zr),.f gt,.no,.no,.no] D):wS w (Yv [.f (.lst (zs.map .int))]) (.seq (stS 4 Nk) c) [.f (.lst (zs.map .int)),.o (Zg z i j k),.f (mkT root ks),.f (mkT root' Zr),.no,.no,.no,.no] D:=by
 refine Zz (hG (kp:=true) hm Gu) fun y hy=>?_;obtain⟨gt,hg,rfl⟩:=hy;exact q gt hg
set_option maxHeartbeats 4000000 in
theorem law_5(hG:Ln w.C)(hP:Mn w.C)(hA:Lc w.C)(hR:PRt w.C)(hB:lj w.C)(hm:Dw root ks ss)(Gu:Dw root' Zr U9){gt:T}(hg:Qw 8 gt)(tp:TP (Zg z i j k))(rt:∀r p,D.rt r p->D.rt r p)(q:∀z i j k s5 s6,TP (Zg z i j k)->wS w (Yv [.f (.lst (zs.map .int))]) c [.f (.lst (zs.map .int)),.o (Zg z i j k),.f (mkT root ks),.f (mkT root' Zr),.f gt,s5,s6,.no] D):wS w (Yv [.f (.lst (zs.map .int))]) (.seq (stS 5 Nk) c) [.f (.lst (zs.map .int)),.o (Zg z i j k),.f (mkT root ks),.f (mkT root' Zr),.f gt,.no,.no,.no] D:=by
 refine Zxl rfl ?_;refine it_ok hG hP hA hm Gu fun gt2 mt hg2 hmt=>?_;refine Dh (fun rest p=>∃z i j k s5 s6,p=[.f (.lst (zs.map .int)),.o (Zg z i j k),.f (mkT root ks),.f (mkT root' Zr),.f gt,s5,s6,.no]/\TP (Zg z i j k)/\∀t∈rest,Qw 8 t) ⟨z,i,j,k,_,_,rfl,tp,fun t m=>?_⟩ (fun x rest p D' hi nx Tq=>?_) fun p hi=>?_
 .rcases Ya.mp m with rfl | m
  .exact hg
  .rcases Ya.mp m with rfl | m
   .exact hg2
   .cases Dl.mp m;exact hmt
 .obtain⟨z,i,j,k,s5,s6,rfl,tp,hr⟩:=hi;refine Dh (fun rest p=>∃z i j k n t s6,p=[.f (.lst (zs.map .int)),.o (Zg z i j k),.f (mkT root ks),.f (mkT root' Zr),.f gt,.f t,s6,.no]/\TP (Zg z i j k)/\Qw n t/\16<=n/\n+rest.length<=20) ⟨z,i,j,k,16,x,_,rfl,tp,(hr x Yb).mono (by omega),N4 _,by show 16+4<=20;omega⟩ (fun y rest' p D2 hi nx2 rt2=>?_) fun p hi=>?_
  .obtain⟨z,i,j,k,n,t,s6,rfl,tp,ht,h1,h2⟩:=hi;rw[M5]at h2;refine Zz (hR hm Gu (ht.thx (by omega))) fun y ey=>?_;subst ey;refine Lp (hB hm Gu ht h1 (by omega)) tp fun r z i j k hr tp=>?_;obtain⟨t',rfl,ht'⟩:=hr;exact nx2 _ ⟨z,i,j,k,n+1,t',_,rfl,tp,ht',by omega,by omega⟩
  .obtain⟨z,i,j,k,n,t,s6,rfl,tp,_⟩:=hi;exact nx _ ⟨z,i,j,k,_,_,rfl,tp,fun t m=>hr t (Y5 _ m)⟩
 obtain⟨z,i,j,k,s5,s6,rfl,tp,_⟩:=hi;exact q z i j k s5 s6 tp
set_option maxHeartbeats 4000000 in
theorem law_6(hR:PRt w.C)(hm:Dw root ks ss)(Gu:Dw root' Zr U9){a b:ZZ}(ok:OkP a b){s5 s6:Sl}(q:∀s7,wS w (Yv [.f (.lst (zs.map .int))]) c [.f (.lst (zs.map .int)),.o (Zg z i j k),.f (mkT root ks),.f (mkT root' Zr),.f (.tup [.tup a,.tup b]),s5,s6,s7] D):wS w (Yv [.f (.lst (zs.map .int))]) (.seq (stS 6 Nk) c) [.f (.lst (zs.map .int)),.o (Zg z i j k),.f (mkT root ks),.f (mkT root' Zr),.f (.tup [.tup a,.tup b]),s5,s6,.no] D:=by
 refine Zxl rfl ?_;refine it6_ok ?_;refine Dh (fun rest p=>∃s7,p=[.f (.lst (zs.map .int)),.o (Zg z i j k),.f (mkT root ks),.f (mkT root' Zr),.f (.tup [.tup a,.tup b]),s5,s6,s7]/\∀t∈rest,Thx t) ⟨_,rfl,odd_ok ok⟩ (fun x rest p D' hi nx Tq=>?_) fun p hi=>?_
 .obtain⟨s7,rfl,hr⟩:=hi;refine Zz (hR hm Gu (hr x Yb)) fun y ey=>?_;subst ey;exact nx _ ⟨_,rfl,fun t m=>hr t (Y5 _ m)⟩
 obtain⟨s7,rfl,_⟩:=hi;exact q s7
set_option maxHeartbeats 4000000 in
theorem law_7(hP:Mn w.C)(hA:Lc w.C)(hR:PRt w.C)(hC:Tp w.C "_law_codes" [] Ra){s2 s3 s4 s5 s6 s7:Sl}(tp:TP (Zg z i j k))(q:∀s p,wS w (Yv [.f (.lst (zs.map .int))]) c (s::p) D):wS w (Yv [.f (.lst (zs.map .int))]) (.seq (stS 7 Nk) c) [.f (.lst (zs.map .int)),.o (Zg z i j k),s2,s3,s4,s5,s6,s7] D:=by
 refine Dh (fun rest p=>∃z i j k s2 s3 s6,p=[.f (.lst (zs.map .int)),.o (Zg z i j k),s2,s3,s4,s5,s6,s7]/\TP (Zg z i j k)) ⟨z,i,j,k,_,_,_,rfl,tp⟩ (fun x rest p D' hi nx Tq=>?_) fun p hi=>?_
 .obtain⟨z,i,j,k,s2,s3,s6,rfl,tp⟩:=hi;refine Lp hC tp fun r z i j k hr tp=>?_;obtain⟨ka,kb,rfl,ha,hb⟩:=hr;show wS w _ _ [.f (.lst (zs.map .int)),.o (Zg z i j k),.f (mkT "a" ka),.f (mkT "a" kb),s4,s5,_,s7] _;refine Zz (hP (root:="a") ha.f ha.l8) fun y hy=>?_;obtain⟨ps,_,_,rfl⟩:=hy;refine Zz (hA (ps:=ps) ha) fun y hy=>?_;obtain⟨mt,hmt,rfl⟩:=hy;refine Zz (hR ha hb (hmt.thx (by omega))) fun y ey=>?_;subst ey;exact nx _ ⟨z,i,j,k,_,_,_,rfl,tp⟩
 obtain⟨z,i,j,k,s2,s3,s6,rfl,tp⟩:=hi;exact q _ _
end
set_option maxHeartbeats 4000000 in
theorem law_ok{w:W}(hT:Zqy w.C)(hD:Ug w.C)(hM:Tp w.C "_law_make" [] Ws)(hU:xu w.C)(hG:Ln w.C)(hP:Mn w.C)(hA:Lc w.C)(hR:PRt w.C)(hC:Tp w.C "_law_codes" [] Ra)(hB:lj w.C)(zs:ZT):wF Kq w [.f (.lst (zs.map .int))] fun x=>x=(.f (.bl true),[]):=by
 refine Zu rfl fun D rt _=>?_;refine Zz (hT zs) fun x hx=>?_;obtain⟨t,tp,rfl⟩:=hx;obtain⟨z0,i0,j0,k0,rfl,g⟩:=id tp;refine Lp hM tp fun r z0 i0 j0 k0 hr tp=>?_;obtain⟨root,ks,ss,rfl,hm⟩:=hr;refine Lp (hU hm) tp fun r z0 i0 j0 k0 hr tp=>?_;obtain⟨root',Zr,U9,rfl,Gu⟩:=hr
 have fin:∀{root':Str} {Zr:ZX} {U9:ZG} (z0:ZT) (i0 j0 k0:Int),Dw root' Zr U9->TP (Zg z0 i0 j0 k0)->wS w (Yv [.f (.lst (zs.map .int))]) (Yz 4 Nk) [.f (.lst (zs.map .int)),.o (Zg z0 i0 j0 k0),.f (mkT root ks),.f (mkT root' Zr),.no,.no,.no,.no] D:=fun {root' Zr U9} z0 i0 j0 k0 Gu tp=>by
  refine law_4 (c:=Yz 5 Nk) hG hm Gu fun gt hg=>?_;refine law_5 (c:=Yz 6 Nk) hG hP hA hR hB hm Gu hg tp (fun _ _ z=>z) fun z i j k s5 s6 tp=>?_;obtain⟨pp,es,rfl,gp⟩:=id hg;refine law_6 (c:=Yz 7 Nk) (a:=pp.map pr2) (b:=es.map .str) hR hm Gu (gp.ok (by omega)) fun s7=>?_;refine law_7 (c:=Yz 8 Nk) hP hA hR hC tp fun s p=>?_;exact rt _ _ rfl
 refine Zn hD tp (by omega) (by omega) fun c z0 i0 j0 k0 c0 c1 tp=>?_;refine Zq (b:=decide (c=0)) (fun _=>?_) fun _=>fin _ _ _ _ Gu tp;refine Lp hM tp fun r z0 i0 j0 k0 hr tp=>?_;obtain⟨root',Zr,U9,rfl,Gu⟩:=hr;exact fin _ _ _ _ Gu tp
noncomputable def tabA:List (Str×Df):=("may_be_left_out",Y3)::("form_of",Mc)::("member_of",Jw)::("is_whole",G7)::("is_text",Mb)::("is_single_value",Y4)::("bounds_of",Ju)::("rises",R1)::("are_pairs",Vd)::("are_labels",Uo)::("is_value",G8)::("is_right_through",Yn)::("parts_in",Ge)::("parts_in_row",Va)::("parts_in_map",Vo)::("tells_alike",Uj)::("parts_of_both",Vf)::("parts_of_rows",Yw)::("parts_of_maps",Vg)::("holds",R2)::("is_right_pair",Vm)::("are_right_fields",Yr)::("may_lack",G0)::("are_left_out_alike",Yy)::("is_right_arm",V0)::("is_name",Ui)::("is_form",Mm)::("item_sort",Jp)::("lets_read",Jv)::("is_paper",G9)::("is_right_empty",Vw)::("lets_keep",Jy)::("is_kept_pair",V1)::("is_kept_field",Yu)::("may_go",Bu)::("value_as",Gi)::[]
noncomputable def tabB:List (Str×Df):=("_law_tape",G3)::("_law_draw",G5)::("_law_price",Jg)::("_law_prices",Uu)::("_law_light",Jt)::("_law_word",U6)::("_law_names",Jm)::("_law_plain",Jf)::("_law_default",Uy)::("_law_numbers",Uw)::("_law_parts",Jb)::("_law_struck",Up)::("_law_make",G4)::("_law_number_turned",Yf)::("_law_shape_turned",Yt)::("_law_fixed",Jl)::("_law_turned",Uh)::("_law_holds",Jc)::("_law_alike",Jh)::("_law_fields_right",Yc)::("_law_pair_right",Vj)::("_law_right",Jk)::("_law_bounds",Ve)::("_law_is_void",Uv)::("_law_is_paper",Vi)::("_law_let_by",Ua)::("_law_great",Jn)::("_law_mates",Jd)::("_law_bent",G6)::("_law_comes",Jr)::("_law_pair_kept",Vb)::("_law_codes",Js)::("law",Kq)::[]
def tabL:List (Str×Df):=tabA++tabB
noncomputable def tab(f:Str):Option Df:=(tabL.find? fun p=>decide (p.1=f)).map (·.2)
noncomputable def gl(x:Str):Option T:=if x = "SIGNS" then some (.str SIG) else if x = "LETTERS" then some (.str "abcdefghijklmnopqrstuvwxyz") else if x = "LONGEST_NAME" then some (.int 8) else if x = "is_name" then some (.fn x) else none
abbrev C(n:Nat):Cs:=Cn tab gl n
structure Lv(n:Nat)(D:Cs):Prop where
 e:D=C n
theorem Vt{n:Nat}{D:Cs}{f:Str}{d:Df}{as:List Sl}{Q:Sl×ZZ->Prop}(lv:Lv (n+1) D)(h:∀D xe,Lv n D->wF d ⟨D,gl,xe⟩ as Q)(e:tab f=some d:=by kernel_rfl):cN (D f as) Q:=by
 obtain rfl:=lv.e;exact callW e fun xe=>h _ xe ⟨rfl⟩
theorem wm{n:Nat}{D:Cs}{f:Str}{d:Df}{as:List Sl}{R:Sl->Prop}(lv:Lv (n+1) D)(h:∀D xe,Lv n D->Td d ⟨D,gl,xe⟩ as R)(e:tab f=some d:=by kernel_rfl):Tp D f as R:=fun t tp=>by
 obtain⟨zs,i,l,k,rfl,g⟩:=id tp;exact Vt lv (fun D xe lv=>h D xe lv zs i l k tp) e
theorem V9(n:Nat){D:Cs}(lv:Lv (n+1) D):Ug D:=fun t m tp m0 m1=>by
 obtain⟨zs,i,l,k,rfl,h1,h2,h3,h4,h5⟩:=tp;exact Vt (d:=G5) lv fun D xe lv=>Zzb h1 h2 h3 h4 h5 m0 m1
theorem gw(n:Nat){D:Cs}(lv:Lv (n+1) D):K8 D:=fun m hm=>Vt (d:=U6) lv fun D xe lv=>vq (w:=⟨D,gl,xe⟩) hm
theorem Sk{k z:Str}(e:Yq k=some z):(k,z)∈X3:=by
 unfold Yq at e;obtain⟨p,h1,h2⟩:=Y7.mp e;have m:=List.mem_of_find?_eq_some h1;have q:=Dk (List.find?_some (p:=fun p:Str×Str=>decide (p.1=k)) h1);rw[<-q, <-h2];exact m
theorem tixP{x s:Str}{v:T}{Q:Sl->Prop}(e:Sv x s=some v)(q:Q (.f v)):on (Ww (.tix x) [.str s]) Q:=Z1 (by show (Sv x s).map Sl.f=_;rw[e];rfl) q
theorem dg{w:W}{s z:Str}{r:ZZ}(e:Yq s=some z):wF Jp w [.f (.tup (.str s::r))] fun x=>x=(.f (.str z),[]):=by
 have m:=Sk e;refine Zu rfl fun D rt _=>?_
 have t:Sv "ITEM_SORTS" s=some (.str z):=by
  simp only[X3,Ya,Prod.mk.injEq,J5,or_false]at m;rcases m with ⟨rfl,rfl⟩ | ⟨rfl,rfl⟩ | ⟨rfl,rfl⟩ | ⟨rfl,rfl⟩ | ⟨rfl,rfl⟩ | ⟨rfl,rfl⟩ | ⟨rfl,rfl⟩<;>kernel_rfl
 refine ip ?_;refine tixP t ?_;exact rt _ _ rfl
theorem p_is(n:Nat){D:Cs}(lv:Lv (n+1) D):PIS D:=fun e=>Vt (d:=Jp) lv fun D xe lv=>dg (w:=⟨D,gl,xe⟩) e
theorem As{w:W}{s:Str}{r y:ZZ}(e:(Zj [(.inr "truth",.tup [.int 0,.int 1]),(.inr "whole",.tup (Yx (.str s::r) (some 1) none))] (.inr s)).getD (.tup [])=.tup y):wF Ve w [.f (.tup (.str s::r))] fun x=>x=(.f (.tup y),[]):=by
 refine Zu rfl fun D rt _=>?_;refine ip ?_;show D.rt (.f ((Zj [(.inr "truth",.tup [.int 0,.int 1]),(.inr "whole",.tup (Yx (.str s::r) (some 1) none))] (.inr s)).getD (.tup []))) [.f (.tup (.str s::r))];rw[e];exact rt _ _ rfl
theorem gr(n:Nat){D:Cs}(lv:Lv (n+1) D):lq D:=⟨fun {t a b} h=>Vt (d:=Ve) lv fun D xe lv=>by
  cases h
  .exact As rfl
  .exact As rfl,fun {k z r} e ne=>Vt (d:=Ve) lv fun D xe lv=>by
  have m:=Sk e;simp only[X3,Ya,Prod.mk.injEq,J5,or_false]at m;rcases m with ⟨rfl,rfl⟩ | ⟨rfl,rfl⟩ | ⟨rfl,rfl⟩ | ⟨rfl,rfl⟩ | ⟨rfl,rfl⟩ | ⟨rfl,rfl⟩ | ⟨rfl,rfl⟩
  .exact absurd rfl ne
  .exact absurd rfl ne
  all_goals exact As rfl⟩
theorem ak(n:Nat){D:Cs}(lv:Lv (n+2) D):Tp D "_law_names" [] Pl:=wm (d:=Jm) lv (fun D xe lv=>fun zs i l k tp=>bf (w:=⟨D,gl,xe⟩) (V9 n lv) tp)
theorem aq(n:Nat){D:Cs}(lv:Lv (n+2) D){s:Str}(ns:ZG)(h:s = "whole" \/ s = "truth" \/ s = "text"):Tp D "_law_plain" [.f (.str s)] (wj (Zz7 ns)):=wm (d:=Jf) lv (fun D xe lv=>k6 (w:=⟨D,gl,xe⟩) (V9 n lv) h ns)
theorem qh(n:Nat){D:Cs}(lv:Lv (n+2) D){ns:ZG}{t:T}(h:Shp ns t\/t=.tup [.str "record"]):Tp D "_law_default" [.f t] (wj (DFit t)):=wm (d:=Uy) lv (fun D xe lv=>Iv (w:=⟨D,gl,xe⟩) (V9 n lv) h)
theorem qr(n:Nat){D:Cs}(lv:Lv (n+2) D):Tp D "_law_numbers" [] Pn:=wm (d:=Uw) lv (fun D xe lv=>Aw (w:=⟨D,gl,xe⟩) (V9 n lv))
theorem gc(n:Nat){D:Cs}(lv:Lv (n+2) D){ns:ZG}{b:Bool}{ps:ZZ}(h:Ys ns b ps):Tp D "_law_struck" [.f (.tup ps)] dt:=wm (d:=Up) lv (fun D xe lv=>qk (w:=⟨D,gl,xe⟩) (V9 n lv) h)
theorem aj(n:Nat){D:Cs}(lv:Lv (n+3) D){ns:ZG}{XY:ZX}(s:Str)(n0:0<ns.length)(n8:ns.length<=8)(hk:∀x t,Zj XY x=some t->Shp ns t):Tp D "_law_parts" [.f (.lst (ns.map .str)),.f (.dct XY),.f (.str s)] (Ai ns XY (decide (s = "record"))):=wm (d:=Jb) lv (fun D xe lv=>gq (w:=⟨D,gl,xe⟩) (V9 (n+1) lv) (gw (n+1) lv) (qr n lv) (fun t h=>qh n lv h) n0 n8 hk s)
theorem ax(n:Nat){D:Cs}(lv:Lv (n+1) D):n7 D:=fun ht hp=>Vt (d:=Jg) lv (fun D xe lv=>kg (w:=⟨D,gl,xe⟩) ht hp)
theorem S3(n:Nat){D:Cs}(lv:Lv (n+2) D):Mn D:=fun h h8=>Vt (d:=Uu) lv (fun D xe lv=>qn (w:=⟨D,gl,xe⟩) (ax n lv) h h8)
theorem zm(n:Nat){D:Cs}(lv:Lv (n+3) D):Xq D:=fun h=>Vt (d:=Jt) lv (fun D xe lv=>me (w:=⟨D,gl,xe⟩) (S3 n lv) h)
theorem p_make(n:Nat){D:Cs}(lv:Lv (n+4) D):Tp D "_law_make" [] Ws:=wm (d:=G4) lv (fun D xe lv=>o4 (w:=⟨D,gl,xe⟩) ⟨V9 (n+2) lv,fun ns h=>aq (n+1) lv ns h,fun s a b c=>aj n lv s a b c,fun h=>gc (n+1) lv h,ak (n+1) lv,zm n lv⟩)
theorem p_numt(n:Nat){D:Cs}(lv:Lv (n+2) D):Zqw D:=fun h=>wm (d:=Yf) lv (fun D xe lv=>Tv (w:=⟨D,gl,xe⟩) (V9 n lv) h)
theorem p_sht(n:Nat){D:Cs}(lv:Lv (n+3) D):PShT D:=fun a b c=>wm (d:=Yt) lv (fun D xe lv=>C1 (w:=⟨D,gl,xe⟩) (V9 (n+1) lv) (gw (n+1) lv) (p_numt n lv) a b c)
theorem ah(n:Nat){D:Cs}(lv:Lv (n+1) D):lz D:=fun a b c=>Vt (d:=Jl) lv (fun D xe lv=>ta (w:=⟨D,gl,xe⟩) a b c)
theorem gf(n:Nat){D:Cs}(lv:Lv (n+4) D):xu D:=fun h=>wm (d:=Uh) lv (fun D xe lv=>x8 (w:=⟨D,gl,xe⟩) (V9 (n+2) lv) (p_sht n lv) (ah (n+2) lv) (zm n lv) h)
theorem p_tape(n:Nat){D:Cs}(lv:Lv (n+1) D):Zqy D:=fun zs=>Vt (d:=G3) lv (fun D xe lv=>sv (w:=⟨D,gl,xe⟩) zs)
theorem Q1(n:Nat){D:Cs}(lv:Lv (n+1) D):K9 D:=Vt (d:=Y3) lv (fun D xe lv=>iw (w:=⟨D,gl,xe⟩))
theorem Tw(n:Nat){D:Cs}(lv:Lv (n+1) D):Ll D:=fun e=>Vt (d:=Mc) lv (fun D xe lv=>Zzy (w:=⟨D,gl,xe⟩) e)
theorem zf(n:Nat){D:Cs}(lv:Lv (n+1) D):n9 D:=fun e=>Vt (d:=Jw) lv (fun D xe lv=>qp (w:=⟨D,gl,xe⟩) e)
theorem Rp(n:Nat){D:Cs}(lv:Lv (n+1) D):Je "holds" D:=Vt (d:=R2) lv (fun D xe lv=>El (w:=⟨D,gl,xe⟩))
theorem Wk(n:Nat){D:Cs}(lv:Lv (n+1) D):Je "_law_holds" D:=Vt (d:=Jc) lv (fun D xe lv=>Pb (w:=⟨D,gl,xe⟩))
theorem u7(n:Nat){D:Cs}(lv:Lv (n+1) D):n5 D:=fun a b=>Vt (d:=G7) lv (fun D xe lv=>Ef (w:=⟨D,gl,xe⟩) a b)
theorem p_text(n:Nat){D:Cs}(lv:Lv (n+1) D):Zqv D:=fun a b=>Vt (d:=Mb) lv (fun D xe lv=>Au (w:=⟨D,gl,xe⟩) rfl a b)
theorem p_sng(n:Nat){D:Cs}(lv:Lv (n+2) D):PSng D:=fun a=>Vt (d:=Y4) lv (fun D xe lv=>qd (w:=⟨D,gl,xe⟩) (u7 n lv) (p_text n lv) a)
theorem ay(n:Nat){D:Cs}(lv:Lv (n+1) D):O2 D "are_pairs" [.f (.tup [])] (.f (.bl true),[]):=Vt (d:=Vd) lv (fun D xe lv=>gj (w:=⟨D,gl,xe⟩))
theorem az(n:Nat){D:Cs}(lv:Lv (n+1) D):O2 D "rises" [.f (.lst [])] (.f (.bl true),[]):=Vt (d:=R1) lv (fun D xe lv=>ye (w:=⟨D,gl,xe⟩))
theorem gn(n:Nat){D:Cs}(lv:Lv (n+2) D)(f:T):O2 D "are_labels" [.f (.lst []),.f f] (.f (.bl true),[]):=Vt (d:=Uo) lv (fun D xe lv=>qe (w:=⟨D,gl,xe⟩) (az n lv))
theorem p_pinr(n:Nat){D:Cs}(lv:Lv (n+1) D){o:Str}{q:Int}(h:0<=q):O2 D "parts_in_row" [.f (.tup [.str "row",.str o,.int q]),.f (.tup [])] (.o (.lst []),[]):=Vt (d:=Va) lv (fun D xe lv=>H9 (w:=⟨D,gl,xe⟩) h)
theorem p_pinm(n:Nat){D:Cs}(lv:Lv (n+3) D){o:Str}{q:Int}(h:0<=q):O2 D "parts_in_map" [.f (.tup [.str "map",.str o,.int q]),.f (.tup [])] (.o (.lst []),[]):=Vt (d:=Vo) lv (fun D xe lv=>Az (w:=⟨D,gl,xe⟩) rfl (ay (n+1) lv) (gn n lv) h)
theorem p_pin(n:Nat){D:Cs}(lv:Lv (n+4) D):PPin D:=fun a b=>Vt (d:=Ge) lv (fun D xe lv=>S2 (w:=⟨D,gl,xe⟩) (p_sng (n+1) lv) (fun h=>p_pinr (n+2) lv h) (fun h=>p_pinm n lv h) a b)
theorem p_thr(n:Nat){D:Cs}(lv:Lv (n+5) D):PThr D:=fun a b c=>Vt (d:=Yn) lv (fun D xe lv=>Hh (w:=⟨D,gl,xe⟩) (Tw (n+3) lv) (p_pin n lv) a b c)
theorem p_val(n:Nat){D:Cs}(lv:Lv (n+6) D):PVal D:=fun a b c=>Vt (d:=G8) lv (fun D xe lv=>Eb (w:=⟨D,gl,xe⟩) (p_thr n lv) a b c)
theorem p_rows(n:Nat){D:Cs}(lv:Lv (n+1) D):xa D (.tup []):=Vt (d:=Yw) lv (fun D xe lv=>ud (w:=⟨D,gl,xe⟩))
theorem u9(n:Nat){D:Cs}(lv:Lv (n+1) D):xa D (.lst []):=Vt (d:=Yw) lv (fun D xe lv=>yi (w:=⟨D,gl,xe⟩))
theorem p_maps(n:Nat){D:Cs}(lv:Lv (n+2) D):Zqg D:=Vt (d:=Vg) lv (fun D xe lv=>oi (w:=⟨D,gl,xe⟩) (u9 n lv))
theorem p_both(n:Nat){D:Cs}(lv:Lv (n+3) D):Zqm D:=fun a b c d=>Vt (d:=Vf) lv (fun D xe lv=>Zzs (w:=⟨D,gl,xe⟩) (Tw (n+1) lv) (fun e=>p_is (n+1) lv e) (p_rows (n+1) lv) (p_maps n lv) a b c d)
theorem p_alk(n:Nat){D:Cs}(lv:Lv (n+7) D):PAlk D:=fun a b c d e=>Vt (d:=Uj) lv (fun D xe lv=>yx (w:=⟨D,gl,xe⟩) (p_val n lv) (p_both (n+3) lv) a b c d e)
theorem p_lack(n:Nat){D:Cs}(lv:Lv (n+2) D):Zqf D:=fun a b=>Vt (d:=G0) lv (fun D xe lv=>ig (w:=⟨D,gl,xe⟩) (Q1 n lv) (zf n lv) a b)
theorem p_loa(n:Nat){D:Cs}(lv:Lv (n+8) D):PLoa D:=fun a b=>Vt (d:=Yy) lv (fun D xe lv=>loa_ok (w:=⟨D,gl,xe⟩) (Q1 (n+6) lv) (p_alk n lv) a b)
theorem p_arf(n:Nat){D:Cs}(lv:Lv (n+9) D):PARF D:=fun a b=>Vt (d:=Yr) lv (fun D xe lv=>arf_ok (w:=⟨D,gl,xe⟩) (p_lack (n+6) lv) (zf (n+7) lv) (Rp (n+7) lv) (p_loa n lv) a b)
theorem p_bo(n:Nat){D:Cs}(lv:Lv (n+1) D):PBo D:=fun a=>Vt (d:=Ju) lv (fun D xe lv=>j4 (w:=⟨D,gl,xe⟩) a)
theorem p_arm(n:Nat){D:Cs}(lv:Lv (n+2) D):PArm D:=fun a b=>Vt (d:=V0) lv (fun D xe lv=>arm_ok (w:=⟨D,gl,xe⟩) (zf n lv) (Rp n lv) a b)
theorem p_irp(n:Nat){D:Cs}(lv:Lv (n+10) D):PIRP D:=fun a b c d e f=>Vt (d:=Vm) lv (fun D xe lv=>irp_ok (w:=⟨D,gl,xe⟩) (Tw (n+8) lv) (fun e=>p_is (n+8) lv e) (p_bo (n+8) lv) (p_arf n lv) (p_arm (n+7) lv) (Rp (n+8) lv) a b c d e f)
theorem p_lal(n:Nat){D:Cs}(lv:Lv (n+2) D):PLAl D:=fun a b=>Vt (d:=Jh) lv (fun D xe lv=>Pd (w:=⟨D,gl,xe⟩) (gr n lv) a b)
theorem p_lfr(n:Nat){D:Cs}(lv:Lv (n+3) D):PLFR D:=fun a b c d=>Vt (d:=Yc) lv (fun D xe lv=>lfr_ok (w:=⟨D,gl,xe⟩) (Wk (n+1) lv) (p_lal n lv) a b c d)
theorem Zxb(n:Nat){D:Cs}(lv:Lv (n+4) D):PLPR D:=fun a b c d e f=>Vt (d:=Vj) lv (fun D xe lv=>lpr_ok (w:=⟨D,gl,xe⟩) (gr (n+2) lv) (p_lfr n lv) (Wk (n+2) lv) a b c d e f)
theorem gG:GL gl:=⟨by kernel_rfl,by kernel_rfl⟩
theorem p_nm(n:Nat){D:Cs}(lv:Lv (n+1) D):Zqk D:=fun a=>Vt (d:=Ui) lv fun D xe lv=>Aa (w:=⟨D,gl,xe⟩) gG a
theorem p_no(n:Nat){D:Cs}(lv:Lv (n+1) D):PNon D:=fun a b=>Vt (d:=Ui) lv fun D xe lv=>jw (w:=⟨D,gl,xe⟩) a b
theorem p_ifo(n:Nat){D:Cs}(lv:Lv (n+2) D):PFo D:=fun a=>Vt (d:=Mm) lv fun D xe lv=>Ao (w:=⟨D,gl,xe⟩) (p_nm n lv) (p_no n lv) a
theorem p_prs(n:Nat){D:Cs}(lv:Lv (n+1) D):PPrs D:=fun a b=>Vt (d:=Vd) lv fun D xe lv=>prs_ok (w:=⟨D,gl,xe⟩) a b
theorem p_pap(n:Nat){D:Cs}(lv:Lv (n+3) D):Zz8 "is_paper" D:=fun a=>Vt (d:=G9) lv fun D xe lv=>Em (w:=⟨D,gl,xe⟩) (p_prs (n+1) lv) (p_ifo n lv) a
theorem p_lpap(n:Nat){D:Cs}(lv:Lv (n+1) D):Zz8 "_law_is_paper" D:=fun a=>Vt (d:=Vi) lv fun D xe lv=>C5 (w:=⟨D,gl,xe⟩) a
theorem p_emp(n:Nat){D:Cs}(lv:Lv (n+2) D):PEmp D:=fun a b=>Vt (d:=Vw) lv fun D xe lv=>cj (w:=⟨D,gl,xe⟩) (Tw n lv) (Q1 n lv) a b
theorem gv(n:Nat){D:Cs}(lv:Lv (n+1) D):n6 D:=fun a=>Vt (d:=Uv) lv fun D xe lv=>rj (w:=⟨D,gl,xe⟩) a
theorem p_let(n:Nat){D:Cs}(lv:Lv (n+11) D):PLet "lets_read" D:=fun a b c=>Vt (d:=Jv) lv fun D xe lv=>iz (w:=⟨D,gl,xe⟩) (p_pap (n+7) lv) (Rp (n+9) lv) (p_emp (n+8) lv) (p_irp n lv) a b c
theorem p_va(n:Nat){D:Cs}(lv:Lv (n+2) D):PVa D:=fun a b c d=>Vt (d:=Gi) lv fun D xe lv=>O8 (w:=⟨D,gl,xe⟩) (fun e=>p_is n lv e) (p_bo n lv) a b c d
theorem p_mg(n:Nat){D:Cs}(lv:Lv (n+2) D):PMg D:=Vt (d:=Bu) lv fun D xe lv=>qu (w:=⟨D,gl,xe⟩) (Q1 n lv)
theorem p_kf(n:Nat){D:Cs}(lv:Lv (n+3) D):PKf D:=fun a b c d e f=>Vt (d:=Yu) lv fun D xe lv=>L1 (w:=⟨D,gl,xe⟩) (p_mg n lv) (Tw (n+1) lv) (p_va n lv) a b c d e f
theorem p_kp(n:Nat){D:Cs}(lv:Lv (n+4) D):PKp D:=fun a b c d e f g h=>Vt (d:=V1) lv fun D xe lv=>Pt (w:=⟨D,gl,xe⟩) (Tw (n+2) lv) (p_kf n lv) (zf (n+2) lv) a b c d e f g h
theorem p_keep(n:Nat){D:Cs}(lv:Lv (n+12) D):Zqb D:=fun a b c=>Vt (d:=Jy) lv fun D xe lv=>ic (w:=⟨D,gl,xe⟩) (p_let n lv) (p_kp (n+7) lv) a b c
theorem p_com(n:Nat){D:Cs}(lv:Lv (n+2) D):PCom D:=fun a b=>Vt (d:=Jr) lv fun D xe lv=>cy (w:=⟨D,gl,xe⟩) (gr n lv) a b
theorem p_pk(n:Nat){D:Cs}(lv:Lv (n+3) D):PPk D:=fun a b c d e f=>Vt (d:=Vb) lv fun D xe lv=>Q0 (w:=⟨D,gl,xe⟩) (p_com n lv) a b c d e f
theorem p_lby(n:Nat){D:Cs}(lv:Lv (n+5) D):PLby D:=fun a b c=>Vt (d:=Ua) lv fun D xe lv=>qo (w:=⟨D,gl,xe⟩) (p_lpap (n+3) lv) (Wk (n+3) lv) (gv (n+3) lv) (Zxb n lv) (p_pk (n+1) lv) a b c
theorem p_rt(n:Nat){D:Cs}(lv:Lv (n+13) D):PRt D:=fun a b c=>Vt (d:=Jk) lv fun D xe lv=>y2 (w:=⟨D,gl,xe⟩) (p_keep n lv) (p_lby (n+7) lv) a b c
theorem af(n:Nat){D:Cs}(lv:Lv (n+5) D):Ln D:=fun a b=>Vt (d:=Jn) lv fun D xe lv=>tm (w:=⟨D,gl,xe⟩) (gv (n+3) lv) (Zxb n lv) (p_pk (n+1) lv) a b
theorem ag(n:Nat){D:Cs}(lv:Lv (n+1) D):Lc D:=fun a=>Vt (d:=Jd) lv fun D xe lv=>b7 (w:=⟨D,gl,xe⟩) a
theorem au(n:Nat){D:Cs}(lv:Lv (n+2) D):Tp D "_law_codes" [] Ra:=wm (d:=Js) lv fun D xe lv=>cf (w:=⟨D,gl,xe⟩) (V9 n lv)
theorem p_bent(n:Nat){D:Cs}(lv:Lv (n+2) D):lj D:=fun a b c d e=>wm (d:=G6) lv fun D xe lv=>Zzh (w:=⟨D,gl,xe⟩) (V9 n lv) a b c d e
theorem m9(zs:ZT):Cn tab gl 14 "law" [.f (.lst (zs.map .int))] (fun x=>x=(.f (.bl true),[])) fun _=>False :=
 (Vt (d:=Kq) (n:=13) (D:=C 14) ⟨rfl⟩ fun D xe lv=>law_ok (w:=⟨D,gl,xe⟩) (p_tape 12 lv) (V9 12 lv) (p_make 9 lv) (gf 9 lv) (af 8 lv) (S3 11 lv) (ag 12 lv) (p_rt 0 lv) (au 11 lv) (p_bent 11 lv) zs:cN (C 14 "law" [.f (.lst (zs.map .int))]) fun x=>x=(.f (.bl true),[])) _ _ fun _ h=>h
theorem E7:FC "is_whole" (top 8) G7:=fun X G A=>A.fc (N:=["thing","low","high"]) X G (by decide +kernel) fun _ _ _ _ _ _ us hl=>by obtain⟨_,_,_,rfl⟩:=O9 hl;rfl
theorem A6:FC "is_text" (top 11) Mb:=fun X G A=>A.fc (N:=["thing","most"]) X G (by decide +kernel) fun _ _ _ _ _ _ us hl=>by obtain⟨_,_,rfl⟩:=Gf hl;rfl
theorem A7:FC "is_name" (top 12) Ui:=fun X G A=>A.fc (N:=["thing"]) X G (by decide +kernel) fun _ _ _ _ _ _ us hl=>by obtain⟨_,rfl⟩:=B4 hl;rfl
theorem ti:FC "rises" (top 13) R1:=fun X G A=>A.fc (N:=["things"]) X G (by decide +kernel) fun _ _ _ _ _ _ us hl=>by obtain⟨_,rfl⟩:=B4 hl;rfl
theorem Of:FC "are_pairs" (top 19) Vd:=fun X G A=>A.fc (N:=["thing"]) X G (by decide +kernel) fun _ _ _ _ _ _ us hl=>by obtain⟨_,rfl⟩:=B4 hl;rfl
theorem Fz:FC "are_labels" (top 20) Uo:=fun X G A=>A.fc (N:=["things","is_label"]) X G (by decide +kernel) fun _ _ _ _ _ _ us hl=>by obtain⟨_,_,rfl⟩:=Gf hl;rfl
theorem Np:FC "is_single_value" (top 23) Y4:=fun X G A=>A.fc (N:=["shape","thing"]) X G (by decide +kernel) fun _ _ _ _ _ _ us hl=>by obtain⟨_,_,rfl⟩:=Gf hl;rfl
theorem Oy:FC "item_sort" (top 24) Jp:=fun X G A=>A.fc (N:=["shape"]) X G (by decide +kernel) fun _ _ _ _ _ _ us hl=>by obtain⟨_,rfl⟩:=B4 hl;rfl
theorem Og:FC "bounds_of" (top 25) Ju:=fun X G A=>A.fc (N:=["shape"]) X G (by decide +kernel) fun _ _ _ _ _ _ us hl=>by obtain⟨_,rfl⟩:=B4 hl;rfl
theorem Pe:FC "member_of" (top 26) Jw:=fun X G A=>A.fc (N:=["shape","number","member"]) X G (by decide +kernel) fun _ _ _ _ _ _ us hl=>by obtain⟨_,_,rfl⟩:=Gf hl;rfl
theorem Nh:FC "may_be_left_out" (top 27) Y3:=fun X G A=>A.fc (N:=["field"]) X G (by decide +kernel) fun _ _ _ _ _ _ us hl=>by obtain⟨_,rfl⟩:=B4 hl;rfl
theorem A9:FC "form_of" (top 29) Mc:=fun X G A=>A.fc (N:=["make","name"]) X G (by decide +kernel) fun _ _ _ _ _ _ us hl=>by obtain⟨_,_,rfl⟩:=Gf hl;rfl
theorem A8:FC "is_form" (top 30) Mm:=fun X G A=>A.fc (N:=["make","thing"]) X G (by decide +kernel) fun _ _ _ _ _ _ us hl=>by obtain⟨_,_,rfl⟩:=Gf hl;rfl
theorem E8:FC "is_value" (top 32) G8:=fun X G A=>A.fc (N:=["make","name","thing"]) X G (by decide +kernel) fun _ _ _ _ _ _ us hl=>by obtain⟨_,_,_,rfl⟩:=O9 hl;rfl
theorem M0:FC "is_right_through" (top 33) Yn:=fun X G A=>A.fc (N:=["make","name","thing","own","waiting","part","inner"]) X G (by decide +kernel) fun _ _ _ _ _ _ us hl=>by obtain⟨_,_,_,_,rfl⟩:=wq hl;rfl
theorem E0:FC "parts_in" (top 34) Ge:=fun X G A=>A.fc (N:=["shape","thing","own","sort"]) X G (by decide +kernel) fun _ _ _ _ _ _ us hl=>by obtain⟨_,_,_,rfl⟩:=O9 hl;rfl
theorem C7:FC "parts_in_row" (top 35) Va:=fun X G A=>A.fc (N:=["shape","thing"]) X G (by decide +kernel) fun _ _ _ _ _ _ us hl=>by obtain⟨_,_,rfl⟩:=Gf hl;rfl
theorem C8:FC "parts_in_map" (top 36) Vo:=fun X G A=>A.fc (N:=["shape","thing"]) X G (by decide +kernel) fun _ _ _ _ _ _ us hl=>by obtain⟨_,_,rfl⟩:=Gf hl;rfl
theorem Wo:FC "tells_alike" (top 44) Uj:=fun X G A=>A.fc (N:=["make","name","value","other","other_name","told","waiting","inner"]) X G (by decide +kernel) fun _ _ _ _ _ _ us hl=>by obtain⟨_,_,_,_,_,_,rfl⟩:=us6 hl;rfl
theorem Ti:FC "parts_of_both" (top 45) Vf:=fun X G A=>A.fc (N:=["make","other","both","shape","other_shape","value","told","sort"]) X G (by decide +kernel) fun _ _ _ _ _ _ us hl=>by obtain⟨_,_,_,rfl⟩:=O9 hl;rfl
theorem Ta:FC "parts_of_rows" (top 46) Yw:=fun X G A=>A.fc (N:=["shape","value","other_shape","told"]) X G (by decide +kernel) fun _ _ _ _ _ _ us hl=>by obtain⟨_,_,_,_,rfl⟩:=wq hl;rfl
theorem To:FC "parts_of_maps" (top 47) Vg:=fun X G A=>A.fc (N:=["shape","value","other_shape","told"]) X G (by decide +kernel) fun _ _ _ _ _ _ us hl=>by obtain⟨_,_,_,_,rfl⟩:=wq hl;rfl
theorem P0:FC "lets_read" (top 51) Jv:=fun X G A=>A.fc (N:=["make","other","paper"]) X G (by decide +kernel) fun _ _ _ _ _ _ us hl=>by obtain⟨_,_,_,rfl⟩:=O9 hl;rfl
theorem P1:FC "lets_keep" (top 52) Jy:=fun X G A=>A.fc (N:=["make","other","paper"]) X G (by decide +kernel) fun _ _ _ _ _ _ us hl=>by obtain⟨_,_,_,rfl⟩:=O9 hl;rfl
theorem E9:FC "is_paper" (top 53) G9:=fun X G A=>A.fc (N:=["make","other","thing"]) X G (by decide +kernel) fun _ _ _ _ _ _ us hl=>by obtain⟨_,_,_,rfl⟩:=O9 hl;rfl
theorem te:FC "holds" (top 54) R2:=fun X G A=>A.fc (N:=["paper","w","r"]) X G (by decide +kernel) fun _ _ _ _ _ _ us hl=>by obtain⟨_,_,_,rfl⟩:=O9 hl;rfl
theorem Bl:FC "is_right_empty" (top 55) Vw:=fun X G A=>A.fc (N:=["make","paper","name","shape"]) X G (by decide +kernel) fun _ _ _ _ _ _ us hl=>by obtain⟨_,_,_,rfl⟩:=O9 hl;rfl
theorem T1:FC "is_right_pair" (top 56) Vm:=fun X G A=>A.fc (N:=["make","other","paper","pair","shape","other_shape","sort","bounds","other_bounds"]) X G (by decide +kernel) fun _ _ _ _ _ _ us hl=>by obtain⟨_,_,_,_,rfl⟩:=wq hl;rfl
theorem M1:FC "are_right_fields" (top 57) Yr:=fun X G A=>A.fc (N:=["make","other","paper","shape","other_shape","field","other_field"]) X G (by decide +kernel) fun _ _ _ _ _ _ us hl=>by obtain⟨_,_,_,_,_,rfl⟩:=us5 hl;rfl
theorem E1:FC "may_lack" (top 58) G0:=fun X G A=>A.fc (N:=["shape","other_shape"]) X G (by decide +kernel) fun _ _ _ _ _ _ us hl=>by obtain⟨_,_,rfl⟩:=Gf hl;rfl
theorem Dt:FC "are_left_out_alike" (top 59) Yy:=fun X G A=>A.fc (N:=["make","other","field","other_field"]) X G (by decide +kernel) fun _ _ _ _ _ _ us hl=>by obtain⟨_,_,_,_,rfl⟩:=wq hl;rfl
theorem Rz:FC "is_right_arm" (top 60) V0:=fun X G A=>A.fc (N:=["paper","arm","other_shape","other_arm"]) X G (by decide +kernel) fun _ _ _ _ _ _ us hl=>by obtain⟨_,_,_,rfl⟩:=O9 hl;rfl
theorem Rx:FC "is_kept_pair" (top 61) V1:=fun X G A=>A.fc (N:=["make","other","paper","pair","shape","other_shape"]) X G (by decide +kernel) fun _ _ _ _ _ _ us hl=>by obtain⟨_,_,_,_,rfl⟩:=wq hl;rfl
theorem T2:FC "is_kept_field" (top 62) Yu:=fun X G A=>A.fc (N:=["make","paper","field","other_field"]) X G (by decide +kernel) fun _ _ _ _ _ _ us hl=>by obtain⟨_,_,_,_,rfl⟩:=wq hl;rfl
theorem jc:FC "may_go" (top 63) Bu:=fun X G A=>A.fc (N:=["field","other_field"]) X G (by decide +kernel) fun _ _ _ _ _ _ us hl=>by obtain⟨_,_,rfl⟩:=Gf hl;rfl
theorem Ee:FC "value_as" (top 64) Gi:=fun X G A=>A.fc (N:=["shape","default","sort","bounds","n"]) X G (by decide +kernel) fun _ _ _ _ _ _ us hl=>by obtain⟨_,_,rfl⟩:=Gf hl;rfl
theorem E3:FC "_law_tape" (top 66) G3:=fun X G A=>A.fc (N:=["_law_script"]) X G (by decide +kernel) fun _ _ _ _ _ _ us hl=>by obtain⟨_,rfl⟩:=B4 hl;rfl
theorem E5:FC "_law_draw" (top 67) G5:=fun X G A=>A.fc (N:=["_law_tape_here","_law_many","_law_script","_law_spot","_law_left","_law_cell","_law_mixed"]) X G (by decide +kernel) fun _ _ _ _ _ _ us hl=>by obtain⟨_,_,rfl⟩:=Gf hl;rfl
theorem P4:FC "_law_price" (top 68) Jg:=fun X G A=>A.fc (N:=["_law_shape","_law_prices_here","_law_some"]) X G (by decide +kernel) fun _ _ _ _ _ _ us hl=>by obtain⟨_,_,rfl⟩:=Gf hl;rfl
theorem L7:FC "_law_prices" (top 69) Uu:=fun X G A=>A.fc (N:=["_law_make_here","_law_prices_here","_law_k","_law_name","_law_price_here"]) X G (by decide +kernel) fun _ _ _ _ _ _ us hl=>by obtain⟨_,rfl⟩:=B4 hl;rfl
theorem P9:FC "_law_light" (top 70) Jt:=fun X G A=>A.fc (N:=["_law_root","_law_forms","_law_name"]) X G (by decide +kernel) fun _ _ _ _ _ _ us hl=>by obtain⟨_,_,rfl⟩:=Gf hl;rfl
theorem E2:FC "_law_word" (top 71) U6:=fun X G A=>A.fc (N:=["_law_number"]) X G (by decide +kernel) fun _ _ _ _ _ _ us hl=>by obtain⟨_,rfl⟩:=B4 hl;rfl
theorem P7:FC "_law_names" (top 72) Jm:=fun X G A=>A.fc (N:=["_law_tape_here","_law_pool","_law_turn"]) X G (by decide +kernel) fun _ _ _ _ _ _ us hl=>by obtain⟨_,rfl⟩:=B4 hl;rfl
theorem P5:FC "_law_plain" (top 73) Jf:=fun X G A=>A.fc (N:=["_law_tape_here","_law_sort","_law_low"]) X G (by decide +kernel) fun _ _ _ _ _ _ us hl=>by obtain⟨_,_,rfl⟩:=Gf hl;rfl
theorem W0:FC "_law_default" (top 74) Uy:=fun X G A=>A.fc (N:=["_law_tape_here","_law_shape"]) X G (by decide +kernel) fun _ _ _ _ _ _ us hl=>by obtain⟨_,_,rfl⟩:=Gf hl;rfl
theorem Wi:FC "_law_numbers" (top 75) Uw:=fun X G A=>A.fc (N:=["_law_tape_here","_law_some"]) X G (by decide +kernel) fun _ _ _ _ _ _ us hl=>by obtain⟨_,rfl⟩:=B4 hl;rfl
theorem P6:FC "_law_parts" (top 76) Jb:=fun X G A=>A.fc (N:=["_law_tape_here","_law_names_here","_law_shapes","_law_sort","_law_parts_here","_law_number","_law_of","_law_part"]) X G (by decide +kernel) fun _ _ _ _ _ _ us hl=>by obtain⟨_,_,_,_,rfl⟩:=wq hl;rfl
theorem L6:FC "_law_struck" (top 77) Up:=fun X G A=>A.fc (N:=["_law_tape_here","_law_parts_here","_law_mine"]) X G (by decide +kernel) fun _ _ _ _ _ _ us hl=>by obtain⟨_,_,rfl⟩:=Gf hl;rfl
theorem E4:FC "_law_make" (top 78) G4:=fun X G A=>A.fc (N:=["_law_tape_here","_law_names_here","_law_sorts","_law_mine","_law_shapes","_law_name","_law_sort","_law_forms","_law_parts_here"]) X G (by decide +kernel) fun _ _ _ _ _ _ us hl=>by obtain⟨_,rfl⟩:=B4 hl;rfl
theorem D8:FC "_law_number_turned" (top 79) Yf:=fun X G A=>A.fc (N:=["_law_tape_here","_law_number","_law_low","_law_high"]) X G (by decide +kernel) fun _ _ _ _ _ _ us hl=>by obtain⟨_,_,_,_,rfl⟩:=wq hl;rfl
theorem Mi:FC "_law_shape_turned" (top 80) Yt:=fun X G A=>A.fc (N:=["_law_tape_here","_law_names_here","_law_shape","_law_some","_law_of","_law_parts_here","_law_at","_law_way","_law_number","_law_more","_law_mine","_law_struck_here","_law_turned_here"]) X G (by decide +kernel) fun _ _ _ _ _ _ us hl=>by obtain⟨_,_,_,rfl⟩:=O9 hl;rfl
theorem Oq:FC "_law_fixed" (top 81) Jl:=fun X G A=>A.fc (N:=["_law_forms","_law_shape","_law_fields","_law_number","_law_name","_law_of","_law_default_here","_law_form"]) X G (by decide +kernel) fun _ _ _ _ _ _ us hl=>by obtain⟨_,_,rfl⟩:=Gf hl;rfl
theorem L5:FC "_law_turned" (top 82) Uh:=fun X G A=>A.fc (N:=["_law_tape_here","_law_make_here","_law_names_here","_law_forms","_law_k","_law_name"]) X G (by decide +kernel) fun _ _ _ _ _ _ us hl=>by obtain⟨_,_,rfl⟩:=Gf hl;rfl
theorem L9:FC "_law_bounds" (top 83) Ve:=fun X G A=>A.fc (N:=["_law_shape"]) X G (by decide +kernel) fun _ _ _ _ _ _ us hl=>by obtain⟨_,rfl⟩:=B4 hl;rfl
theorem Oz:FC "_law_holds" (top 84) Jc:=fun X G A=>A.fc (N:=["_law_paper","_law_w","_law_r"]) X G (by decide +kernel) fun _ _ _ _ _ _ us hl=>by obtain⟨_,_,_,rfl⟩:=O9 hl;rfl
theorem Ov:FC "_law_alike" (top 85) Jh:=fun X G A=>A.fc (N:=["_law_shapes","_law_default_here","_law_there"]) X G (by decide +kernel) fun _ _ _ _ _ _ us hl=>by obtain⟨_,_,_,rfl⟩:=O9 hl;rfl
theorem Me:FC "_law_fields_right" (top 86) Yc:=fun X G A=>A.fc (N:=["_law_one","_law_other","_law_paper","_law_shape","_law_mate","_law_mine","_law_number","_law_title","_law_of","_law_default_here","_law_inner","_law_own","_law_shapes"]) X G (by decide +kernel) fun _ _ _ _ _ _ us hl=>by obtain⟨_,_,_,_,_,rfl⟩:=us5 hl;rfl
theorem Bc:FC "_law_pair_right" (top 87) Vj:=fun X G A=>A.fc (N:=["_law_one","_law_other","_law_paper","_law_w","_law_r","_law_shape","_law_mate","_law_bounds_here","_law_good","_law_arms","_law_number","_law_title","_law_of"]) X G (by decide +kernel) fun _ _ _ _ _ _ us hl=>by obtain⟨_,_,_,_,_,rfl⟩:=us5 hl;rfl
theorem Oj:FC "_law_comes" (top 88) Jr:=fun X G A=>A.fc (N:=["_law_shape","_law_default_here","_law_low","_law_high"]) X G (by decide +kernel) fun _ _ _ _ _ _ us hl=>by obtain⟨_,_,rfl⟩:=Gf hl;rfl
theorem Te:FC "_law_pair_kept" (top 89) Vb:=fun X G A=>A.fc (N:=["_law_one","_law_other","_law_paper","_law_w","_law_r","_law_shape","_law_mate","_law_mine","_law_number","_law_title","_law_of","_law_default_here","_law_inner"]) X G (by decide +kernel) fun _ _ _ _ _ _ us hl=>by obtain⟨_,_,_,_,_,rfl⟩:=us5 hl;rfl
theorem We:FC "_law_is_void" (top 90) Uv:=fun X G A=>A.fc (N:=["_law_shape","_law_empties"]) X G (by decide +kernel) fun _ _ _ _ _ _ us hl=>by obtain⟨_,_,rfl⟩:=Gf hl;rfl
theorem C9:FC "_law_is_paper" (top 91) Vi:=fun X G A=>A.fc (N:=["_law_one","_law_other","_law_thing","_law_pair"]) X G (by decide +kernel) fun _ _ _ _ _ _ us hl=>by obtain⟨_,_,_,rfl⟩:=O9 hl;rfl
theorem L8:FC "_law_let_by" (top 92) Ua:=fun X G A=>A.fc (N:=["_law_one","_law_other","_law_thing","_law_keeping","_law_w","_law_r"]) X G (by decide +kernel) fun _ _ _ _ _ _ us hl=>by obtain⟨_,_,_,_,rfl⟩:=wq hl;rfl
theorem Ox:FC "_law_great" (top 93) Jn:=fun X G A=>A.fc (N:=["_law_one","_law_other","_law_keeping","_law_empties","_law_k","_law_pairs","_law_w","_law_many","_law_paper"]) X G (by decide +kernel) fun _ _ _ _ _ _ us hl=>by obtain⟨_,_,_,rfl⟩:=O9 hl;rfl
theorem P8:FC "_law_mates" (top 94) Jd:=fun X G A=>A.fc (N:=["_law_one","_law_prices_here","_law_pairs"]) X G (by decide +kernel) fun _ _ _ _ _ _ us hl=>by obtain⟨_,_,rfl⟩:=Gf hl;rfl
theorem E6:FC "_law_bent" (top 95) G6:=fun X G A=>A.fc (N:=["_law_tape_here","_law_one","_law_other","_law_paper","_law_pairs","_law_empties","_law_at","_law_to","_law_names_here","_law_w","_law_r","_law_way"]) X G (by decide +kernel) fun _ _ _ _ _ _ us hl=>by obtain⟨_,_,_,_,rfl⟩:=wq hl;rfl
theorem Ow:FC "_law_codes" (top 96) Js:=fun X G A=>A.fc (N:=["_law_tape_here","_law_most","_law_form","_law_form_of_other","_law_default_here","_law_forms","_law_others"]) X G (by decide +kernel) fun _ _ _ _ _ _ us hl=>by obtain⟨_,rfl⟩:=B4 hl;rfl
theorem P2:FC "_law_right" (top 97) Jk:=fun X G A=>A.fc (N:=["_law_one","_law_other","_law_thing","_law_held","_law_found","_law_good"]) X G (by decide +kernel) fun _ _ _ _ _ _ us hl=>by obtain⟨_,_,_,rfl⟩:=O9 hl;rfl
theorem fc_law:FC "law" (top 98) Kq:=fun X G A=>A.fc (N:=["_law_script","_law_tape_here","_law_one","_law_other","_law_great_here","_law_paper","_law_k","_law_odd"]) X G (by decide +kernel) fun _ _ _ _ _ _ us hl=>by obtain⟨_,rfl⟩:=B4 hl;rfl
set_option maxHeartbeats 0 in
theorem all_mk{P:Program}{w:World}{K:W.Frag}{h:Heap}{mg:ZJ}{f1 f2 f3 f4 f5 f6 f7 f8 f9 f10 f11 f12 f13 f14 f15 f16 f17 f18 f19 f20 f21 f22 f23 f24 f25 f26 f27 f28 f29 f30 f31 f32 f33 f34 f35 f36 f37 f38 f39 f40 f41 f42 f43 f44 f45 f46 f47 f48 f49 f50 f51 f52 f53 f54 f55 f56 f57 f58 f59 f60 f61 f62 f63 f64 f65 f66 f67 f68 f69 f70 f71 f72 f73 f74 f75 f76 f77 f78 f79 f80 f81 f82 f83:Addr}{d1 d2 d3 d4 d5 d6 d7 d8 d9 d10 d11 d12 d13 d14 d15 d16 d17 d18 d19 d20 d21 d22 d23 d24 d25 d26 d27 d28 d29 d30 d31 d32 d33 d34 d35 d36 d37 d38 d39 d40 d41 d42 d43 d44 d45 d46 d47 d48 d49 d50 d51 d52 d53 d54 d55 d56 d57 d58 d59 d60 d61 d62 d63 d64 d65 d66 d67 d68 d69 d70 d71 d72 d73 d74 d75 d76 d77 d78 d79 d80 d81 d82 d83:FuncData}{tk0 tk1 tk2:Tok}{aITEM_SORTS:Addr}{esITEM_SORTS:Array DictEntry}{nITEM_SORTS:Nat}(X:K.In h)(G:h.Ns mainGlobals mg)
  (h1:FA K "is_whole" (top 8) f1 d1)
  (h2:FA K "is_item_whole" (top 9) f2 d2)
  (h3:FA K "is_number" (top 10) f3 d3)
  (h4:FA K "is_text" (top 11) f4 d4)
  (h5:FA K "is_name" (top 12) f5 d5)
  (h6:FA K "rises" (top 13) f6 d6)
  (h7:FA K "is_item" (top 14) f7 d7)
  (h8:FA K "level_below" (top 15) f8 d8)
  (h9:FA K "items_in" (top 16) f9 d9)
  (h10:FA K "is_right_outside" (top 17) f10 d10)
  (h11:FA K "is_right_behind" (top 18) f11 d11)
  (h12:FA K "are_pairs" (top 19) f12 d12)
  (h13:FA K "are_labels" (top 20) f13 d13)
  (h14:FA K "is_single_value" (top 23) f14 d14)
  (h15:FA K "item_sort" (top 24) f15 d15)
  (h16:FA K "bounds_of" (top 25) f16 d16)
  (h17:FA K "member_of" (top 26) f17 d17)
  (h18:FA K "may_be_left_out" (top 27) f18 d18)
  (h19:FA K "form_of" (top 29) f19 d19)
  (h20:FA K "is_form" (top 30) f20 d20)
  (h21:FA K "is_value" (top 32) f21 d21)
  (h22:FA K "is_right_through" (top 33) f22 d22)
  (h23:FA K "parts_in" (top 34) f23 d23)
  (h24:FA K "parts_in_row" (top 35) f24 d24)
  (h25:FA K "parts_in_map" (top 36) f25 d25)
  (h26:FA K "parts_in_record" (top 37) f26 d26)
  (h27:FA K "are_others" (top 38) f27 d27)
  (h28:FA K "parts_in_choice" (top 39) f28 d28)
  (h29:FA K "written" (top 41) f29 d29)
  (h30:FA K "written_fields" (top 42) f30 d30)
  (h31:FA K "tells_alike" (top 44) f31 d31)
  (h32:FA K "parts_of_both" (top 45) f32 d32)
  (h33:FA K "parts_of_rows" (top 46) f33 d33)
  (h34:FA K "parts_of_maps" (top 47) f34 d34)
  (h35:FA K "parts_of_records" (top 48) f35 d35)
  (h36:FA K "parts_of_choices" (top 49) f36 d36)
  (h37:FA K "lets_read" (top 51) f37 d37)
  (h38:FA K "lets_keep" (top 52) f38 d38)
  (h39:FA K "is_paper" (top 53) f39 d39)
  (h40:FA K "holds" (top 54) f40 d40)
  (h41:FA K "is_right_empty" (top 55) f41 d41)
  (h42:FA K "is_right_pair" (top 56) f42 d42)
  (h43:FA K "are_right_fields" (top 57) f43 d43)
  (h44:FA K "may_lack" (top 58) f44 d44)
  (h45:FA K "are_left_out_alike" (top 59) f45 d45)
  (h46:FA K "is_right_arm" (top 60) f46 d46)
  (h47:FA K "is_kept_pair" (top 61) f47 d47)
  (h48:FA K "is_kept_field" (top 62) f48 d48)
  (h49:FA K "may_go" (top 63) f49 d49)
  (h50:FA K "value_as" (top 64) f50 d50)
  (h51:FA K "_law_tape" (top 66) f51 d51)
  (h52:FA K "_law_draw" (top 67) f52 d52)
  (h53:FA K "_law_price" (top 68) f53 d53)
  (h54:FA K "_law_prices" (top 69) f54 d54)
  (h55:FA K "_law_light" (top 70) f55 d55)
  (h56:FA K "_law_word" (top 71) f56 d56)
  (h57:FA K "_law_names" (top 72) f57 d57)
  (h58:FA K "_law_plain" (top 73) f58 d58)
  (h59:FA K "_law_default" (top 74) f59 d59)
  (h60:FA K "_law_numbers" (top 75) f60 d60)
  (h61:FA K "_law_parts" (top 76) f61 d61)
  (h62:FA K "_law_struck" (top 77) f62 d62)
  (h63:FA K "_law_make" (top 78) f63 d63)
  (h64:FA K "_law_number_turned" (top 79) f64 d64)
  (h65:FA K "_law_shape_turned" (top 80) f65 d65)
  (h66:FA K "_law_fixed" (top 81) f66 d66)
  (h67:FA K "_law_turned" (top 82) f67 d67)
  (h68:FA K "_law_bounds" (top 83) f68 d68)
  (h69:FA K "_law_holds" (top 84) f69 d69)
  (h70:FA K "_law_alike" (top 85) f70 d70)
  (h71:FA K "_law_fields_right" (top 86) f71 d71)
  (h72:FA K "_law_pair_right" (top 87) f72 d72)
  (h73:FA K "_law_comes" (top 88) f73 d73)
  (h74:FA K "_law_pair_kept" (top 89) f74 d74)
  (h75:FA K "_law_is_void" (top 90) f75 d75)
  (h76:FA K "_law_is_paper" (top 91) f76 d76)
  (h77:FA K "_law_let_by" (top 92) f77 d77)
  (h78:FA K "_law_great" (top 93) f78 d78)
  (h79:FA K "_law_mates" (top 94) f79 d79)
  (h80:FA K "_law_bent" (top 95) f80 d80)
  (h81:FA K "_law_codes" (top 96) f81 d81)
  (h82:FA K "_law_right" (top 97) f82 d82)
  (h83:FA K "law" (top 98) f83 d83)
  (eITEM_SORTS:W.nsIn K mainGlobals "ITEM_SORTS" = some (some (.ref aITEM_SORTS)))
  (lITEM_SORTS:K.lookup aITEM_SORTS=some ⟨.type "dict",none,.dict esITEM_SORTS nITEM_SORTS, #[]⟩)
  (kITEM_SORTS:W.KeysLit w.params esITEM_SORTS.toList)
  (oITEM_SORTS:(aITEM_SORTS == sysModules)=false)
  (tITEM_SORTS:cq K ((Lu "ITEM_SORTS").getD []) esITEM_SORTS.toList=true)
  (Qg : W.nsIn K mainGlobals "SIGNS" = some (some (.str " !\"#$&'()*+,-./0123456789:;<=>?@ABCDEFGHIJKLMNOPQRSTUVWXYZ[\\]^_`abcdefghijklmnopqrstuvwxyz{|}~" tk0)))
  (B6:W.nsIn K mainGlobals "LETTERS" = some (some (.str "abcdefghijklmnopqrstuvwxyz" tk1)))
  (Ue:W.nsIn K mainGlobals "LONGEST_NAME" = some (some (.int 8 tk2)))
  (w6:W.nsIn K mainGlobals "len" = some none)
  (vz:W.nsIn K mainGlobals "all" = some none)
  (w8:W.nsIn K mainGlobals "any" = some none)
  (Hb:W.nsIn K mainGlobals "list" = some none)
  (Qy:W.nsIn K mainGlobals "tuple" = some none)
  (w4:W.nsIn K mainGlobals "min" = some none)
  (w5:W.nsIn K mainGlobals "max" = some none)
  (w7:W.nsIn K mainGlobals "int" = some none)
  (vx:W.nsIn K mainGlobals "abs" = some none)
  (Hm:W.nsIn K mainGlobals "dict" = some none)
  (Gb:W.nsIn K mainGlobals "isinstance" = some none)
  (R7:W.nsIn K mainGlobals "sorted" = some none)
  (we:W.nsIn K mainGlobals "set" = some none)
  (Qk:W.nsIn K mainGlobals "range" = some none)
  (wa:W.nsIn K mainGlobals "zip" = some none)
  (Ds:W.nsIn K mainGlobals "enumerate" = some none)
  (wo:W.nsIn K mainGlobals "sum" = some none)
  (Hf:W.nsIn K mainGlobals "repr" = some none)
  (wi:W.nsIn K mainGlobals "str" = some none)
  (Hd:W.nsIn K mainGlobals "bool" = some none)
  : BN ⟨P,w,mg,K,h⟩/\(∀f d,tab f=some d->Ut ⟨P,w,mg,K,h⟩ f d)/\wx ⟨P,w,mg,K,h⟩ gl:=by
 have fA:∀p∈tabA,Ut ⟨P,w,mg,K,h⟩ p.1 p.2:=by
  unfold tabA;refine Zl.mpr ⟨Nh (g:=⟨P,w,mg,K,h⟩) X G h18,Zl.mpr ⟨A9 (g:=⟨P,w,mg,K,h⟩) X G h19,Zl.mpr ⟨Pe (g:=⟨P,w,mg,K,h⟩) X G h17,Zl.mpr ⟨E7 (g:=⟨P,w,mg,K,h⟩) X G h1,Zl.mpr ⟨A6 (g:=⟨P,w,mg,K,h⟩) X G h4,Zl.mpr ⟨Np (g:=⟨P,w,mg,K,h⟩) X G h14,Zl.mpr ⟨Og (g:=⟨P,w,mg,K,h⟩) X G h16,Zl.mpr ⟨ti (g:=⟨P,w,mg,K,h⟩) X G h6,Zl.mpr ⟨Of (g:=⟨P,w,mg,K,h⟩) X G h12,Zl.mpr ⟨Fz (g:=⟨P,w,mg,K,h⟩) X G h13,Zl.mpr ⟨E8 (g:=⟨P,w,mg,K,h⟩) X G h21,Zl.mpr ⟨M0 (g:=⟨P,w,mg,K,h⟩) X G h22,Zl.mpr ⟨E0 (g:=⟨P,w,mg,K,h⟩) X G h23,Zl.mpr ⟨C7 (g:=⟨P,w,mg,K,h⟩) X G h24,Zl.mpr ⟨C8 (g:=⟨P,w,mg,K,h⟩) X G h25,Zl.mpr ⟨Wo (g:=⟨P,w,mg,K,h⟩) X G h31,Zl.mpr ⟨Ti (g:=⟨P,w,mg,K,h⟩) X G h32,Zl.mpr ⟨Ta (g:=⟨P,w,mg,K,h⟩) X G h33,Zl.mpr ⟨To (g:=⟨P,w,mg,K,h⟩) X G h34,Zl.mpr ⟨te (g:=⟨P,w,mg,K,h⟩) X G h40,Zl.mpr ⟨T1 (g:=⟨P,w,mg,K,h⟩) X G h42,Zl.mpr ⟨M1 (g:=⟨P,w,mg,K,h⟩) X G h43,Zl.mpr ⟨E1 (g:=⟨P,w,mg,K,h⟩) X G h44,Zl.mpr ⟨Dt (g:=⟨P,w,mg,K,h⟩) X G h45,Zl.mpr ⟨Rz (g:=⟨P,w,mg,K,h⟩) X G h46,Zl.mpr ⟨A7 (g:=⟨P,w,mg,K,h⟩) X G h5,Zl.mpr ⟨A8 (g:=⟨P,w,mg,K,h⟩) X G h20,Zl.mpr ⟨Oy (g:=⟨P,w,mg,K,h⟩) X G h15,Zl.mpr ⟨P0 (g:=⟨P,w,mg,K,h⟩) X G h37,Zl.mpr ⟨E9 (g:=⟨P,w,mg,K,h⟩) X G h39,Zl.mpr ⟨Bl (g:=⟨P,w,mg,K,h⟩) X G h41,Zl.mpr ⟨P1 (g:=⟨P,w,mg,K,h⟩) X G h38,Zl.mpr ⟨Rx (g:=⟨P,w,mg,K,h⟩) X G h47,Zl.mpr ⟨T2 (g:=⟨P,w,mg,K,h⟩) X G h48,Zl.mpr ⟨jc (g:=⟨P,w,mg,K,h⟩) X G h49,Zl.mpr ⟨Ee (g:=⟨P,w,mg,K,h⟩) X G h50,fun _ m=>absurd m J5⟩⟩⟩⟩⟩⟩⟩⟩⟩⟩⟩⟩⟩⟩⟩⟩⟩⟩⟩⟩⟩⟩⟩⟩⟩⟩⟩⟩⟩⟩⟩⟩⟩⟩⟩⟩
 have fB:∀p∈tabB,Ut ⟨P,w,mg,K,h⟩ p.1 p.2:=by
  unfold tabB;refine Zl.mpr ⟨E3 (g:=⟨P,w,mg,K,h⟩) X G h51,Zl.mpr ⟨E5 (g:=⟨P,w,mg,K,h⟩) X G h52,Zl.mpr ⟨P4 (g:=⟨P,w,mg,K,h⟩) X G h53,Zl.mpr ⟨L7 (g:=⟨P,w,mg,K,h⟩) X G h54,Zl.mpr ⟨P9 (g:=⟨P,w,mg,K,h⟩) X G h55,Zl.mpr ⟨E2 (g:=⟨P,w,mg,K,h⟩) X G h56,Zl.mpr ⟨P7 (g:=⟨P,w,mg,K,h⟩) X G h57,Zl.mpr ⟨P5 (g:=⟨P,w,mg,K,h⟩) X G h58,Zl.mpr ⟨W0 (g:=⟨P,w,mg,K,h⟩) X G h59,Zl.mpr ⟨Wi (g:=⟨P,w,mg,K,h⟩) X G h60,Zl.mpr ⟨P6 (g:=⟨P,w,mg,K,h⟩) X G h61,Zl.mpr ⟨L6 (g:=⟨P,w,mg,K,h⟩) X G h62,Zl.mpr ⟨E4 (g:=⟨P,w,mg,K,h⟩) X G h63,Zl.mpr ⟨D8 (g:=⟨P,w,mg,K,h⟩) X G h64,Zl.mpr ⟨Mi (g:=⟨P,w,mg,K,h⟩) X G h65,Zl.mpr ⟨Oq (g:=⟨P,w,mg,K,h⟩) X G h66,Zl.mpr ⟨L5 (g:=⟨P,w,mg,K,h⟩) X G h67,Zl.mpr ⟨Oz (g:=⟨P,w,mg,K,h⟩) X G h69,Zl.mpr ⟨Ov (g:=⟨P,w,mg,K,h⟩) X G h70,Zl.mpr ⟨Me (g:=⟨P,w,mg,K,h⟩) X G h71,Zl.mpr ⟨Bc (g:=⟨P,w,mg,K,h⟩) X G h72,Zl.mpr ⟨P2 (g:=⟨P,w,mg,K,h⟩) X G h82,Zl.mpr ⟨L9 (g:=⟨P,w,mg,K,h⟩) X G h68,Zl.mpr ⟨We (g:=⟨P,w,mg,K,h⟩) X G h75,Zl.mpr ⟨C9 (g:=⟨P,w,mg,K,h⟩) X G h76,Zl.mpr ⟨L8 (g:=⟨P,w,mg,K,h⟩) X G h77,Zl.mpr ⟨Ox (g:=⟨P,w,mg,K,h⟩) X G h78,Zl.mpr ⟨P8 (g:=⟨P,w,mg,K,h⟩) X G h79,Zl.mpr ⟨E6 (g:=⟨P,w,mg,K,h⟩) X G h80,Zl.mpr ⟨Oj (g:=⟨P,w,mg,K,h⟩) X G h73,Zl.mpr ⟨Te (g:=⟨P,w,mg,K,h⟩) X G h74,Zl.mpr ⟨Ow (g:=⟨P,w,mg,K,h⟩) X G h81,Zl.mpr ⟨fc_law (g:=⟨P,w,mg,K,h⟩) X G h83,fun _ m=>absurd m J5⟩⟩⟩⟩⟩⟩⟩⟩⟩⟩⟩⟩⟩⟩⟩⟩⟩⟩⟩⟩⟩⟩⟩⟩⟩⟩⟩⟩⟩⟩⟩⟩⟩
 have ft:∀p∈tabL,Ut ⟨P,w,mg,K,h⟩ p.1 p.2:=fun p m=>(Xj.mp m).elim (fA p) (fB p)
 have bl:∀x∈Mx,mg x=none:=by
  unfold Mx;refine Zl.mpr ⟨W.mg_none_of X G w6,Zl.mpr ⟨W.mg_none_of X G vz,Zl.mpr ⟨W.mg_none_of X G w8,Zl.mpr ⟨W.mg_none_of X G Hb,Zl.mpr ⟨W.mg_none_of X G Qy,Zl.mpr ⟨W.mg_none_of X G w4,Zl.mpr ⟨W.mg_none_of X G w5,Zl.mpr ⟨W.mg_none_of X G w7,Zl.mpr ⟨W.mg_none_of X G vx,Zl.mpr ⟨W.mg_none_of X G Hm,Zl.mpr ⟨W.mg_none_of X G Gb,Zl.mpr ⟨W.mg_none_of X G R7,Zl.mpr ⟨W.mg_none_of X G we,Zl.mpr ⟨W.mg_none_of X G Qk,Zl.mpr ⟨W.mg_none_of X G wa,Zl.mpr ⟨W.mg_none_of X G Ds,Zl.mpr ⟨W.mg_none_of X G wo,Zl.mpr ⟨W.mg_none_of X G Hf,Zl.mpr ⟨W.mg_none_of X G wi,Zl.mpr ⟨W.mg_none_of X G Hd,fun _ m=>absurd m J5⟩⟩⟩⟩⟩⟩⟩⟩⟩⟩⟩⟩⟩⟩⟩⟩⟩⟩⟩⟩
 have bd:∀x∈W2,∃a,mg x=some (.ref a)/\W.keepIn K (.ref a)=true:=by
  unfold W2
  refine Zl.mpr ⟨h1.at (g:=⟨P,w,mg,K,h⟩) X G,Zl.mpr ⟨h2.at (g:=⟨P,w,mg,K,h⟩) X G,Zl.mpr ⟨h3.at (g:=⟨P,w,mg,K,h⟩) X G,Zl.mpr ⟨h4.at (g:=⟨P,w,mg,K,h⟩) X G,Zl.mpr ⟨h5.at (g:=⟨P,w,mg,K,h⟩) X G,Zl.mpr ⟨h6.at (g:=⟨P,w,mg,K,h⟩) X G,Zl.mpr ⟨h7.at (g:=⟨P,w,mg,K,h⟩) X G,Zl.mpr ⟨h8.at (g:=⟨P,w,mg,K,h⟩) X G,Zl.mpr ⟨h9.at (g:=⟨P,w,mg,K,h⟩) X G,Zl.mpr ⟨h10.at (g:=⟨P,w,mg,K,h⟩) X G,Zl.mpr ⟨h11.at (g:=⟨P,w,mg,K,h⟩) X G,Zl.mpr ⟨h12.at (g:=⟨P,w,mg,K,h⟩) X G,Zl.mpr ⟨h13.at (g:=⟨P,w,mg,K,h⟩) X G,Zl.mpr ⟨h14.at (g:=⟨P,w,mg,K,h⟩) X G,Zl.mpr ⟨h15.at (g:=⟨P,w,mg,K,h⟩) X G,Zl.mpr ⟨h16.at (g:=⟨P,w,mg,K,h⟩) X G,Zl.mpr ⟨h17.at (g:=⟨P,w,mg,K,h⟩) X G,Zl.mpr ⟨h18.at (g:=⟨P,w,mg,K,h⟩) X G,Zl.mpr ⟨h19.at (g:=⟨P,w,mg,K,h⟩) X G,Zl.mpr ⟨h20.at (g:=⟨P,w,mg,K,h⟩) X G,Zl.mpr ⟨h21.at (g:=⟨P,w,mg,K,h⟩) X G,Zl.mpr ⟨h22.at (g:=⟨P,w,mg,K,h⟩) X G,Zl.mpr ⟨h23.at (g:=⟨P,w,mg,K,h⟩) X G,Zl.mpr ⟨h24.at (g:=⟨P,w,mg,K,h⟩) X G,Zl.mpr ⟨h25.at (g:=⟨P,w,mg,K,h⟩) X G,Zl.mpr ⟨h26.at (g:=⟨P,w,mg,K,h⟩) X G,Zl.mpr ⟨h27.at (g:=⟨P,w,mg,K,h⟩) X G,Zl.mpr ⟨h28.at (g:=⟨P,w,mg,K,h⟩) X G,Zl.mpr ⟨h29.at (g:=⟨P,w,mg,K,h⟩) X G,Zl.mpr ⟨h30.at (g:=⟨P,w,mg,K,h⟩) X G,Zl.mpr ⟨h31.at (g:=⟨P,w,mg,K,h⟩) X G,Zl.mpr ⟨h32.at (g:=⟨P,w,mg,K,h⟩) X G,Zl.mpr ⟨h33.at (g:=⟨P,w,mg,K,h⟩) X G,Zl.mpr ⟨h34.at (g:=⟨P,w,mg,K,h⟩) X G,Zl.mpr ⟨h35.at (g:=⟨P,w,mg,K,h⟩) X G,Zl.mpr ⟨h36.at (g:=⟨P,w,mg,K,h⟩) X G,Zl.mpr ⟨h37.at (g:=⟨P,w,mg,K,h⟩) X G,Zl.mpr ⟨h38.at (g:=⟨P,w,mg,K,h⟩) X G,Zl.mpr ⟨h39.at (g:=⟨P,w,mg,K,h⟩) X G,Zl.mpr ⟨h40.at (g:=⟨P,w,mg,K,h⟩) X G,Zl.mpr ⟨h41.at (g:=⟨P,w,mg,K,h⟩) X G,Zl.mpr ⟨h42.at (g:=⟨P,w,mg,K,h⟩) X G,Zl.mpr ⟨h43.at (g:=⟨P,w,mg,K,h⟩) X G,Zl.mpr ⟨h44.at (g:=⟨P,w,mg,K,h⟩) X G,Zl.mpr ⟨h45.at (g:=⟨P,w,mg,K,h⟩) X G,Zl.mpr ⟨h46.at (g:=⟨P,w,mg,K,h⟩) X G,Zl.mpr ⟨h47.at (g:=⟨P,w,mg,K,h⟩) X G,Zl.mpr ⟨h48.at (g:=⟨P,w,mg,K,h⟩) X G,Zl.mpr ⟨h49.at (g:=⟨P,w,mg,K,h⟩) X G,Zl.mpr ⟨h50.at (g:=⟨P,w,mg,K,h⟩) X G,Zl.mpr ⟨h51.at (g:=⟨P,w,mg,K,h⟩) X G,Zl.mpr ⟨h52.at (g:=⟨P,w,mg,K,h⟩) X G,Zl.mpr ⟨h53.at (g:=⟨P,w,mg,K,h⟩) X G,Zl.mpr ⟨h54.at (g:=⟨P,w,mg,K,h⟩) X G,Zl.mpr ⟨h55.at (g:=⟨P,w,mg,K,h⟩) X G,Zl.mpr ⟨h56.at (g:=⟨P,w,mg,K,h⟩) X G,Zl.mpr ⟨h57.at (g:=⟨P,w,mg,K,h⟩) X G,Zl.mpr ⟨h58.at (g:=⟨P,w,mg,K,h⟩) X G,Zl.mpr ⟨h59.at (g:=⟨P,w,mg,K,h⟩) X G,Zl.mpr ⟨h60.at (g:=⟨P,w,mg,K,h⟩) X G,Zl.mpr ⟨h61.at (g:=⟨P,w,mg,K,h⟩) X G,Zl.mpr ⟨h62.at (g:=⟨P,w,mg,K,h⟩) X G,Zl.mpr ⟨h63.at (g:=⟨P,w,mg,K,h⟩) X G,Zl.mpr ⟨h64.at (g:=⟨P,w,mg,K,h⟩) X G,Zl.mpr ⟨h65.at (g:=⟨P,w,mg,K,h⟩) X G,Zl.mpr ⟨h66.at (g:=⟨P,w,mg,K,h⟩) X G,Zl.mpr ⟨h67.at (g:=⟨P,w,mg,K,h⟩) X G,Zl.mpr ⟨h68.at (g:=⟨P,w,mg,K,h⟩) X G,Zl.mpr ⟨h69.at (g:=⟨P,w,mg,K,h⟩) X G,Zl.mpr ⟨h70.at (g:=⟨P,w,mg,K,h⟩) X G,Zl.mpr ⟨h71.at (g:=⟨P,w,mg,K,h⟩) X G,Zl.mpr ⟨h72.at (g:=⟨P,w,mg,K,h⟩) X G,Zl.mpr ⟨h73.at (g:=⟨P,w,mg,K,h⟩) X G,Zl.mpr ⟨h74.at (g:=⟨P,w,mg,K,h⟩) X G,Zl.mpr ⟨h75.at (g:=⟨P,w,mg,K,h⟩) X G,Zl.mpr ⟨h76.at (g:=⟨P,w,mg,K,h⟩) X G,Zl.mpr ⟨h77.at (g:=⟨P,w,mg,K,h⟩) X G,Zl.mpr ⟨h78.at (g:=⟨P,w,mg,K,h⟩) X G,Zl.mpr ⟨h79.at (g:=⟨P,w,mg,K,h⟩) X G,Zl.mpr ⟨h80.at (g:=⟨P,w,mg,K,h⟩) X G,Zl.mpr ⟨h81.at (g:=⟨P,w,mg,K,h⟩) X G,Zl.mpr ⟨h82.at (g:=⟨P,w,mg,K,h⟩) X G,Zl.mpr ⟨h83.at (g:=⟨P,w,mg,K,h⟩) X G,fun _ m=>absurd m J5⟩⟩⟩⟩⟩⟩⟩⟩⟩⟩⟩⟩⟩⟩⟩⟩⟩⟩⟩⟩⟩⟩⟩⟩⟩⟩⟩⟩⟩⟩⟩⟩⟩⟩⟩⟩⟩⟩⟩⟩⟩⟩⟩⟩⟩⟩⟩⟩⟩⟩⟩⟩⟩⟩⟩⟩⟩⟩⟩⟩⟩⟩⟩⟩⟩⟩⟩⟩⟩⟩⟩⟩⟩⟩⟩⟩⟩⟩⟩⟩⟩⟩⟩
 have bt:∀x XY,Lu x=some XY->TopF ⟨P,w,mg,K,h⟩ x XY:=fun x XY e=>by
  have e0:=e;unfold Lu at e0
  split at e0
  .rename_i z;subst z;cases e0;exact sj (g:=⟨P,w,mg,K,h⟩) X G eITEM_SORTS lITEM_SORTS kITEM_SORTS oITEM_SORTS tITEM_SORTS (by decide +kernel) (by decide)
  cases e0
 refine⟨⟨bl,bd,bt⟩,tab_of ft,fun x t e=>?_⟩;unfold gl at e
 split at e
 .rename_i z;subst z;cases e;exact⟨_,W.mg_of X G Qg,.str⟩
 split at e
 .rename_i z;subst z;cases e;exact⟨_,W.mg_of X G B6,.str⟩
 split at e
 .rename_i z;subst z;cases e;exact⟨_,W.mg_of X G Ue,.int⟩
 split at e
 .rename_i z;subst z;cases e;exact⟨.ref f5,W.mg_of X G h5.a,.fn (W.mg_of X G h5.a) h5.F.kp⟩
 cases e
end K42
open PySem PySem.W PyProof.Rows
set_option maxRecDepth 100000 in
set_option maxHeartbeats 0 in
theorem K42.ws:PySem.Challenge.rw_makes_k42_papers_for_keeping.wellSaid=true:=by
 delta OpenLaw.wellSaid
 iterate 18 refine look_both ?_ ?_
 case _ =>
  delta OpenRow.wellSaid
  refine look_both (look_both ?_ ?_) ?_
  case _ =>
   delta OpenRow.partSaid
   iterate 13 refine look_both ?_ ?_
   case _ =>
    delta looksOpen
    iterate 5 refine look_both ?_ ?_
    all_goals decide +kernel
   all_goals decide +kernel
  all_goals decide +kernel
 all_goals decide +kernel
set_option maxRecDepth 100000 in
set_option maxHeartbeats 0 in
theorem PySem.Challenge.cw_makes_k42_papers_for_keeping_holds : PySem.Challenge.rw_makes_k42_papers_for_keeping.Holds := by
 w_on
 refine holds_law K42.ws fun said=>?_
 refine holds_open (q:=K42.viewK) (loose:=K42.Y1) (XP:=XL K42.viewK []) (YP:=Hook.says (W.kHook K42.heapK K42.asK K42.Oe)) (N:=5446)
  K42.leftK (Hook.of (W.kHook K42.heapK K42.asK K42.Oe)) (Hook.keeps (W.kHook K42.heapK K42.asK K42.Oe)) (fun s e=>xl_of s (Hq.mp e).1)
  XL.keeps (by rfl) (by rfl) (by rfl) (fun s e=>recFacts_of (Hq.mp e).2) (by rfl) (by assumption)
  (by decide +kernel) ⟨rfl,rfl,rfl,rfl,rfl,by decide +kernel⟩ ?hw ?hc
 case hw=>w_witness2
 k_fill
 refine PV.walkE (l:=PySem.Challenge.rw_makes_k42_papers_for_keeping) (n:=13) (df:=K42.Kq) (tab:=K42.tab) (gl:=K42.gl) rfl rfl ⟨rfl,by decide,by decide,rfl⟩ rfl (fun w h Y=>W.kIn_of Y) (by kernel_rfl) ?F fun zs _=>K42.m9 zs
 case F =>
  intro w mg h KX G;refine' K42.all_mk KX G ?h1 ?h2 ?h3 ?h4 ?h5 ?h6 ?h7 ?h8 ?h9 ?h10 ?h11 ?h12 ?h13 ?h14 ?h15 ?h16 ?h17 ?h18 ?h19 ?h20 ?h21 ?h22 ?h23 ?h24 ?h25 ?h26 ?h27 ?h28 ?h29 ?h30 ?h31 ?h32 ?h33 ?h34 ?h35 ?h36 ?h37 ?h38 ?h39 ?h40 ?h41 ?h42 ?h43 ?h44 ?h45 ?h46 ?h47 ?h48 ?h49 ?h50 ?h51 ?h52 ?h53 ?h54 ?h55 ?h56 ?h57 ?h58 ?h59 ?h60 ?h61 ?h62 ?h63 ?h64 ?h65 ?h66 ?h67 ?h68 ?h69 ?h70 ?h71 ?h72 ?h73 ?h74 ?h75 ?h76 ?h77 ?h78 ?h79 ?h80 ?h81 ?h82 ?h83 ?eITEM_SORTS ?lITEM_SORTS ?kITEM_SORTS ?oITEM_SORTS ?tITEM_SORTS ?Qg ?B6 ?Ue ?w6 ?vz ?w8 ?Hb ?Qy ?w4 ?w5 ?w7 ?vx ?Hm ?Gb ?R7 ?we ?Qk ?wa ?Ds ?wo ?Hf ?wi ?Hd
  case h1|h2|h3|h4|h5|h6|h7|h8|h9|h10|h11|h12|h13|h14|h15|h16|h17|h18|h19|h20|h21|h22|h23|h24|h25|h26|h27|h28|h29|h30|h31|h32|h33|h34|h35|h36|h37|h38|h39|h40|h41|h42|h43|h44|h45|h46|h47|h48|h49|h50|h51|h52|h53|h54|h55|h56|h57|h58|h59|h60|h61|h62|h63|h64|h65|h66|h67|h68|h69|h70|h71|h72|h73|h74|h75|h76|h77|h78|h79|h80|h81|h82|h83=>exact⟨by k_is,PV.Zc.mk' (by k_is) (by k_is) (by k_is)⟩
  case eITEM_SORTS|lITEM_SORTS=>k_is
  case kITEM_SORTS=>k_keys
  case oITEM_SORTS|tITEM_SORTS=>kernel_rfl
  case Qg|B6|Ue|w6|vz|w8|Hb|Qy|w4|w5|w7|vx|Hm|Gb|R7|we|Qk|wa|Ds|wo|Hf|wi|Hd=>k_is
